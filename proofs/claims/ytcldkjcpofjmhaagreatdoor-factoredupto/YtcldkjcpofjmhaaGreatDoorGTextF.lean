import Derived.Test.YtcldkjcpofjmhaaGreatDoorGLitsF
import Derived.Laws.AppendOwnNone
open List renaming take_succ_eq_append_getElem→zy,append_assoc→zw,map_append→zv,mem_append→zu,map_singleton→zt,flatMap_singleton→zs,length_append→zr,flatMap_cons→zq,getElem_mem→zo,take_length→zn,mem_map→zm,flatMap_append→zl,mem_flatMap→zj,getElem_map→zi,nil_append→zh,getD_eq_getElem?_getD→zg,mem_cons→ze,getElem?_eq_getElem→zd,cons_append→zc,mem_filterMap→zb,nodup_append→z0,length_cons→z3
open Nat renaming le_refl→zz,zero_le→zp,zero_add→z1
open Or renaming inr→za,inl→z5
open Prod renaming fst→zx
namespace Go.Proofs.YtcldkjcpofjmhaaGreatDoor
open _root_.Go.Proofs.Tryz renaming prog→zk,ntmps21→z2,func21→z4
open World renaming ownsRow_nil→zf
set_option maxHeartbeats 4000000
set_option maxRecDepth 100000
open Go.RowKit Go.WideMaps
variable{s:ByteArray}{CV:List Pc}{T:List Tk}{B:Nat}{vC:Value}{w:World}
def aP3(B pb:Nat)(w:World)(s:ByteArray)(T:List Tk)(g:Nat)(r:Except Nat (bB×List (Nat×List Lt)))(e:Ending)(w':World):Prop:=
 Below B w w'/\
  match r with
  | .ok (s1,cs)=>∃vC vP CV,e=.returned (.bool true)/\rX B w' pb s T s1 g vC vP CV/\CV.map iX=cs
  | .error p=>∃i vC vP vM,e=.returned (.bool false)/\dK B w' pb s T i g vC vP vM/\(aE T i).pos=p
structure TLq(B pb:Nat)(w:World)(s:ByteArray)(T:List Tk)(g:Nat)(r:Except Nat (bB×List (Nat×List Lt)))(k:Nat)(wr:World)(st:bB)(vC vP:Value)(CV:List Pc):Prop where
 t:rX B wr pb s T st g vC vP CV
 low:Below B w wr
 eq:r=kF T k st (CV.map iX)
 fuel:T.length<st.i+k
 pl:st.places.length<=st.i
 few:CV.length<=st.i
theorem aP4{pb:Nat}{g:Nat}{vP:Value}{st:bB}(hT:∀i,(aE T i).kind∈gP)(hx:∀i,(aE T i).txt.size<=1000000)(hs:s.size<=3000)(hTl:T.length<=1000000)(hC:∀st st' c,nT T st=.ok (st',c)->st.i<T.length->st.i<st'.i/\st'.places.length<=st.places.length+(st'.i-st.i))(h:rX B w pb s T st g vC vP CV)(hBw:B<=w.heap.size)(hp1:st.places.length<=st.i)(hc1:CV.length<=st.i) :
  Calls zk 31 #[.pointer (some ⟨pb,0,none⟩)] w λe w'=>aP3 B pb w s T g (kF T (T.length+1) st (CV.map iX)) e w':=by
 have H0:Hid (TLq B pb w s T g (kF T (T.length+1) st (CV.map iX)) (T.length+1) w st vC vP CV):=aA ⟨h,Below.refl _ _,rfl,by omega,hp1,hc1⟩;obtain ⟨R,hR⟩ : ∃R,kF T (T.length+1) st (CV.map iX)=R:=⟨_,rfl⟩;rw [hR] at H0;simp only [hR];have HT:=aA hT;have HX:=aA hx;have HC:=aA hC;clear h hR hT hx hp1 hc1 hC;go_enter Tryz.func31,Tryz.ntmps31;go_wp2;go_loopg [] (T.length+1) (λk wr=>∃st' vC' vP' CV',TLq B pb w s T g R k wr st' vC' vP' CV');case atStart=>exact ⟨st,vC,vP,CV,H0.out⟩
 case round=>
  clear H0;obtain ⟨st',vC',vP',CV',hL⟩:=hrel;obtain ⟨vM,hpp⟩:=hL.t.pp;have hlt:=hpp.lt;obtain ⟨left,hb,hBp⟩:=hpp.box;have hfu:=hL.fuel;have hpl:=hL.pl;have hfew:=hL.few;have hz:=hL.low.size;have d1:=hb.c1;obtain ⟨k',rfl⟩ : ∃k',gk=k'+1:=⟨gk-1,by omega⟩;by_cases h101:(aE T st'.i).kind=101
  ·rw [h101,show dO 101=-1 from rfl] at d1;have HR:Hid (R=.ok (st',CV'.map iX)):=aA (by rw [hL.eq,kF,if_pos h101]);have HL:=aA hL;clear hL hb hpp;go_wp2_with fail;go_ret;refine ⟨HL.out.low,?_⟩;rw [HR.out];exact ⟨_,_,_,rfl,HL.out.t,rfl⟩
  ·have hne:(dO (aE T st'.i).kind != -1)=true:=by
    simp only [bne_iff_ne];intro e;exact h101 (aBe _ (HT.out st'.i) 101 (by decide) (by rw [e];rfl))
   have CC:=aA (aNr HT.out HX.out hs hTl hL.t (Nat.le_trans hBw hz) hpl hfew);have HEQ:=aA hL.eq;have HL:=aA hL;clear hL hb hpp;obtain ⟨kk,hkk⟩ : ∃kk,dO (aE T st'.i).kind=kk:=⟨_,rfl⟩;rw [hkk] at d1 hne;clear hkk;cases hq:nT T st' with
   | error p=>
    rw [hq] at CC;have HR:Hid (R=.error p):=aA (by rw [HEQ.out,kF,if_neg h101,hq]);clear hq HEQ;go_wp2_with (first
     | (go_at_call 50;refine (aB CC).mono ?_;rintro e w1 ⟨hb1,i1,vC1,vP1,vM1,rfl,hp1,hpos⟩;have HB1:=aA hb1;have HP1:=aA hp1;have HPO:=aA hpos;clear hb1 hp1 hpos)
     | go_in)
    go_ret;refine ⟨HL.out.low.trans HB1.out,?_⟩;rw [HR.out];exact ⟨_,_,_,_,rfl,HP1.out,HPO.out⟩
   | ok y=>
    obtain ⟨s2,c⟩:=y;have hon:=HC.out _ _ _ hq hlt;rw [hq] at CC;have HR:Hid (R=kF T k' s2 (CV'.map iX++[((aE T st'.i).pos,c)])):=aA (by rw [HEQ.out,kF,if_neg h101,hq]);clear hq HEQ;go_wp2_with (first
     | (go_at_call 50;refine (aB CC).mono ?_;rintro e w1 ⟨hb1,vC1,vP1,P,vl,rfl,ht1,hPc⟩;have HB1:=aA hb1;have HT1:=aA ht1;have HPC:=aA hPc;clear hb1 ht1 hPc)
     | go_in)
    go_roundg k';case measure=>omega
    case rel=>exact ⟨s2,vC1,vP1,_,HT1.out,HL.out.low.trans HB1.out,by rw [HR.out,zv,zt,iX,HPC.out],by omega,by omega,by simp;omega⟩
theorem aP5{w:World}{ops:Array Oper}{rest:List Oper}{o:Oper}{a:Act}{Q:Exit->Act->World->Prop}(hgd:o.guard=none)(s x:Operand)(t:TypeId)
  (ho:o.op=.call {callee:=.builtin .append,args:=#[s,x],argTypes:=#[t,t]})
  (base:Nat) (e:TypeId) (i:TypeInfo) (z:Value) (size bytes:Nat) (ht:zk.underlying t=some (.slice e)) (hi:zk.info? e=some i) (hz:i.zero=some z) (hsize:i.size=size) (hby:i.bytes=bytes) (hzs:z.cells.size=size) (hsz:0<size)
  (v:Value) (n:Nat) (xs:List Value) (hs:a.eval s=v) (hown:w.ownsRow base e size v n xs) (v2:Value) (m base2:Nat) (ys:List Value) (hx:a.eval x=v2) (hown2:w.ownsRow base2 e size v2 m ys) (h1:∀u∈ys,u.oneCell'=true) (hmax:n+m<=maxLen) (hbytes:(n+m)*bytes<=140737488355328) (hbase:base<=w.heap.size)
  (h:∀v' w',w'.ownsRow base e size v' (n+m) (xs++ys)->w.grownBy w' v.ownBlock->wpList zk ops Q rest (a.put o.dst v') w'):wpList zk ops Q (o :: rest) a w:=by
 have hc:=hown2;obtain ⟨hl,⟨rfl,hm⟩ | ⟨g,cap,cur,rfl,hb,hh,hrest⟩⟩:=hown2
 ·subst hm;have hys:ys=[]:=List.eq_nil_of_length_eq_zero (by omega);subst hys;refine wpList_append_own_none hgd s x t ho base e i size ht hi v n xs hs hown hx ?_;exact h v w (by simpa using hown) (World.grownBy.refl _ _)
 ·refine wpList_append_own w hgd s x t ho base e i z size bytes ht hi hz hsize hby hzs hsz v n xs hs hown ⟨g,0,none⟩ m cap ys hx hl (λj u hj=>?_) h1 hmax hbytes hbase (λv' w' r1 r2 _=>h v' w' r1 r2);have hjl:=(List.getElem?_eq_some_iff.1 hj).1;have:=hc.cellAt j (by omega);rw [hj] at this;cases j with
  | zero=>simpa [Addr.add] using this
  | succ j=>simpa [Addr.add] using this
theorem zA(CV:List Pc):∀k (h:k<CV.length),(oF CV)[k*2]?=some (.int .i64 CV[k].1.1)/\(oF CV)[k*2+1]?=some CV[k].2:=by
 induction CV with
 | nil=>intro k h;simp at h
 | cons x r ih=>
  intro k h;cases k with
  | zero=>simp [oF]
  | succ k=>
   have:=ih k (by simpa using h);have e1:(k+1)*2=k*2+2:=by omega
   rw [e1];simp only [oF,zq,zc,zh,List.getElem_cons_succ] at this ⊢;have e2:k*2+2+1=k*2+1+2:=by omega
   rw [e2];simp only [List.getElem?_cons_succ];exact this
theorem aP6(U:List Us):∀u∈gG U,u.oneCell'=true:=by intro u hu;unfold gG at hu;rw [zj] at hu;obtain ⟨x,_,hx⟩:=hu;simp at hx;rcases hx with rfl | rfl | rfl <;> rfl
theorem aP7(U V:List Us):gG (U++V)=gG U++gG V:=by simp [gG]
structure aBo(p:Pc):Prop where
 short:∀q∈p.1.2,dS q.1.2
 count:aK (p.1.2.map zx)<=100000
 len:p.1.2.length<=100000
def fO(CV:List Pc):List Us:=CV.flatMap λp=>pI (p.1.2.map zx)
theorem aP8(CV:List Pc)(k:Nat)(h:k<CV.length):fO (CV.take (k+1))=fO (CV.take k)++pI (CV[k].1.2.map zx):=by rw [zy h];unfold fO;rw [zl,zs]
theorem aP9(CV:List Pc)(k:Nat):(fO (CV.take k)).length<=(fO CV).length:=by
 have:fO CV=fO (CV.take k)++fO (CV.drop k):=by unfold fO;rw [<-zl,List.take_append_drop]
 rw [this,zr];omega
theorem aPa{pb:Nat}(h:fN B w vC CV)(hb:w.cell? ⟨pb,4,none⟩=some vC)(hs:∀p∈CV,aBo p)(hl:CV.length<=1000000)(hU:(fO CV).length<=1000000) :
  Calls zk 33 #[.pointer (some ⟨pb,0,none⟩)] w λe w'=>∃v,e=.returned v/\w'.ownsRow w.heap.size 102 3 v (fO CV).length (gG (fO CV))/\Below w.heap.size w w':=by
 obtain ⟨iU,hI,hI0,hI1,hI2⟩:=info_parts aIm;obtain ⟨va,vac,rfl⟩:=aS h.row;have HH:=aA h;have HS:=aA hs;clear h hs;go_enter Tryz.func33,Tryz.ntmps33;go_wp2;go_loopw [3,11] (λo i wr=>∃k:Nat,k<=CV.length/\i=.int .i64 k/\wr.ownsRow w.heap.size 102 3 o (fO (CV.take k)).length (gG (fO (CV.take k)))/\Below w.heap.size w wr) (λ_ i _=>CV.length-(intOf i).toNat);case atStart=>exact ⟨0,zp _,rfl,zf _ _ _ _,Below.refl _ _⟩
 case round=>
  obtain ⟨k,hk,rfl,ho,hb2⟩:=hrel;obtain ⟨oa,oc,rfl⟩:=aS ho;have hz:=hb2.size;have HB2:=aA hb2;have HO:=aA ho;by_cases hlt:k<CV.length
  ·have hm:CV[k]∈CV:=zo _;have hsm:=HS.out _ hm;obtain ⟨aa,cap,hv,hlit⟩:=aCh (P:=CV[k].1.2) (HH.out.each _ hm).1 (HH.out.each _ hm).2 hsm.short (by have:=hsm.count;omega) (by have:=hsm.len;omega);obtain ⟨gC,cC,hva⟩:=sH HH.out.row (by omega);simp at hva;obtain ⟨rfl,rfl⟩:=hva;have e1:w.cell? ⟨gC,k*2,none⟩=some (.int .i64 CV[k].1.1):=by rw [HH.out.row.cellAt _ (by omega),(zA CV k hlt).1]
   have e2:w.cell? ⟨gC,k*2+1,none⟩=some (.slice aa CV[k].1.2.length cap):=by rw [HH.out.row.cellAt _ (by omega),(zA CV k hlt).2,hv]
   have f1:=Below.at' hb2 (zz _) e1;have f2:=Below.at' hb2 (zz _) e2;have hcnt:=hsm.count;have hus:=aP8 CV k hlt;have hul:=aP9 CV (k+1);rw [hus,zr] at hul;have HUS:=aA hus;have hpl:(CV[k].1.2.map zx).length=CV[k].1.2.length:=by simp
   rw [<-hpl] at f2;clear e1 e2 hv hsm hm hus hpl;generalize CV[k].1.2.map zx=c at *;generalize CV[k].1.1=at0 at *;generalize fO (CV.take k)=U0 at *;have CU:=aA (λwx (hx:bE wx aa c)=>aTq aa cap c wx hx hcnt);have HLI:=aA (hlit.below hb2 (zz _));clear ho hb2 hlit;go_wp2_with (first
    | (go_at_call 51;refine (CU.out _ (HLI.out.below ((Below.refl _ _).alloc (zz _) _) (zz _))).mono ?_;rintro e w1 ⟨v1,rfl,ho1,hb1⟩;have hA:=(HB2.out.alloc hz (.cells #[.int .i64 at0,.slice aa c.length cap] 105));have hB1:=hA.trans (hb1.mono hA.size);have h1s:=hB1.size;have hoo:=aU (HO.out.alloc _) hb1 (zz _);have HOO:=aA hoo;have HO1:=aA ho1;have HB1:=aA hB1;obtain ⟨u1,c1,rfl⟩:=aS ho1;clear hoo ho1 hb1 hA hB1)
    | (at_builtin;refine aP5 rfl (.tmp 15) (.tmp 18) 84 rfl w.heap.size 102 iU (.agg #[.string ⟨#[]⟩,.bool false,.int .i64 0]) 3 32 Tryz.underlying84 hI hI0 hI1 hI2 rfl (by decide) _ _ _ rfl HOO.out _ _ _ _ rfl HO1.out (aP6 _) (by unfold maxLen;omega) (by omega) h1s ?_;intro v2 w2 ho2 hg2;have HO2:=aA ho2;have HG2:=aA hg2;clear ho2 hg2)
    | go_in)
   go_roundw;case rel=>exact ⟨k+1,by omega,by go_num,by rw [HUS.out,zr,aP7];exact HO2.out,HB1.out.grown HG2.out h1s (λj e=>(aT HOO.out j e).1)⟩
   case measure=>simp [intOf];omega
  ·have hk':k=CV.length:=by omega
   subst hk';clear ho hb2;rw [zn] at HO;go_wp2;go_ret;exact ⟨_,rfl,by rw [zn];exact HO.out,HB2.out⟩
def aPb(CV:List Pc)(w:World)(e:Ending)(w':World):Prop:=
 ∃v QV at' er,e=.returned (.tuple #[v,.int .i64 at',.int .i64 er])/\zR (CV.map iX) (QV.map λp=>p.1.map zx) at' er/\kD w.heap.size w' v QV/\Below w.heap.size w w'
structure OLp(CV:List Pc)(w:World)(k:Nat)(v:Value)(wr:World)(QV:List (List (Lt×Value)×Value)):Prop where
 le:k<=CV.length
 made:QV.map (λp=>p.1.map zx)=(CV.take k).map λp=>aR (p.1.2.map zx)
 good:∀j h,j<k->¬oN (CV.map iX) j h
 mem:kD w.heap.size wr v QV
 low:Below w.heap.size w wr
theorem aGg{k:Nat}(h:k<CV.length)(h':k<(CV.map iX).length):oN (CV.map iX) k h'↔(40<=k\/dP (aR (CV[k].1.2.map zx))=false):=by unfold oN;rw [zi];exact Iff.rfl
theorem aPc{α:Type}{f:α->Option Nat}{l:List α}(h:(l.map f).Nodup):(l.filterMap f).Nodup:=by unfold List.Nodup at h ⊢;rw [List.pairwise_map] at h;refine List.Pairwise.filterMap f (λa a' hr b hb b' hb' e=>hr ?_) h;subst e;rw [hb,hb']
section
variable {CV:List Pc}{w wr:World}{k:Nat}{v:Value}{QV:List (List (Lt×Value)×Value)}
theorem aGh{w1 w2:World}{c:List Lt}{vo:Value}{nb:Nat}{Q:List (Lt×Value)}(hO:vE w1 c vo nb Q w2)(hB:B<=w1.heap.size)(hs:∀x∈c,dS x.2)(hc:aK c<=100000)(hl:c.length<=100000) :
  pH w2 B (Q,vo)/\((∀q∈Q,dS q.1.2)/\aK (Q.map zx)<=1000000/\Q.length<=1000000)/\bE w2 (some ⟨nb,0,none⟩) (aR c):=by
 obtain ⟨o1,o2,o3⟩:=aIh c hs;have hql:Q.length=(aR c).length:=by rw [<-hO.made];simp
 have hr:pH w2 B (Q,vo):=by refine ⟨?_,λq hq=>dN (hO.atoms q hq) hB⟩;rw [hO.val,hql];exact dN hO.row hB
 have hsh:∀q∈Q,dS q.1.2:=λq hq=>o1 q.1 (by rw [<-hO.made];exact zm.2 ⟨q,hq,rfl⟩)
 have hct:aK (Q.map zx)<=1000000:=by rw [hO.made];omega
 refine ⟨hr,⟨hsh,hct,by omega⟩,?_⟩;obtain ⟨a,cap,hv,hlit⟩:=aCh (P:=Q) hr.1 hr.2 hsh hct (by omega);rw [hO.val] at hv;simp at hv;rw [<-hO.made];rw [hv.1];exact hlit
theorem aPd{w2 w3 w4:World}{c:List Lt}{vo v':Value}{nb:Nat}{Q:List (Lt×Value)}{X Y:Obj}(h:OLp CV w k v wr QV)(hk:k<CV.length)(hcv:CV[k].1.2.map zx=c)(hO:vE (wr.alloc X) c vo nb Q w2)(hb3:Below w2.heap.size w2 w3)(hs:∀x∈c,dS x.2)(hc:aK c<=100000)(hl:c.length<=100000)(hgood:k<40/\dP (aR c)=true)(ho:w4.ownsRow w.heap.size 22 1 v' (QV.length+1) (QV.map Prod.snd++[vo]))(hg:(w3.alloc Y).grownBy w4 v.ownBlock) :
  OLp CV w (k+1) v' w4 (QV++[(Q,vo)]):=by
 have hz:=h.low.size;have hA:=(Below.refl wr.heap.size wr).alloc (zz _) X;have hz2:=hO.low.size;have hz3:=hb3.size;have hn3:Below w2.heap.size w2 (w3.alloc Y):=hb3.alloc hz3 Y;simp at hz2;have hch:Below wr.heap.size wr (w3.alloc Y):=(hA.trans (hO.low.mono (by simp))).trans (hn3.mono (by omega));have hrow:=aU h.mem.mem.1 hch (zz _);obtain ⟨hcl,hsm,_⟩:=aGh (B:=w.heap.size) hO (by simp;omega) hs hc hl;have hvb:vo.ownBlock=some nb:=by rw [hO.val];rfl
 have hnb:wr.heap.size<nb+1:=by have:=(aT hO.row nb rfl).1;simp at this;omega
 refine ⟨hk,?_,λj hj hjk=>?_,⟨⟨?_,λp hp=>?_⟩,?_,?_⟩,?_⟩
 ·rw [zv,h.made,zt,zy hk,zv,zt,hO.made,hcv]
 ·by_cases hjk':j=k
  ·subst hjk';rw [aGg hk,hcv,hgood.2];rintro (h1 | h1)
   ·omega
   ·simp at h1
  ·exact h.good j hj (by omega)
 ·rw [zr,zv,zt];exact ho
 ·rcases zu.1 hp with hp | hp
  ·obtain ⟨h1,h2⟩:=h.mem.mem.2 p hp;refine ⟨⟨?_,λq hq=>?_⟩,h2⟩
   ·have:=aU h1.1 hch (zz _);exact this.kept hg (bW this hrow (by decide))
   ·have:=aU (h1.2 q hq) hch (zz _);exact this.kept hg (bW this hrow (by decide))
  ·simp at hp;subst hp;refine ⟨⟨?_,λq hq=>?_⟩,hsm⟩
   ·have:=aU hcl.1 hn3 (zz _);exact this.kept hg (bW this hrow (by decide))
   ·have:=aU (hcl.2 q hq) hn3 (zz _);exact this.kept hg (bW this hrow (by decide))
 ·rw [zv,zt,z0];refine ⟨h.mem.once,by simp,λa ha b hb=>?_⟩;simp at hb;subst hb;obtain ⟨p,hp,rfl⟩:=zm.1 ha;rw [hvb];intro e;have:=(aT (h.mem.mem.2 p hp).1.1 nb e).2;omega
 ·rw [zl,zs,z0];refine ⟨h.mem.atoms,aPc hO.once,λa ha b hb=>?_⟩;obtain ⟨p,hp,ha⟩:=zj.1 ha;obtain ⟨q,hq,hqa⟩:=zb.1 ha;obtain ⟨q',hq',hqb⟩:=zb.1 hb;intro e;subst e;have h1:=(aT ((h.mem.mem.2 p hp).1.2 q hq) a hqa).2;have h2:=(aT (hO.atoms q' hq') a hqb).1;simp at h2;omega
 ·exact (h.low.trans (hch.mono hz)).grown hg (by have:=hch.size;omega) (λj e=>(aT hrow j e).1)
theorem aPe(h:fN B w vC CV)(hs:∀p∈CV,aBo p)(hv:∀p∈CV,∀q∈p.1.2,vA q.1.2)(hl:CV.length<=1000000) :
  Calls zk 34 #[vC] w λe w'=>aPb CV w e w':=by
 obtain ⟨iM,hM,hM0,hM1,hM2⟩:=info_parts aTc;obtain ⟨va,vac,rfl⟩:=aS h.row;have HH:=aA h;have HS:=aA hs;have HV:=aA hv;clear h hs hv;go_enter Tryz.func34,Tryz.ntmps34;go_wp2;go_loopw [5,11] (λo i wr=>∃(k:Nat) (QV:List (List (Lt×Value)×Value)),i=.int .i64 k/\OLp CV w k o wr QV) (λ_ i _=>CV.length-(intOf i).toNat);case atStart=>exact ⟨0,[],rfl,⟨zp _,rfl,λj h hj=>by omega,kD.nil _ _,Below.refl _ _⟩⟩
 case round=>
  obtain ⟨k,QV,rfl,hL⟩:=hrel;have hk:=hL.le;have hz:=hL.low.size;obtain ⟨oa,oc,rfl⟩:=aS hL.mem.mem.1;have hQl:QV.length=k:=by have:=congrArg List.length hL.made;simp at this;omega
  have hq1:QV.length<=1000000:=by omega
  clear hQl;by_cases hlt:k<CV.length
  ·have hm:CV[k]∈CV:=zo _;have hsm:=HS.out _ hm;obtain ⟨aa,cap,hv,hlit⟩:=aCh (P:=CV[k].1.2) (HH.out.each _ hm).1 (HH.out.each _ hm).2 hsm.short (by have:=hsm.count;omega) (by have:=hsm.len;omega);obtain ⟨gC,cC,hva⟩:=sH HH.out.row (by omega);simp at hva;obtain ⟨rfl,rfl⟩:=hva;have e1:w.cell? ⟨gC,k*2,none⟩=some (.int .i64 CV[k].1.1):=by rw [HH.out.row.cellAt _ (by omega),(zA CV k hlt).1]
   have e2:w.cell? ⟨gC,k*2+1,none⟩=some (.slice aa CV[k].1.2.length cap):=by rw [HH.out.row.cellAt _ (by omega),(zA CV k hlt).2,hv]
   have f1:=Below.at' hL.low (zz _) e1;have f2:=Below.at' hL.low (zz _) e2;have hcnt:=hsm.count;have hln:=hsm.len;have hpl:(CV[k].1.2.map zx).length=CV[k].1.2.length:=by simp
   rw [<-hpl] at f2 hln;have hsh:∀x∈CV[k].1.2.map zx,dS x.2:=λx hx=>by obtain ⟨q,hq,rfl⟩:=zm.1 hx;exact hsm.short q hq
   have hvo:∀x∈CV[k].1.2.map zx,vA x.2:=λx hx=>by obtain ⟨q,hq,rfl⟩:=zm.1 hx;exact HV.out _ hm q hq
   have hbad:=aGg hlt (by simpa using hlt);obtain ⟨c,hcv⟩ : ∃c,CV[k].1.2.map zx=c:=⟨_,rfl⟩;obtain ⟨at0,hat⟩ : ∃a,CV[k].1.1=a:=⟨_,rfl⟩;rw [hcv] at f2 hln hcnt hsh hvo hbad hlit;rw [hat] at f1;have HBAD:Hid (40<=k\/dP (aR c)=false->zR (CV.map iX) [] at0 4):=aA λhx=>z5 ⟨k,by simpa using hlt,hbad.2 hx,hL.good,rfl,by rw [zi];simp [iX,hat],rfl⟩
   have HPUT:=aA (λ(w2 w3 w4:World) (vo v':Value) (nb:Nat) (Q:List (Lt×Value)) (X Y:Obj) hO hb3 hg ho hgr=>aPd (w2:=w2) (w3:=w3) (w4:=w4) (vo:=vo) (v':=v') (nb:=nb) (Q:=Q) (X:=X) (Y:=Y) hL hlt hcv hO hb3 hsh hcnt hln hg ho hgr);have CO:=aA (λwx (hx:bE wx aa c)=>aHb aa cap c wx hx hvo hcnt hln);have HOC:=aA (λ(w1 w2:World) (vo:Value) (nb:Nat) (Q:List (Lt×Value)) (hO:vE w1 c vo nb Q w2)=>(aGh (B:=0) hO (zp _) hsh hcnt hln).2.2);have HLI:=aA (hlit.below hL.low (zz _));have HR:=aA hL.mem.mem.1;have HL:=aA hL;clear e1 e2 hv hsm hm hpl hbad hcv hat hL hlit hsh hvo;have X0:Hid ((wr.alloc (.cells #[.int .i64 at0,.slice aa c.length cap] 105)).cell? ⟨wr.heap.size,0,none⟩=some (.int .i64 at0)):=aA (by simp);by_cases h40:k<40
   ·cases hfit:dP (aR c) with
    | false=>
     have HBR:=aA (HBAD.out (za hfit));have CF:=aA (λwx nb (hx:bE wx (some ⟨nb,0,none⟩) (aR c))=>zQ (some ⟨nb,0,none⟩) (aR c).length (aR c) wx hx);rw [hfit] at CF;clear HPUT HBAD hfit;go_wp2_with (first
      | (go_at_call 53;refine (CF.out _ nb (HOC.out _ _ _ _ _ HO.out)).mono ?_;rintro e w3 ⟨rfl,hb3⟩;have HB3:=aA hb3;have x3:=Below.at' hb3 (zz _) x0;have HR3:=aA (aU HR2.out hb3 (zz _));have hz3:=hb3.size;clear hb3)
      | (go_at_call 52;refine (CO.out _ (HLI.out.below ((Below.refl _ _).alloc (zz _) _) (zz _))).mono ?_;rintro e w2 ⟨vo,nb,Q,rfl,hO⟩;have hvo:=hO.val;subst hvo;have x0:=Below.at' hO.low (zz _) X0.out;have HO:=aA hO;have HB2:=aA (HL.out.low.trans (((Below.refl wr.heap.size wr).alloc (zz _) (.cells #[.int .i64 at0,.slice aa c.length cap] 105)).mono hz |>.trans (hO.low.mono (by simp;omega))));have HR2:=aA (aU (HR.out.alloc _) hO.low (zz _));have hz2:=hO.low.size;simp at hz2;clear hO)
      | go_in)
     go_quiet (fail);go_wp2;go_returns;exact ⟨_,[],at0,4,rfl,HBR.out,kD.nil _ _,(HB2.out.trans (HB3.out.mono (by omega))).trans ((aI ⟨_,rfl⟩).mono (by omega))⟩
    | true=>
     have CF:=aA (λwx nb (hx:bE wx (some ⟨nb,0,none⟩) (aR c))=>zQ (some ⟨nb,0,none⟩) (aR c).length (aR c) wx hx);rw [hfit] at CF;have HP2:=aA (λw2 w3 w4 vo v' nb Q X Y hO hb3 ho hgr=>HPUT.out w2 w3 w4 vo v' nb Q X Y hO hb3 ⟨h40,hfit⟩ ho hgr);clear HPUT HBAD hfit;go_wp2_with (first
      | (at_builtin;refine wpList_append_own _ rfl (.tmp 28) (.tmp 30) 26 rfl w.heap.size 22 iM (.slice none 0 0) 1 24 Tryz.underlying26 hM hM0 hM1 hM2 rfl (by decide) _ _ _ rfl (HR3.out.alloc _) ⟨_,0,none⟩ 1 1 [.slice (some ⟨nb,0,none⟩) (aR c).length (aR c).length] rfl rfl (rV w3 _ _ _ rfl) (by intro u hu;simp at hu;subst hu;rfl) (by unfold maxLen;omega) (by omega) (by simp;omega) ?_;intro v4 w4 ho4 hg4 _;have HL4:=aA (HP2.out _ _ _ _ _ _ _ _ _ HO.out HB3.out ho4 hg4);clear ho4 hg4)
      | (go_at_call 53;refine (CF.out _ nb (HOC.out _ _ _ _ _ HO.out)).mono ?_;rintro e w3 ⟨rfl,hb3⟩;have HB3:=aA hb3;have x3:=Below.at' hb3 (zz _) x0;have HR3:=aA (aU HR2.out hb3 (zz _));have hz3:=hb3.size;clear hb3)
      | (go_at_call 52;refine (CO.out _ (HLI.out.below ((Below.refl _ _).alloc (zz _) _) (zz _))).mono ?_;rintro e w2 ⟨vo,nb,Q,rfl,hO⟩;have hvo:=hO.val;subst hvo;have x0:=Below.at' hO.low (zz _) X0.out;have HO:=aA hO;have HB2:=aA (HL.out.low.trans (((Below.refl wr.heap.size wr).alloc (zz _) (.cells #[.int .i64 at0,.slice aa c.length cap] 105)).mono hz |>.trans (hO.low.mono (by simp;omega))));have HR2:=aA (aU (HR.out.alloc _) hO.low (zz _));have hz2:=hO.low.size;simp at hz2;clear hO)
      | go_in)
     go_roundw;case rel=>exact ⟨k+1,_,by go_num,HL4.out⟩
     case measure=>simp [intOf];omega
   ·have HBR:=aA (HBAD.out (z5 (by omega)));clear HPUT HBAD;go_wp2_with (first
     | (go_at_call 52;refine (CO.out _ (HLI.out.below ((Below.refl _ _).alloc (zz _) _) (zz _))).mono ?_;rintro e w2 ⟨vo,nb,Q,rfl,hO⟩;have hvo:=hO.val;subst hvo;have x0:=Below.at' hO.low (zz _) X0.out;have HO:=aA hO;have HB2:=aA (HL.out.low.trans (((Below.refl wr.heap.size wr).alloc (zz _) (.cells #[.int .i64 at0,.slice aa c.length cap] 105)).mono hz |>.trans (hO.low.mono (by simp;omega))));have HR2:=aA (aU (HR.out.alloc _) hO.low (zz _));have hz2:=hO.low.size;simp at hz2;clear hO)
     | go_in)
    go_quiet (fail);go_wp2;go_returns;exact ⟨_,[],at0,4,rfl,HBR.out,kD.nil _ _,HB2.out.trans ((aI ⟨_,rfl⟩).mono (by omega))⟩
  ·have hk':k=CV.length:=by omega
   have HF:Hid (zR (CV.map iX) (QV.map λp=>p.1.map zx) 0 0):=aA (za ⟨λj hj=>hL.good j hj (by simp at hj;omega),by rw [hL.made,hk',zn,List.map_map];rfl,rfl,rfl⟩);have HL:=aA hL;clear hL hk';go_wp2;go_returns;exact ⟨_,QV,0,0,rfl,HF.out,HL.out.mem,HL.out.low⟩
end
def jE:Nat->List Nd->List Us
 | _,[]=>[]
 | k,n :: r=>mG k n++jE (k+1) r
theorem aGi(a b:List Nd):∀k,jE k (a++b)=jE k a++jE (k+a.length) b:=by
 induction a with
 | nil=>intro k;simp [jE]
 | cons x r ih=>intro k;simp only [zc,jE,ih,zw,z3];rw [show k+1+r.length=k+(r.length+1) by omega]
theorem aPf(l:List Nd):∀k,k<=l.length->jJ l k=jE 0 (l.take k):=by
 intro k;induction k with
 | zero=>intro _;simp [jJ,jE]
 | succ k ih=>
  intro hk;rw [aIi l k hk,ih (by omega),zy hk,aGi];simp [jE,Nat.min_eq_left (show k<=l.length by omega)]
theorem aPg(c:List Lt):∀k,k<=c.length->mH c k=(c.take k).flatMap λx=>jE 0 x.2:=by
 intro k;induction k with
 | zero=>intro _;simp [mH]
 | succ k ih=>
  intro hk;rw [aCm c k hk,ih (by omega),zy hk,zl,zs,aPf _ _ (zz _),zn]
theorem zB(c:List Lt):pI c=c.flatMap λx=>jE 0 x.2:=by unfold pI;rw [aPg c _ (zz _),zn]
def lZ(m:Nat)(l:List Nd):Prop:=∀n∈l,aF n=true->0<=n.2/\n.2<=m
theorem lZ.mono{m m':Nat}{l:List Nd}(h:lZ m l)(hm:m<=m'):lZ m' l:=λn hn hv=>by have:=h n hn hv;omega
theorem lZ.append{m:Nat}{a b:List Nd}(h:lZ m a)(k:lZ m b):lZ m (a++b):=λn hn=>by
 rcases zu.1 hn with hn | hn
 ·exact h n hn
 ·exact k n hn
theorem aPh(l:List ByteArray)(x:ByteArray):0<=nR l x/\nR l x<=(oO l x).length:=by
 have:=aUv l x;unfold nR oO;split
 ·simp;omega
 ·omega
theorem aGj{α:Type}(f:α->α)(p:α)(b:List α):∀a:List α,(a++[p]++b).modify a.length f=a++[f p]++b:=by
 intro a;induction a with
 | nil=>rfl
 | cons x r ih=>simp only [zc,z3,List.modify_succ_cons,ih]
theorem aPi(a b:List Pl)(p:Pl)(n:Nat):pL (a++[p]++b) a.length n=a++[(p.1,p.2.1,(n:Int),p.2.2.2)]++b:=aGj _ _ _ _
theorem aPj(a b:List Nd)(p:Nd)(n:Nat):dT (a++[p]++b) a.length n=a++[(p.1,(n:Int))]++b:=aGj _ _ _ _
structure aGk(st st':bB)(l l':List Nd)(Q:List Pl)(M:List Nd):Prop where
 pl:st'.places=st.places++Q
 nd:l'=l++M
 us:Q.map mI=jE l.length M
 vs:lZ st'.vars.length M
 ps:∀p∈Q,0<=p.2.2.2
theorem aPk(hN:∀i,(aE T i).kind=110->(aE T i).txt.toList.isEmpty=false):∀f,(∀atom st l st' l',cX T f atom st l=.ok (st',l')->atom=decide (l.length=0)->∃Q M,aGk st st' l l' Q M)/\
  (∀st l n st' l' n',eP T f st l n=.ok (st',l',n')->0<l.length->∃Q M,aGk st st' l l' Q M):=by
 intro f;induction f with
 | zero=>exact ⟨λatom st l st' l' h=>by simp [cX] at h,λst l n st' l' n' h=>by simp [eP] at h⟩
 | succ f ih=>
  obtain ⟨ih1,ih2⟩:=ih;constructor
  ·intro atom st l st' l' h ha;rw [cX] at h;split at h
   ·simp only [Except.ok.injEq,Prod.mk.injEq] at h;obtain ⟨rfl,rfl⟩:=h;refine ⟨[],[(⟨#[]⟩,nR st.vars (aE T st.i).txt)],by simp,rfl,?_,?_,λp hp=>by simp at hp⟩
    ·simp [jE,mG,aF]
    ·intro n hn _;simp at hn;subst hn;exact aPh _ _
   ·split at h
    ·simp at h
    ·rename_i hk110;simp only [ne_eq,Decidable.not_not] at hk110;have hne:=hN _ hk110;have huse:∀m:Int,mG l.length ((aE T st.i).txt,m)=[((aE T st.i).txt,atom,m)]:=by
      intro m;unfold mG aF;simp only;rw [hne,ha];rfl
     have hvar:∀m:Int,aF ((aE T st.i).txt,m)=false:=λm=>hne
     split at h
     ·split at h
      ·simp at h
      ·rename_i st1 l1 n1 hq;simp only [Except.ok.injEq,Prod.mk.injEq] at h;obtain ⟨rfl,rfl⟩:=h;obtain ⟨Q,M,hp⟩:=ih2 _ _ _ _ _ _ hq (by simp);have hpl:=hp.pl;have hnd:=hp.nd;have hus:=hp.us;have hps:=hp.ps;simp only at hpl;refine ⟨((aE T st.i).txt,atom,(n1:Int),((aE T st.i).pos:Int)) :: Q,((aE T st.i).txt,(n1:Int)) :: M,?_,?_,?_,?_,λp hp=>?_⟩
       ·simp only;rw [hpl,aPi];simp
       ·rw [hnd,aPj];simp
       ·rw [List.map_cons,hus,jE,huse];simp [mI]
       ·intro n hn hv;rcases ze.1 hn with rfl | hn
        ·rw [hvar] at hv;cases hv
        ·exact hp.vs n hn hv
       ·rcases ze.1 hp with rfl | hp
        ·simp
        ·exact hps p hp
     ·simp only [Except.ok.injEq,Prod.mk.injEq] at h;obtain ⟨rfl,rfl⟩:=h;refine ⟨[((aE T st.i).txt,atom,0,((aE T st.i).pos:Int))],[((aE T st.i).txt,0)],rfl,rfl,?_,?_,λp hp=>by simp at hp;subst hp;simp⟩
      ·rw [jE,huse];rfl
      ·intro n hn hv;simp at hn;subst hn;rw [hvar] at hv;cases hv
  ·intro st l n st' l' n' h hl;rw [eP] at h;split at h
   ·simp at h
   ·rename_i st1 l1 hp;obtain ⟨Q,M,q⟩:=ih1 _ _ _ _ _ hp (decide_eq_false (by omega)).symm;have hon:=(vN T f).1 _ _ _ _ _ hp;have q1:=q.pl;have q2:=q.nd;have q3:=q.us;simp only at q1;split at h
    ·have hl1:0<l1.length:=by omega
     have hon2:=(vN T f).2 _ _ _ _ _ _ h;obtain ⟨Q2,M2,r⟩:=ih2 _ _ _ _ _ _ h hl1;refine ⟨Q++Q2,M++M2,?_,?_,?_,?_,λp hp=>(zu.1 hp).elim (q.ps p) (r.ps p)⟩
     ·rw [r.pl,q1,zw]
     ·rw [r.nd,q2,zw]
     ·rw [zv,q3,r.us,aGi,q2,zr]
     ·exact (q.vs.mono (by omega)).append r.vs
    ·split at h
     ·simp only [Except.ok.injEq,Prod.mk.injEq] at h;obtain ⟨rfl,rfl,rfl⟩:=h;exact ⟨Q,M,q1,q2,q3,q.vs,q.ps⟩
     ·simp at h
theorem aPl(hN:∀i,(aE T i).kind=110->(aE T i).txt.toList.isEmpty=false):∀f st c st' c',iK T f st c=.ok (st',c')->(∀x∈c,lZ st.vars.length x.2)->∃Q C,st'.places=st.places++Q/\c'=c++C/\Q.map mI=pI C/\(∀x∈c',lZ st'.vars.length x.2)/\st.vars.length<=st'.vars.length/\st.i<=st'.i/\st'.vars.length+st.i<=st.vars.length+st'.i/\∀p∈Q,0<=p.2.2.2:=by
 intro f;induction f with
 | zero=>intro st c st' c' h;simp [iK] at h
 | succ f ih=>
  intro st c st' c' h hv;cases hq:cX T (T.length+1) true (jS T st) [] with
  | error p=>rw [aCi hq] at h;simp at h
  | ok r=>
   obtain ⟨s2,l2⟩:=r;obtain ⟨q1,q2,q3,q4⟩:=aCl T st;obtain ⟨Q,M,hp⟩:=(aPk hN (T.length+1)).1 _ _ _ _ _ hq rfl;have hon:=(vN T (T.length+1)).1 _ _ _ _ _ hq;have hpl:=hp.pl;have hnd:=hp.nd;have hus:=hp.us;rw [q4] at hpl;rw [q3] at hon;simp only [zh] at hnd;subst hnd;have hv2:∀x∈c++[(decide ((aE T st.i).kind=126),l2)],lZ s2.vars.length x.2:=by
    intro x hx;rcases zu.1 hx with hx | hx
    ·exact (hv x hx).mono (by omega)
    ·simp at hx;subst hx;exact hp.vs
   by_cases hk:(aE T s2.i).kind=124
   ·rw [aCj hq hk] at h;obtain ⟨Q2,C2,r1,r2,r3,r4,r5,r6,r7,r8⟩:=ih _ _ _ _ h hv2;simp only at r1 r5 r6 r7;refine ⟨Q++Q2,(decide ((aE T st.i).kind=126),l2) :: C2,?_,?_,?_,r4,by omega,by omega,by omega,λp hq'=>(zu.1 hq').elim (hp.ps p) (r8 p)⟩
    ·rw [r1,hpl,zw]
    ·rw [r2,zw];rfl
    ·rw [zv,hus,r3,zB,zB,zq];rfl
   ·rw [aCk hq hk] at h;simp only [Except.ok.injEq,Prod.mk.injEq] at h;obtain ⟨rfl,rfl⟩:=h;refine ⟨Q,[(decide ((aE T st.i).kind=126),l2)],hpl,rfl,?_,hv2,by omega,by omega,by omega,hp.ps⟩;rw [hus,zB,zs];rfl
theorem aPm(hN:∀i,(aE T i).kind=110->(aE T i).txt.toList.isEmpty=false){st st':bB}{c:List Lt}(h:nT T st=.ok (st',c)):∃Q,st'.places=st.places++Q/\Q.map mI=pI c/\(∀x∈c,lZ st'.i x.2)/\∀p∈Q,0<=p.2.2.2:=by
 unfold nT at h;cases hq:nS T st with
 | error p=>rw [hq] at h;simp at h
 | ok r=>
  obtain ⟨s1,c1⟩:=r;rw [hq] at h;simp only at h;split at h
  ·simp only [Except.ok.injEq,Prod.mk.injEq] at h;obtain ⟨rfl,rfl⟩:=h;unfold nS at hq;split at hq
   ·simp only [Except.ok.injEq,Prod.mk.injEq] at hq;obtain ⟨rfl,rfl⟩:=hq;exact ⟨[],by simp,rfl,λx hx=>by simp at hx,λp hp=>by simp at hp⟩
   ·obtain ⟨Q,C,r1,r2,r3,r4,r5,r6,r7,r8⟩:=aPl hN _ _ _ _ _ hq (λx hx=>by simp at hx);simp only [zh] at r2;subst r2;simp only [List.length_nil] at r7;exact ⟨Q,r1,r3,λx hx=>(r4 x hx).mono (by simp;omega),r8⟩
  ·simp at h
structure aGl(T:List Tk)(c:List Lt):Prop where
 short:∀x∈c,dS x.2
 count:aK c<=T.length
 len:c.length<=T.length
 vars:∀x∈c,lZ T.length x.2
theorem aPn{L:List Tk}{brk:Int}(ht:TL L T brk)(hx:wX L T)(hN:∀i,(aE T i).kind=110->(aE T i).txt.toList.isEmpty=false):∀f st cs st' cs',kF T f st cs=.ok (st',cs')->st.i<T.length->∃Q C,st'.places=st.places++Q/\cs'=cs++C/\Q.map mI=(C.flatMap λp=>pI p.2)/\(∀p∈C,aGl T p.2)/\st'.i<T.length/\st.i+C.length<=st'.i/\st'.places.length+st.i<=st.places.length+st'.i/\∀p∈Q,0<=p.2.2.2:=by
 intro f;induction f with
 | zero=>intro st cs st' cs' h;simp [kF] at h
 | succ f ih=>
  intro st cs st' cs' h hi;rw [kF] at h;split at h
  ·simp only [Except.ok.injEq,Prod.mk.injEq] at h;obtain ⟨rfl,rfl⟩:=h;exact ⟨[],[],by simp,by simp,rfl,λp hp=>by simp at hp,hi,by simp,by omega,λp hp=>by simp at hp⟩
  ·split at h
   ·simp at h
   ·rename_i s1 c hq;obtain ⟨o1,o2,o3,o4,o5,o6,o7⟩:=aIg ht hx hq hi;obtain ⟨Q,p1,p2,p3,p4⟩:=aPm hN hq;obtain ⟨Q2,C,r1,r2,r3,r4,r5,r6,r7,r8⟩:=ih _ _ _ _ h o3;refine ⟨Q++Q2,((aE T st.i).pos,c) :: C,?_,?_,?_,?_,r5,by simp;omega,by omega,λp hp=>(zu.1 hp).elim (p4 p) (r8 p)⟩
    ·rw [r1,p1,zw]
    ·rw [r2,zw];rfl
    ·rw [zv,p2,r3,zq]
    ·intro p hp;rcases ze.1 hp with rfl | hp
     ·exact ⟨o1,o4,o5,λx hx=>(p3 x hx).mono (by omega)⟩
     ·exact r4 p hp
theorem aPo{x:ByteArray}(h:0<x.size):x.toList.isEmpty=false:=by
 cases he:x.toList.isEmpty with
 | false=>rfl
 | true=>
  rw [List.isEmpty_iff] at he;have:x=⟨#[]⟩:=aB7.1 (by rw [he];simp);subst this;rw [vI] at h;omega
theorem aPp{x:ByteArray}(h:gE x=true):0<x.size:=by
 rcases Nat.eq_zero_or_pos x.size with hx | hx
 ·unfold gE at h;rw [yP _ _ _ _ (by omega)] at h;simp at h
 ·exact hx
theorem aPq(s:ByteArray):∀f name p n e,gH s f name p=some (n,e)->0<n.size:=by
 intro f;induction f with
 | zero=>intro name p n e h;simp [gH] at h
 | succ f ih=>
  intro name p n e h;rw [gH] at h;split at h
  ·split at h
   ·split at h
    ·rename_i hn;simp only [Option.some.injEq,Prod.mk.injEq] at h;rw [<-h.1];exact aPp hn
    ·simp at h
   ·split at h
    ·split at h
     ·exact ih _ _ _ _ h
     ·simp at h
    ·split at h
     ·simp at h
     ·exact ih _ _ _ _ h
  ·simp at h
theorem aPr{k e:Nat}{t:Tk}(hk:k<s.size)(h:eV s k=.tok t e)(h110:t.kind=110):0<t.txt.size:=by
 unfold eV at h;split at h
 ·rename_i hl;split at h
  ·cases h
  ·simp only [Nx.tok.injEq] at h;rw [<-h.1];simp only;have hin:=aFg hl;have hr:=aCr hk hin;have hb:=aCs s (s.size-(k+1)) (k+1);have hb2:k+1<=eT s (k+1)/\(k+1<=s.size->eT s (k+1)<=s.size):=hb;rw [hr,ByteArray.size_extract];omega
 ·split at h
  ·split at h
   ·rename_i n e' hq;simp only [Nx.tok.injEq] at h;rw [<-h.1];exact aPq s _ _ _ _ _ hq
   ·cases h
  ·split at h
   ·split at h
    ·simp only [Nx.tok.injEq] at h;rw [<-h.1] at h110;simp at h110
    ·cases h
   ·split at h
    ·rename_i hm;simp only [Nx.tok.injEq] at h;rw [<-h.1] at h110;simp only at h110;rw [h110] at hm;simp [pK] at hm
    ·cases h
theorem aPs(s:ByteArray):∀f k,∀t∈(cW s f k).1,t.kind=110->0<t.txt.size:=by
 intro f;induction f with
 | zero=>intro k;simp [cW]
 | succ f ih=>
  intro k;rw [cW];split
  ·rename_i hk;split
   ·exact ih _
   ·split
    ·exact ih _
    ·split
     ·rename_i t e ht;intro u hu;rcases ze.1 hu with rfl | hu
      ·exact aPr hk ht
      ·exact ih _ u hu
     ·simp
  ·intro t ht h110;simp at ht;rw [ht] at h110;simp at h110
theorem aPt(s:ByteArray)(q i:Nat)(h:(aE (eB s q) i).kind=110):(aE (eB s q) i).txt.toList.isEmpty=false:=by
 refine aPo ?_;have key:∀t∈eB s q,t.kind=110->0<t.txt.size:=by
  intro t ht;unfold eB eW at ht;rcases zu.1 ht with ht | ht
  ·exact aPs s _ _ t ht
  ·generalize (cW s (s.size+1-q) q).2=b at ht;cases b with
   | none=>simp at ht
   | some p=>
    simp at ht;rw [ht];intro h;simp at h
 unfold aE at h ⊢;by_cases hl:i<(eB s q).length
 ·rw [zg,zd hl,Option.getD_some] at h ⊢;exact key _ (zo _) h
 ·rw [zg,List.getElem?_eq_none (by omega)] at h;exact absurd h (by decide)
theorem aPu{e:TypeId}{size g n m cap:Nat}{xs:List Value}(h:w.ownsRow B e size (.slice (some ⟨g,0,none⟩) n cap) m xs):n=m/\n<=cap:=by
 obtain ⟨_,⟨e,_⟩ | ⟨g',cap',cur,e,_,_,hc,_⟩⟩:=h
 ·cases e
 ·cases e;exact ⟨rfl,hc⟩
theorem aPv{w1:World}{g cap:Nat}(hs:0<(bS s 0).length)(hr:w1.ownsRow w.heap.size 128 2 (.slice (some ⟨g,0,none⟩) (bS s 0).length cap) (bS s 0).length (lY (bS s 0)))(hb:Below w.heap.size w w1) :
  ∃m c,bH w.heap.size (w1.alloc (.cells #[.slice (some ⟨g,0,none⟩) (bS s 0).length cap,.int .i32 0,.int .i64 0,.string ⟨#[]⟩,.slice none 0 0,.slice none 0 0,.map none] 82)) w1.heap.size s 0 g 0 m c 0 0 ⟨#[]⟩ (.slice none 0 0) (.slice none 0 0) (.map none):=by
 obtain ⟨_,hc⟩:=aPu hr;have e1:(bS s 0).length-1+1=(bS s 0).length:=by omega
 have e2:cap-1+1=cap:=by omega
 have hz:=hb.size;refine ⟨(bS s 0).length-1,cap-1,⟨?_,hz,?_,by omega,rfl,zp _⟩⟩
 ·rw [e1,e2];unfold bL;show (w1.heap.push _)[w1.heap.size]?=_;simp
 ·rw [z1,z1,e1,e2];exact aU hr ((Below.refl w1.heap.size w1).alloc (zz _) _) (zz _)
theorem aPw(s:ByteArray)(w:World)(hs:s.size<=3000) :
  Calls zk 30 #[.string s] w λe w'=>∃pb g,e=.returned (.pointer (some ⟨pb,0,none⟩))/\Below w.heap.size w w'/\rX w.heap.size w' pb s (eB s 0) ⟨0,[],[]⟩ g (.slice none 0 0) (.slice none 0 0) []:=by
 have CG:=aA (aOt s w hs);have CN:=aA (λ(W:World) (pb g m c:Nat) (h:bH w.heap.size W pb s 0 g 0 m c 0 0 ⟨#[]⟩ (.slice none 0 0) (.slice none 0 0) (.map none))=>(aFh (s.size+1) h hs (by omega)).mono λe w1 hr=>aFj (T:=eB s 0) (i:=0) (zp _) (by omega) rfl hr);have hgl:0<(bS s 0).length:=(yW s s.size 0 (by omega)).1;generalize aE (eB s 0) 0=t at CN;obtain ⟨tk,tx,tp⟩:=t;simp only at CN;go_enter Tryz.func30,Tryz.ntmps30;go_wp2_with (first
  | (go_at_call 48;refine (aB CG).mono ?_;rintro e w1 ⟨g,cap,rfl,hr1,hb1⟩;obtain ⟨m,c,hsc⟩:=aPv hgl hr1 hb1;have HB1:=aA hb1;have HSC:=aA hsc;clear hr1 hb1 hsc)
  | (go_at_call 49;refine (CN.out _ _ _ _ _ HSC.out).mono ?_;rintro e w2 ⟨rfl,hg2,⟨left,hb2⟩,hP2⟩;have e1:=hb2.c1;have e2:=hb2.c2;have e3:=hb2.c3;have ef:=hb2.soft;have HG2:=aA hg2;have HP2:=aA hP2;clear hg2 hP2 hb2)
  | go_in)
 go_ret;refine ⟨_,g,rfl,?_,⟨_,HP2.out⟩,zf _ _ _ _,zf _ _ _ _,λp hp=>by simp at hp⟩;have hz:=HB1.out.size;have hA:=HB1.out.alloc hz (.cells #[.slice (some ⟨g,0,none⟩) (bS s 0).length cap,.int .i32 0,.int .i64 0,.string ⟨#[]⟩,.slice none 0 0,.slice none 0 0,.map none] 82);exact hA.grown (qY (qY (qY HG2.out _) _) _) (by simp;omega) (by simpa using hz)
def RdQ(s:ByteArray)(w:World)(e:Ending)(w':World):Prop:=
 ∃v QV at' er,e=.returned (.tuple #[v,.int .i64 at',.int .i64 er])/\tW s (QV.map λp=>p.1.map zx) at' er/\kD w.heap.size w' v QV/\Below w.heap.size w w'
theorem kD.mono{B':Nat}{v:Value}{QV:List (List (Lt×Value)×Value)}(h:kD B w v QV)(hB:B'<=B):kD B' w v QV:=
 ⟨⟨dN h.mem.1 hB,λp hp=>⟨⟨dN (h.mem.2 p hp).1.1 hB,λq hq=>dN ((h.mem.2 p hp).1.2 q hq) hB⟩,(h.mem.2 p hp).2⟩⟩,h.once,h.atoms⟩
theorem aBq(P:List Pl)(k:Nat):sI (P.map mI) k↔∀j hj,j<k->¬nQ P j hj:=by
 constructor
 ·intro h j hj hjk hb;obtain ⟨h1,h2⟩:=h j (by simpa using hj) hjk;simp only [zi,mI] at h1 h2;rcases hb with hb | ⟨i,hi,hb1,hb2⟩
  ·omega
  ·have:=h2 i hi hb1;simp at this;rcases hb2 with h | h
   ·exact h this.1
   ·exact h this.2
 ·intro h i hi hik;have hi':i<P.length:=by simpa using hi
  have hb:=h i hi' hik;simp only [nQ,not_or,not_exists] at hb;refine ⟨by simp [mI];omega,λk hk he=>?_⟩;have hc:=hb.2 k hk;simp only [zi,mI] at he ⊢;simp only [xB,not_and,not_or,Decidable.not_not] at hc;have:=hc he;rw [this.1,this.2]
theorem aPx{P:List Pl}{r:Int}(h:sJ (P.map mI) r):(r=-1/\xC P (-1))\/∃k,∃hk:k<P.length,r=k/\xC P P[k].2.2.2:=by
 rcases h with ⟨rfl,hu⟩ | ⟨k,hk,rfl,h1,h2⟩
 ·refine z5 ⟨rfl,z5 ⟨rfl,λi hi=>?_⟩⟩;exact (aBq P P.length).1 (λi hi _=>hu i hi) i hi hi
 ·have hk':k<P.length:=by simpa using hk
  rw [aBq P k] at h1;rw [aBq P (k+1)] at h2;refine za ⟨k,hk',rfl,za ⟨k,hk',?_,h1,rfl⟩⟩;refine Classical.byContradiction λhn=>h2 λj hj hjk=>?_
  by_cases hj':j=k
  ·subst hj';exact hn
  ·exact h1 j hj (by omega)
theorem aPy(P:List Pl)(k:Nat)(h:k<P.length):(lX P)[k]?=some (.int .i64 P[k].2.2.2):=by unfold lX;rw [List.getElem?_map,zd h];rfl
theorem aPz(CV:List Pc):fO CV=(CV.map iX).flatMap λp=>pI p.2:=by
 unfold fO;induction CV with
 | nil=>rfl
 | cons x r ih=>rw [zq,ih,List.map_cons,zq];rfl
theorem aQ0(hs:s.size<=3000){st:bB}{cs:List (Nat×List Lt)}(h:kF (eB s 0) ((eB s 0).length+1) ⟨0,[],[]⟩ []=.ok (st,cs))(h0:0<(eB s 0).length)(hl:(eB s 0).length<=3002){CV:List Pc}(hcv:CV.map iX=cs) :
  fO CV=st.places.map mI/\(∀p∈CV,aBo p)/\(∀p∈CV,∀q∈p.1.2,vA q.1.2)/\CV.length<=3002/\st.places.length<=3002/\(∀p∈st.places,0<=p.2.2.2)/\∀u∈fO CV,u.1.size<=1000000:=by
 obtain ⟨Q,C,r1,r2,r3,r4,r5,r6,r7,r8⟩:=aPn (aId s (by omega)) (aCg s (by omega)) (aPt s 0) _ _ _ _ _ h h0;simp only [zh] at r1 r2;simp only [List.length_nil,z1,Nat.add_zero] at r6 r7;change st.i<(eB s 0).length at r5;have hc:∀p∈CV,aGl (eB s 0) (p.1.2.map zx):=λp hp=>r4 (iX p) (by rw [<-r2,<-hcv];exact zm.2 ⟨p,hp,rfl⟩)
 have hlen:CV.length=C.length:=by rw [<-r2,<-hcv];simp
 have hu:fO CV=st.places.map mI:=by rw [aPz,hcv,r2,r1,r3]
 refine ⟨hu,λp hp=>⟨λq hq=>(hc p hp).short q.1 (zm.2 ⟨q,hq,rfl⟩),by have:=(hc p hp).count;omega,by have:=(hc p hp).len;simp at this;omega⟩,λp hp q hq n hn hv=>?_,by omega,by omega,by rw [r1];exact r8,?_⟩
 ·have:=(hc p hp).vars q.1 (zm.2 ⟨q,hq,rfl⟩) n hn hv;omega
 ·intro u hu';unfold fO at hu';obtain ⟨p,hp,hup⟩:=zj.1 hu';rw [zB] at hup;obtain ⟨x,hx,hux⟩:=zj.1 hup;have hsx:=(hc p hp).short x hx;have key:∀(l:List Nd) k,(∀n∈l,n.1.size<=1000000)->∀u∈jE k l,u.1.size<=1000000:=by
   intro l;induction l with
   | nil=>intro k _ u hu;simp [jE] at hu
   | cons n r ih=>
    intro k hl u hu;rw [jE] at hu;rcases zu.1 hu with hu | hu
    ·unfold mG at hu;split at hu
     ·simp at hu
     ·simp at hu;subst hu;exact hl n (List.mem_cons_self ..)
    ·exact ih _ (λy hy=>hl y (List.mem_cons_of_mem _ hy)) u hu
  exact key x.2 0 hsx u hux
theorem aGn(s:ByteArray)(w:World)(hs0:s.size<=140737488355328):Calls zk 21 #[.string s] w λe w'=>RdQ s w e w':=by
 by_cases h3:3000<s.size
 ·have hi:(3000:Int)<(s.size:Int):=by omega
  go_enter z4,z2;go_wp2;go_returns;exact ⟨_,[],0,1,rfl,z5 ⟨h3,rfl,rfl,rfl⟩,kD.nil _ _,Below.refl _ _⟩
 ·have hi:¬(3000:Int)<(s.size:Int):=by omega
  have hs:s.size<=3000:=by omega
  have hl:(eB s 0).length<=3002:=by have:=aIc s (s.size+1) 0;show (eW (cW s (s.size+1) 0)).length<=3002;unfold eW;split <;> simp <;> omega
  have CN:=aA (aPw s w hs);have hx:=(aCg s (by omega)).small;have ht:=aId s (by omega);have hxx:=aCg s (by omega);have CT:=aA (λw1 pb g (h:rX w.heap.size w1 pb s (eB s 0) ⟨0,[],[]⟩ g (.slice none 0 0) (.slice none 0 0) []) (hB:w.heap.size<=w1.heap.size)=>aP4 (λi=>aNk s 0 i) hx hs (by omega) (λst st' c hq hlt=>by have:=aIg ht hxx hq hlt;omega) h hB (zp _) (zp _));have HALL:Hid (xE s=kF (eB s 0) ((eB s 0).length+1) ⟨0,[],[]⟩ []):=aA rfl;clear hx ht hxx;cases hq:kF (eB s 0) ((eB s 0).length+1) ⟨0,[],[]⟩ [] with
  | error p=>
   rw [List.map_nil,hq] at CT;rw [hq] at HALL;clear hq;go_enter z4,z2;go_wp2_with (first
    | (go_at_call 31;refine (CT.out _ _ _ HT1.out HB1.out.size).mono ?_;rintro e w2 ⟨hb2,i2,vC2,vP2,vM2,rfl,hp2,hpos⟩;obtain ⟨left2,hbx2,_⟩:=hp2.box;have d2:=hbx2.c2;rw [hpos] at d2;have HB2:=aA (HB1.out.trans hb2);clear hb2 hp2 hpos hbx2)
    | (go_at_call 30;refine (aB CN).mono ?_;rintro e w1 ⟨pb,g,rfl,hb1,ht1⟩;have HB1:=aA hb1;have HT1:=aA ht1;clear hb1 ht1)
    | go_in)
   go_quiet (fail);go_wp2;go_returns;refine ⟨_,[],p,2,rfl,za ⟨hs,?_⟩,kD.nil _ _,HB2.out.trans ((aI ⟨_,rfl⟩).mono HB2.out.size)⟩;rw [HALL.out];exact ⟨rfl,rfl,rfl⟩
  | ok y=>
   obtain ⟨st,cs⟩:=y;rw [List.map_nil,hq] at CT;rw [hq] at HALL;have HK:=aA (λ(h0:0<(eB s 0).length) (CV:List Pc) (hcv:CV.map iX=cs)=>aQ0 hs hq h0 hl hcv);clear hq;go_enter z4,z2;go_upto_region 6 with (first
    | (go_at_call 31;refine (CT.out _ _ _ HT1.out HB1.out.size).mono ?_;rintro e w2 ⟨hb2,vC2,vP2,CV,rfl,ht2,hcv⟩;have HB2:=aA (HB1.out.trans hb2);have HT2:=aA ht2;have HCV:=aA hcv;clear hb2 ht2 hcv)
    | (go_at_call 30;refine (aB CN).mono ?_;rintro e w1 ⟨pb,g,rfl,hb1,ht1⟩;have HB1:=aA hb1;have HT1:=aA ht1;clear hb1 ht1)
    | go_in)
   clear CN CT;obtain ⟨vM2,hpp⟩:=HT2.out.pp;obtain ⟨left2,hbx,hBp⟩:=hpp.box;have d4:=hbx.c4;have d5:=hbx.c5;obtain ⟨k1,k2,k3,k4,k5,k6,k7⟩:=HK.out (Nat.lt_of_le_of_lt (zp _) hpp.lt) CV HCV.out;have CU:=aA (aPa HT2.out.cs d4 k2 (by omega) (by rw [k1];simp;omega));have CS:=aA (λwx (hx:Below w2.heap.size w2 wx)=>aPe (HT2.out.cs.below hx) k2 k3 (by omega));obtain ⟨va,vac,hva⟩:=aS HT2.out.cs.row;obtain ⟨pa,pac,hpa⟩:=aS HT2.out.places;have HPL:=aA HT2.out.places;subst hva;subst hpa;have HUN:Hid (fO CV=st.places.map mI):=aA k1;have HPS:=aA k6;have hUf:(fO CV).length<=1000000:=by rw [k1];simp;omega
   have hUs:∀k (h:k<(fO CV).length),(fO CV)[k].1.size<=140737488355328:=λk h=>Nat.le_trans (k7 _ (zo _)) (by omega)
   have HUS:=aA hUs;have hz2:=HB2.out.size;clear k1 k2 k3 k6 k7 hUs HK hbx hpp HT1 HB1;go_upto_region 7 with (first
    | (go_at_call 32;refine (aTy ua uc (fO CV) w3 HUI.out).mono ?_;rintro e w4 ⟨r,rfl,hr,hb4⟩;have HR:=aA hr;have HB4:=aA (HB3.out.trans (hb4.mono HB3.out.size));clear hr hb4)
    | (go_at_call 33;refine (aB CU).mono ?_;rintro e w3 ⟨v3,rfl,ho3,hb3⟩;obtain ⟨ua,uc,rfl,hui⟩:=aTm ho3 hUf HUS.out;have HUI:=aA hui;have HB3:=aA hb3;clear ho3 hb3 hui)
    | go_in)
   have hz4:=HB4.out.size;have g4:=Below.at' HB4.out (zz _) d4;have g5:=Below.at' HB4.out (zz _) d5;have hr:=HR.out;rw [HUN.out] at hr;clear HR CU d4 d5;rcases aPx hr with ⟨rfl,hnm⟩ | ⟨k,hk,rfl,hnm⟩
   ·have HNM:=aA hnm;clear hr hnm;go_wp2_with (first
     | (go_at_call 34;refine (CS.out _ HB4.out).mono ?_;rintro e w5 ⟨v5,QV,at5,er5,rfl,hm5,ho5,hb5⟩;have HM5:=aA hm5;have HO5:=aA ho5;have HB5:=aA hb5;clear hm5 ho5 hb5)
     | go_in)
    go_returns;refine ⟨_,QV,at5,er5,rfl,za ⟨hs,?_⟩,HO5.out.mono (by omega),HB2.out.trans ((HB4.out.mono hz2).trans (HB5.out.mono (by omega)))⟩;rw [HALL.out];refine ⟨-1,HNM.out,za ⟨by omega,?_⟩⟩;rw [<-HCV.out];exact HM5.out
   ·have HNM:=aA hnm;have h0:=HPS.out _ (zo hk);obtain ⟨gp,gc,hgp⟩:=sH HPL.out (by omega);simp at hgp;obtain ⟨rfl,rfl⟩:=hgp;have c5:w2.cell? ⟨gp,k,none⟩=some (.int .i64 st.places[k].2.2.2):=by rw [HPL.out.cellAt _ (by omega),aPy _ k hk]
    have q5:=Below.at' HB4.out (zz _) c5;clear hr hnm CS c5;generalize st.places[k].2.2.2=pk at *;go_wp2;go_quiet (fail);go_wp2;go_returns;refine ⟨_,[],pk,3,rfl,za ⟨hs,?_⟩,kD.nil _ _,(HB2.out.trans (HB4.out.mono hz2)).trans ((aI ⟨_,rfl⟩).mono (by omega))⟩;rw [HALL.out];exact ⟨pk,HNM.out,z5 ⟨h0,rfl,rfl,rfl⟩⟩
end Go.Proofs.YtcldkjcpofjmhaaGreatDoor
