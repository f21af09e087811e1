import Derived.Test.YtcldkjcpofjmhaaGreatDoorGLitsM
import Derived.Laws.AppendOwnNone
open List renaming take_succ_eq_append_getElem→zy,append_assoc→zw,mem_append→zv,map_append→zu,flatMap_singleton→zs,length_append→zr,flatMap_cons→zq,getElem_mem→zo,take_length→zn,mem_map→zm,flatMap_append→zl,map_singleton→zk,mem_flatMap→zi,getElem_map→zh,nil_append→zf,getD_eq_getElem?_getD→ze,mem_cons→zb,getElem?_eq_getElem→za,cons_append→z0,mem_filterMap→z2,nodup_append→z3,length_cons→z6
open Nat renaming le_refl→zz,zero_le→zj
open Or renaming inr→z1,inl→z5
open Prod renaming fst→zx
namespace Go.Proofs.YtcldkjcpofjmhaaGreatDoor
open _root_.Go.Proofs.Tryz renaming prog→zt,underlying9→zg,underlying100→zc,ntmps21→z4,func21→z7
set_option maxHeartbeats 4000000
set_option maxRecDepth 100000
section
open Go.RowKit Go.WideMaps
theorem aNr{w:World}{ops:Array Oper}{rest:List Oper}{o:Oper}{a:Act}{Q:Exit->Act->World->Prop}(hgd:o.guard=none)(s x:Operand)(t:TypeId)
  (ho:o.op=.call {callee:=.builtin .append,args:=#[s,x],argTypes:=#[t,t]})
  (base:Nat) (e:TypeId) (i:TypeInfo) (z:Value) (size bytes:Nat) (ht:zt.underlying t=some (.slice e)) (hi:zt.info? e=some i) (hz:i.zero=some z) (hsize:i.size=size) (hby:i.bytes=bytes) (hzs:z.cells.size=size) (hsz:0<size)
  (v:Value) (n:Nat) (xs:List Value) (hs:a.eval s=v) (hown:w.ownsRow base e size v n xs) (v2:Value) (m base2:Nat) (ys:List Value) (hx:a.eval x=v2) (hown2:w.ownsRow base2 e size v2 m ys) (h1:∀u∈ys,u.oneCell'=true) (hmax:n+m<=maxLen) (hbytes:(n+m)*bytes<=140737488355328) (hbase:base<=w.heap.size)
  (h:∀v' w',w'.ownsRow base e size v' (n+m) (xs++ys)->w.grownBy w' v.ownBlock->wpList zt ops Q rest (a.put o.dst v') w'):wpList zt ops Q (o :: rest) a w:=by
 have hc:=hown2;obtain ⟨hl,⟨rfl,hm⟩ | ⟨g,cap,cur,rfl,hb,hh,hrest⟩⟩:=hown2
 ·subst hm;have hys:ys=[]:=List.eq_nil_of_length_eq_zero (by omega);subst hys;refine wpList_append_own_none hgd s x t ho base e i size ht hi v n xs hs hown hx ?_;exact h v w (by simpa using hown) (World.grownBy.refl _ _)
 ·refine wpList_append_own w hgd s x t ho base e i z size bytes ht hi hz hsize hby hzs hsz v n xs hs hown ⟨g,0,none⟩ m cap ys hx hl (λj u hj=>?_) h1 hmax hbytes hbase (λv' w' r1 r2 _=>h v' w' r1 r2);have hjl:=(List.getElem?_eq_some_iff.1 hj).1;have:=hc.cellAt j (by omega);rw [hj] at this;cases j with
  | zero=>simpa [Addr.add] using this
  | succ j=>simpa [Addr.add] using this
theorem yL(CV:List Pc):∀k (h:k<CV.length),(nY CV)[k*2]?=some (.int .i64 CV[k].1.1)/\(nY CV)[k*2+1]?=some CV[k].2:=by
 induction CV with
 | nil=>intro k h;simp at h
 | cons x r ih=>
  intro k h;cases k with
  | zero=>simp [nY]
  | succ k=>
   have:=ih k (by simpa using h);have e1:(k+1)*2=k*2+2:=by omega
   rw [e1];simp only [nY,zq,z0,zf,List.getElem_cons_succ] at this ⊢;have e2:k*2+2+1=k*2+1+2:=by omega
   rw [e2];simp only [List.getElem?_cons_succ];exact this
theorem aNs(U:List Us):∀u∈fY U,u.oneCell'=true:=by intro u hu;unfold fY at hu;rw [zi] at hu;obtain ⟨x,_,hx⟩:=hu;simp at hx;rcases hx with rfl | rfl | rfl <;> rfl
theorem aNt(U V:List Us):fY (U++V)=fY U++fY V:=by simp [fY]
structure aBa(p:Pc):Prop where
 short:∀q∈p.1.2,dO q.1.2
 count:aK (p.1.2.map zx)<=100000
 len:p.1.2.length<=100000
def fF(CV:List Pc):List Us:=CV.flatMap λp=>oX (p.1.2.map zx)
theorem aNu(CV:List Pc)(k:Nat)(h:k<CV.length):fF (CV.take (k+1))=fF (CV.take k)++oX (CV[k].1.2.map zx):=by rw [zy h];unfold fF;rw [zl,zs]
theorem aNv(CV:List Pc)(k:Nat):(fF (CV.take k)).length<=(fF CV).length:=by
 have:fF CV=fF (CV.take k)++fF (CV.drop k):=by unfold fF;rw [<-zl,List.take_append_drop]
 rw [this,zr];omega
theorem aNw{B pb:Nat}{w:World}{vC:Value}{CV:List Pc}(h:fE B w vC CV)(hb:w.cell? ⟨pb,4,none⟩=some vC)(hs:∀p∈CV,aBa p)(hl:CV.length<=1000000)(hU:(fF CV).length<=1000000) :
  Calls zt 33 #[.pointer (some ⟨pb,0,none⟩)] w λe w'=>∃v,e=.returned v/\w'.ownsRow w.heap.size 102 3 v (fF CV).length (fY (fF CV))/\Below w.heap.size w w':=by
 obtain ⟨iU,hI,hI0,hI1,hI2⟩:=info_parts aGi;obtain ⟨va,vac,rfl⟩:=aS h.row;have HH:=aA h;have HS:=aA hs;clear h hs;go_enter Tryz.func33,Tryz.ntmps33;go_wp2;go_loopw [3,11] (λo i wr=>∃k:Nat,k<=CV.length/\i=.int .i64 k/\wr.ownsRow w.heap.size 102 3 o (fF (CV.take k)).length (fY (fF (CV.take k)))/\Below w.heap.size w wr) (λ_ i _=>CV.length-(intOf i).toNat);case atStart=>exact ⟨0,zj _,rfl,World.ownsRow_nil _ _ _ _,Below.refl _ _⟩
 case round=>
  obtain ⟨k,hk,rfl,ho,hb2⟩:=hrel;obtain ⟨oa,oc,rfl⟩:=aS ho;have hz:=hb2.size;have HB2:=aA hb2;have HO:=aA ho;by_cases hlt:k<CV.length
  ·have hm:CV[k]∈CV:=zo _;have hsm:=HS.out _ hm;obtain ⟨aa,cap,hv,hlit⟩:=aC6 (P:=CV[k].1.2) (HH.out.each _ hm).1 (HH.out.each _ hm).2 hsm.short (by have:=hsm.count;omega) (by have:=hsm.len;omega);obtain ⟨gC,cC,hva⟩:=rZ HH.out.row (by omega);simp at hva;obtain ⟨rfl,rfl⟩:=hva;have e1:w.cell? ⟨gC,k*2,none⟩=some (.int .i64 CV[k].1.1):=by rw [HH.out.row.cellAt _ (by omega),(yL CV k hlt).1]
   have e2:w.cell? ⟨gC,k*2+1,none⟩=some (.slice aa CV[k].1.2.length cap):=by rw [HH.out.row.cellAt _ (by omega),(yL CV k hlt).2,hv]
   have f1:=Below.at' hb2 (zz _) e1;have f2:=Below.at' hb2 (zz _) e2;have hcnt:=hsm.count;have hus:=aNu CV k hlt;have hul:=aNv CV (k+1);rw [hus,zr] at hul;have HUS:=aA hus;have hpl:(CV[k].1.2.map zx).length=CV[k].1.2.length:=by simp
   rw [<-hpl] at f2;clear e1 e2 hv hsm hm hus hpl;generalize CV[k].1.2.map zx=c at *;generalize CV[k].1.1=at0 at *;generalize fF (CV.take k)=U0 at *;have CU:=aA (λwx (hx:bD wx aa c)=>aQf aa cap c wx hx hcnt);have HLI:=aA (hlit.below hb2 (zz _));clear ho hb2 hlit;go_wp2_with (first
    | (go_at_call 51;refine (CU.out _ (HLI.out.below ((Below.refl _ _).alloc (zz _) _) (zz _))).mono ?_;rintro e w1 ⟨v1,rfl,ho1,hb1⟩;have hA:=(HB2.out.alloc hz (.cells #[.int .i64 at0,.slice aa c.length cap] 105));have hB1:=hA.trans (hb1.mono hA.size);have h1s:=hB1.size;have hoo:=aU (HO.out.alloc _) hb1 (zz _);have HOO:=aA hoo;have HO1:=aA ho1;have HB1:=aA hB1;obtain ⟨u1,c1,rfl⟩:=aS ho1;clear hoo ho1 hb1 hA hB1)
    | (at_builtin;refine aNr rfl (.tmp 15) (.tmp 18) 84 rfl w.heap.size 102 iU (.agg #[.string ⟨#[]⟩,.bool false,.int .i64 0]) 3 32 Tryz.underlying84 hI hI0 hI1 hI2 rfl (by decide) _ _ _ rfl HOO.out _ _ _ _ rfl HO1.out (aNs _) (by unfold maxLen;omega) (by omega) h1s ?_;intro v2 w2 ho2 hg2;have HO2:=aA ho2;have HG2:=aA hg2;clear ho2 hg2)
    | go_in)
   go_roundw;case rel=>exact ⟨k+1,by omega,by go_num,by rw [HUS.out,zr,aNt];exact HO2.out,HB1.out.grown HG2.out h1s (λj e=>(aT HOO.out j e).1)⟩
   case measure=>simp [intOf];omega
  ·have hk':k=CV.length:=by omega
   subst hk';clear ho hb2;rw [zn] at HO;go_wp2;go_ret;exact ⟨_,rfl,by rw [zn];exact HO.out,HB2.out⟩
def aNx(CV:List Pc)(w:World)(e:Ending)(w':World):Prop:=
 ∃v QV at' er,e=.returned (.tuple #[v,.int .i64 at',.int .i64 er])/\zJ (CV.map iS) (QV.map λp=>p.1.map zx) at' er/\jZ w.heap.size w' v QV/\Below w.heap.size w w'
structure OLp(CV:List Pc)(w:World)(k:Nat)(v:Value)(wr:World)(QV:List (List (Lt×Value)×Value)):Prop where
 le:k<=CV.length
 made:QV.map (λp=>p.1.map zx)=(CV.take k).map λp=>aR (p.1.2.map zx)
 good:∀j h,j<k->¬oE (CV.map iS) j h
 mem:jZ w.heap.size wr v QV
 low:Below w.heap.size w wr
theorem aFd{CV:List Pc}{k:Nat}(h:k<CV.length)(h':k<(CV.map iS).length):oE (CV.map iS) k h'↔(40<=k\/dL (aR (CV[k].1.2.map zx))=false):=by unfold oE;rw [zh];exact Iff.rfl
theorem aNy{α:Type}{f:α->Option Nat}{l:List α}(h:(l.map f).Nodup):(l.filterMap f).Nodup:=by unfold List.Nodup at h ⊢;rw [List.pairwise_map] at h;refine List.Pairwise.filterMap f (λa a' hr b hb b' hb' e=>hr ?_) h;subst e;rw [hb,hb']
section
variable {CV:List Pc}{w wr:World}{k:Nat}{v:Value}{QV:List (List (Lt×Value)×Value)}
theorem aFe{w1 w2:World}{B:Nat}{c:List Lt}{vo:Value}{nb:Nat}{Q:List (Lt×Value)}(hO:uR w1 c vo nb Q w2)(hB:B<=w1.heap.size)(hs:∀x∈c,dO x.2)(hc:aK c<=100000)(hl:c.length<=100000) :
  pC w2 B (Q,vo)/\((∀q∈Q,dO q.1.2)/\aK (Q.map zx)<=1000000/\Q.length<=1000000)/\bD w2 (some ⟨nb,0,none⟩) (aR c):=by
 obtain ⟨o1,o2,o3⟩:=aI6 c hs;have hql:Q.length=(aR c).length:=by rw [<-hO.made];simp
 have hr:pC w2 B (Q,vo):=by refine ⟨?_,λq hq=>dI (hO.atoms q hq) hB⟩;rw [hO.val,hql];exact dI hO.row hB
 have hsh:∀q∈Q,dO q.1.2:=λq hq=>o1 q.1 (by rw [<-hO.made];exact zm.2 ⟨q,hq,rfl⟩)
 have hct:aK (Q.map zx)<=1000000:=by rw [hO.made];omega
 refine ⟨hr,⟨hsh,hct,by omega⟩,?_⟩;obtain ⟨a,cap,hv,hlit⟩:=aC6 (P:=Q) hr.1 hr.2 hsh hct (by omega);rw [hO.val] at hv;simp at hv;rw [<-hO.made];rw [hv.1];exact hlit
theorem aNz{w2 w3 w4:World}{c:List Lt}{vo v':Value}{nb:Nat}{Q:List (Lt×Value)}{X Y:Obj}(h:OLp CV w k v wr QV)(hk:k<CV.length)(hcv:CV[k].1.2.map zx=c)(hO:uR (wr.alloc X) c vo nb Q w2)(hb3:Below w2.heap.size w2 w3)(hs:∀x∈c,dO x.2)(hc:aK c<=100000)(hl:c.length<=100000)(hgood:k<40/\dL (aR c)=true)(ho:w4.ownsRow w.heap.size 22 1 v' (QV.length+1) (QV.map Prod.snd++[vo]))(hg:(w3.alloc Y).grownBy w4 v.ownBlock) :
  OLp CV w (k+1) v' w4 (QV++[(Q,vo)]):=by
 have hz:=h.low.size;have hA:=(Below.refl wr.heap.size wr).alloc (zz _) X;have hz2:=hO.low.size;have hz3:=hb3.size;have hn3:Below w2.heap.size w2 (w3.alloc Y):=hb3.alloc hz3 Y;simp at hz2;have hch:Below wr.heap.size wr (w3.alloc Y):=(hA.trans (hO.low.mono (by simp))).trans (hn3.mono (by omega));have hrow:=aU h.mem.mem.1 hch (zz _);obtain ⟨hcl,hsm,_⟩:=aFe (B:=w.heap.size) hO (by simp;omega) hs hc hl;have hvb:vo.ownBlock=some nb:=by rw [hO.val];rfl
 have hnb:wr.heap.size<nb+1:=by have:=(aT hO.row nb rfl).1;simp at this;omega
 refine ⟨hk,?_,λj hj hjk=>?_,⟨⟨?_,λp hp=>?_⟩,?_,?_⟩,?_⟩
 ·rw [zu,h.made,zk,zy hk,zu,zk,hO.made,hcv]
 ·by_cases hjk':j=k
  ·subst hjk';rw [aFd hk,hcv,hgood.2];rintro (h1 | h1)
   ·omega
   ·simp at h1
  ·exact h.good j hj (by omega)
 ·rw [zr,zu,zk];exact ho
 ·rcases zv.1 hp with hp | hp
  ·obtain ⟨h1,h2⟩:=h.mem.mem.2 p hp;refine ⟨⟨?_,λq hq=>?_⟩,h2⟩
   ·have:=aU h1.1 hch (zz _);exact this.kept hg (bV this hrow (by decide))
   ·have:=aU (h1.2 q hq) hch (zz _);exact this.kept hg (bV this hrow (by decide))
  ·simp at hp;subst hp;refine ⟨⟨?_,λq hq=>?_⟩,hsm⟩
   ·have:=aU hcl.1 hn3 (zz _);exact this.kept hg (bV this hrow (by decide))
   ·have:=aU (hcl.2 q hq) hn3 (zz _);exact this.kept hg (bV this hrow (by decide))
 ·rw [zu,zk,z3];refine ⟨h.mem.once,by simp,λa ha b hb=>?_⟩;simp at hb;subst hb;obtain ⟨p,hp,rfl⟩:=zm.1 ha;rw [hvb];intro e;have:=(aT (h.mem.mem.2 p hp).1.1 nb e).2;omega
 ·rw [zl,zs,z3];refine ⟨h.mem.atoms,aNy hO.once,λa ha b hb=>?_⟩;obtain ⟨p,hp,ha⟩:=zi.1 ha;obtain ⟨q,hq,hqa⟩:=z2.1 ha;obtain ⟨q',hq',hqb⟩:=z2.1 hb;intro e;subst e;have h1:=(aT ((h.mem.mem.2 p hp).1.2 q hq) a hqa).2;have h2:=(aT (hO.atoms q' hq') a hqb).1;simp at h2;omega
 ·exact (h.low.trans (hch.mono hz)).grown hg (by have:=hch.size;omega) (λj e=>(aT hrow j e).1)
theorem aO0{B:Nat}{vC:Value}(h:fE B w vC CV)(hs:∀p∈CV,aBa p)(hv:∀p∈CV,∀q∈p.1.2,uO q.1.2)(hl:CV.length<=1000000) :
  Calls zt 34 #[vC] w λe w'=>aNx CV w e w':=by
 obtain ⟨iM,hM,hM0,hM1,hM2⟩:=info_parts aSl;obtain ⟨va,vac,rfl⟩:=aS h.row;have HH:=aA h;have HS:=aA hs;have HV:=aA hv;clear h hs hv;go_enter Tryz.func34,Tryz.ntmps34;go_wp2;go_loopw [5,11] (λo i wr=>∃(k:Nat) (QV:List (List (Lt×Value)×Value)),i=.int .i64 k/\OLp CV w k o wr QV) (λ_ i _=>CV.length-(intOf i).toNat);case atStart=>exact ⟨0,[],rfl,⟨zj _,rfl,λj h hj=>by omega,jZ.nil _ _,Below.refl _ _⟩⟩
 case round=>
  obtain ⟨k,QV,rfl,hL⟩:=hrel;have hk:=hL.le;have hz:=hL.low.size;obtain ⟨oa,oc,rfl⟩:=aS hL.mem.mem.1;have hQl:QV.length=k:=by have:=congrArg List.length hL.made;simp at this;omega
  have hq1:QV.length<=1000000:=by omega
  clear hQl;by_cases hlt:k<CV.length
  ·have hm:CV[k]∈CV:=zo _;have hsm:=HS.out _ hm;obtain ⟨aa,cap,hv,hlit⟩:=aC6 (P:=CV[k].1.2) (HH.out.each _ hm).1 (HH.out.each _ hm).2 hsm.short (by have:=hsm.count;omega) (by have:=hsm.len;omega);obtain ⟨gC,cC,hva⟩:=rZ HH.out.row (by omega);simp at hva;obtain ⟨rfl,rfl⟩:=hva;have e1:w.cell? ⟨gC,k*2,none⟩=some (.int .i64 CV[k].1.1):=by rw [HH.out.row.cellAt _ (by omega),(yL CV k hlt).1]
   have e2:w.cell? ⟨gC,k*2+1,none⟩=some (.slice aa CV[k].1.2.length cap):=by rw [HH.out.row.cellAt _ (by omega),(yL CV k hlt).2,hv]
   have f1:=Below.at' hL.low (zz _) e1;have f2:=Below.at' hL.low (zz _) e2;have hcnt:=hsm.count;have hln:=hsm.len;have hpl:(CV[k].1.2.map zx).length=CV[k].1.2.length:=by simp
   rw [<-hpl] at f2 hln;have hsh:∀x∈CV[k].1.2.map zx,dO x.2:=λx hx=>by obtain ⟨q,hq,rfl⟩:=zm.1 hx;exact hsm.short q hq
   have hvo:∀x∈CV[k].1.2.map zx,uO x.2:=λx hx=>by obtain ⟨q,hq,rfl⟩:=zm.1 hx;exact HV.out _ hm q hq
   have hbad:=aFd hlt (by simpa using hlt);obtain ⟨c,hcv⟩ : ∃c,CV[k].1.2.map zx=c:=⟨_,rfl⟩;obtain ⟨at0,hat⟩ : ∃a,CV[k].1.1=a:=⟨_,rfl⟩;rw [hcv] at f2 hln hcnt hsh hvo hbad hlit;rw [hat] at f1;have HBAD:Hid (40<=k\/dL (aR c)=false->zJ (CV.map iS) [] at0 4):=aA λhx=>z5 ⟨k,by simpa using hlt,hbad.2 hx,hL.good,rfl,by rw [zh];simp [iS,hat],rfl⟩
   have HPUT:=aA (λ(w2 w3 w4:World) (vo v':Value) (nb:Nat) (Q:List (Lt×Value)) (X Y:Obj) hO hb3 hg ho hgr=>aNz (w2:=w2) (w3:=w3) (w4:=w4) (vo:=vo) (v':=v') (nb:=nb) (Q:=Q) (X:=X) (Y:=Y) hL hlt hcv hO hb3 hsh hcnt hln hg ho hgr);have CO:=aA (λwx (hx:bD wx aa c)=>aGr aa cap c wx hx hvo hcnt hln);have HOC:=aA (λ(w1 w2:World) (vo:Value) (nb:Nat) (Q:List (Lt×Value)) (hO:uR w1 c vo nb Q w2)=>(aFe (B:=0) hO (zj _) hsh hcnt hln).2.2);have HLI:=aA (hlit.below hL.low (zz _));have HR:=aA hL.mem.mem.1;have HL:=aA hL;clear e1 e2 hv hsm hm hpl hbad hcv hat hL hlit hsh hvo;have X0:Hid ((wr.alloc (.cells #[.int .i64 at0,.slice aa c.length cap] 105)).cell? ⟨wr.heap.size,0,none⟩=some (.int .i64 at0)):=aA (by simp);by_cases h40:k<40
   ·cases hfit:dL (aR c) with
    | false=>
     have HBR:=aA (HBAD.out (z1 hfit));have CF:=aA (λwx nb (hx:bD wx (some ⟨nb,0,none⟩) (aR c))=>zH (some ⟨nb,0,none⟩) (aR c).length (aR c) wx hx);rw [hfit] at CF;clear HPUT HBAD hfit;go_wp2_with (first
      | (go_at_call 53;refine (CF.out _ nb (HOC.out _ _ _ _ _ HO.out)).mono ?_;rintro e w3 ⟨rfl,hb3⟩;have HB3:=aA hb3;have x3:=Below.at' hb3 (zz _) x0;have HR3:=aA (aU HR2.out hb3 (zz _));have hz3:=hb3.size;clear hb3)
      | (go_at_call 52;refine (CO.out _ (HLI.out.below ((Below.refl _ _).alloc (zz _) _) (zz _))).mono ?_;rintro e w2 ⟨vo,nb,Q,rfl,hO⟩;have hvo:=hO.val;subst hvo;have x0:=Below.at' hO.low (zz _) X0.out;have HO:=aA hO;have HB2:=aA (HL.out.low.trans (((Below.refl wr.heap.size wr).alloc (zz _) (.cells #[.int .i64 at0,.slice aa c.length cap] 105)).mono hz |>.trans (hO.low.mono (by simp;omega))));have HR2:=aA (aU (HR.out.alloc _) hO.low (zz _));have hz2:=hO.low.size;simp at hz2;clear hO)
      | go_in)
     go_quiet (fail);go_wp2;go_returns;exact ⟨_,[],at0,4,rfl,HBR.out,jZ.nil _ _,(HB2.out.trans (HB3.out.mono (by omega))).trans ((aJ ⟨_,rfl⟩).mono (by omega))⟩
    | true=>
     have CF:=aA (λwx nb (hx:bD wx (some ⟨nb,0,none⟩) (aR c))=>zH (some ⟨nb,0,none⟩) (aR c).length (aR c) wx hx);rw [hfit] at CF;have HP2:=aA (λw2 w3 w4 vo v' nb Q X Y hO hb3 ho hgr=>HPUT.out w2 w3 w4 vo v' nb Q X Y hO hb3 ⟨h40,hfit⟩ ho hgr);clear HPUT HBAD hfit;go_wp2_with (first
      | (at_builtin;refine wpList_append_own _ rfl (.tmp 28) (.tmp 30) 26 rfl w.heap.size 22 iM (.slice none 0 0) 1 24 Tryz.underlying26 hM hM0 hM1 hM2 rfl (by decide) _ _ _ rfl (HR3.out.alloc _) ⟨_,0,none⟩ 1 1 [.slice (some ⟨nb,0,none⟩) (aR c).length (aR c).length] rfl rfl (rJ w3 _ _ _ rfl) (by intro u hu;simp at hu;subst hu;rfl) (by unfold maxLen;omega) (by omega) (by simp;omega) ?_;intro v4 w4 ho4 hg4 _;have HL4:=aA (HP2.out _ _ _ _ _ _ _ _ _ HO.out HB3.out ho4 hg4);clear ho4 hg4)
      | (go_at_call 53;refine (CF.out _ nb (HOC.out _ _ _ _ _ HO.out)).mono ?_;rintro e w3 ⟨rfl,hb3⟩;have HB3:=aA hb3;have x3:=Below.at' hb3 (zz _) x0;have HR3:=aA (aU HR2.out hb3 (zz _));have hz3:=hb3.size;clear hb3)
      | (go_at_call 52;refine (CO.out _ (HLI.out.below ((Below.refl _ _).alloc (zz _) _) (zz _))).mono ?_;rintro e w2 ⟨vo,nb,Q,rfl,hO⟩;have hvo:=hO.val;subst hvo;have x0:=Below.at' hO.low (zz _) X0.out;have HO:=aA hO;have HB2:=aA (HL.out.low.trans (((Below.refl wr.heap.size wr).alloc (zz _) (.cells #[.int .i64 at0,.slice aa c.length cap] 105)).mono hz |>.trans (hO.low.mono (by simp;omega))));have HR2:=aA (aU (HR.out.alloc _) hO.low (zz _));have hz2:=hO.low.size;simp at hz2;clear hO)
      | go_in)
     go_roundw;case rel=>exact ⟨k+1,_,by go_num,HL4.out⟩
     case measure=>simp [intOf];omega
   ·have HBR:=aA (HBAD.out (z5 (by omega)));clear HPUT HBAD;go_wp2_with (first
     | (go_at_call 52;refine (CO.out _ (HLI.out.below ((Below.refl _ _).alloc (zz _) _) (zz _))).mono ?_;rintro e w2 ⟨vo,nb,Q,rfl,hO⟩;have hvo:=hO.val;subst hvo;have x0:=Below.at' hO.low (zz _) X0.out;have HO:=aA hO;have HB2:=aA (HL.out.low.trans (((Below.refl wr.heap.size wr).alloc (zz _) (.cells #[.int .i64 at0,.slice aa c.length cap] 105)).mono hz |>.trans (hO.low.mono (by simp;omega))));have HR2:=aA (aU (HR.out.alloc _) hO.low (zz _));have hz2:=hO.low.size;simp at hz2;clear hO)
     | go_in)
    go_quiet (fail);go_wp2;go_returns;exact ⟨_,[],at0,4,rfl,HBR.out,jZ.nil _ _,HB2.out.trans ((aJ ⟨_,rfl⟩).mono (by omega))⟩
  ·have hk':k=CV.length:=by omega
   have HF:Hid (zJ (CV.map iS) (QV.map λp=>p.1.map zx) 0 0):=aA (z1 ⟨λj hj=>hL.good j hj (by simp at hj;omega),by rw [hL.made,hk',zn,List.map_map];rfl,rfl,rfl⟩);have HL:=aA hL;clear hL hk';go_wp2;go_returns;exact ⟨_,QV,0,0,rfl,HF.out,HL.out.mem,HL.out.low⟩
end
def jA:Nat->List Nd->List Us
 | _,[]=>[]
 | k,n :: r=>lR k n++jA (k+1) r
theorem aFf(a b:List Nd):∀k,jA k (a++b)=jA k a++jA (k+a.length) b:=by
 induction a with
 | nil=>intro k;simp [jA]
 | cons x r ih=>intro k;simp only [z0,jA,ih,zw,z6];rw [show k+1+r.length=k+(r.length+1) by omega]
theorem aO1(l:List Nd):∀k,k<=l.length->jD l k=jA 0 (l.take k):=by
 intro k;induction k with
 | zero=>intro _;simp [jD,jA]
 | succ k ih=>
  intro hk;rw [aGe l k hk,ih (by omega),zy hk,aFf];simp [jA,Nat.min_eq_left (show k<=l.length by omega)]
theorem aO2(c:List Lt):∀k,k<=c.length->lS c k=(c.take k).flatMap λx=>jA 0 x.2:=by
 intro k;induction k with
 | zero=>intro _;simp [lS]
 | succ k ih=>
  intro hk;rw [aBu c k hk,ih (by omega),zy hk,zl,zs,aO1 _ _ (zz _),zn]
theorem yM(c:List Lt):oX c=c.flatMap λx=>jA 0 x.2:=by unfold oX;rw [aO2 c _ (zz _),zn]
def lN(m:Nat)(l:List Nd):Prop:=∀n∈l,aF n=true->0<=n.2/\n.2<=m
theorem lN.mono{m m':Nat}{l:List Nd}(h:lN m l)(hm:m<=m'):lN m' l:=λn hn hv=>by have:=h n hn hv;omega
theorem lN.append{m:Nat}{a b:List Nd}(h:lN m a)(k:lN m b):lN m (a++b):=λn hn=>by
 rcases zv.1 hn with hn | hn
 ·exact h n hn
 ·exact k n hn
theorem aO3(l:List ByteArray)(x:ByteArray):0<=nI l x/\nI l x<=(oF l x).length:=by
 have:=aTn l x;unfold nI oF;split
 ·simp;omega
 ·omega
theorem aFg{α:Type}(f:α->α)(p:α)(b:List α):∀a:List α,(a++[p]++b).modify a.length f=a++[f p]++b:=by
 intro a;induction a with
 | nil=>rfl
 | cons x r ih=>simp only [z0,z6,List.modify_succ_cons,ih]
theorem aO4(a b:List Pl)(p:Pl)(n:Nat):pE (a++[p]++b) a.length n=a++[(p.1,p.2.1,(n:Int),p.2.2.2)]++b:=aFg _ _ _ _
theorem aO5(a b:List Nd)(p:Nd)(n:Nat):dP (a++[p]++b) a.length n=a++[(p.1,(n:Int))]++b:=aFg _ _ _ _
structure aFh(st st':bB)(l l':List Nd)(Q:List Pl)(M:List Nd):Prop where
 pl:st'.places=st.places++Q
 nd:l'=l++M
 us:Q.map lT=jA l.length M
 vs:lN st'.vars.length M
 ps:∀p∈Q,0<=p.2.2.2
theorem aO6{T:List Tk}(hN:∀i,(aE T i).kind=110->(aE T i).txt.toList.isEmpty=false):∀f,(∀atom st l st' l',cU T f atom st l=.ok (st',l')->atom=decide (l.length=0)->∃Q M,aFh st st' l l' Q M)/\
  (∀st l n st' l' n',eI T f st l n=.ok (st',l',n')->0<l.length->∃Q M,aFh st st' l l' Q M):=by
 intro f;induction f with
 | zero=>exact ⟨λatom st l st' l' h=>by simp [cU] at h,λst l n st' l' n' h=>by simp [eI] at h⟩
 | succ f ih=>
  obtain ⟨ih1,ih2⟩:=ih;constructor
  ·intro atom st l st' l' h ha;rw [cU] at h;split at h
   ·simp only [Except.ok.injEq,Prod.mk.injEq] at h;obtain ⟨rfl,rfl⟩:=h;refine ⟨[],[(⟨#[]⟩,nI st.vars (aE T st.i).txt)],by simp,rfl,?_,?_,λp hp=>by simp at hp⟩
    ·simp [jA,lR,aF]
    ·intro n hn _;simp at hn;subst hn;exact aO3 _ _
   ·split at h
    ·simp at h
    ·rename_i hk110;simp only [ne_eq,Decidable.not_not] at hk110;have hne:=hN _ hk110;have huse:∀m:Int,lR l.length ((aE T st.i).txt,m)=[((aE T st.i).txt,atom,m)]:=by
      intro m;unfold lR aF;simp only;rw [hne,ha];rfl
     have hvar:∀m:Int,aF ((aE T st.i).txt,m)=false:=λm=>hne
     split at h
     ·split at h
      ·simp at h
      ·rename_i st1 l1 n1 hq;simp only [Except.ok.injEq,Prod.mk.injEq] at h;obtain ⟨rfl,rfl⟩:=h;obtain ⟨Q,M,hp⟩:=ih2 _ _ _ _ _ _ hq (by simp);have hpl:=hp.pl;have hnd:=hp.nd;have hus:=hp.us;have hps:=hp.ps;simp only at hpl;refine ⟨((aE T st.i).txt,atom,(n1:Int),((aE T st.i).pos:Int)) :: Q,((aE T st.i).txt,(n1:Int)) :: M,?_,?_,?_,?_,λp hp=>?_⟩
       ·simp only;rw [hpl,aO4];simp
       ·rw [hnd,aO5];simp
       ·rw [List.map_cons,hus,jA,huse];simp [lT]
       ·intro n hn hv;rcases zb.1 hn with rfl | hn
        ·rw [hvar] at hv;cases hv
        ·exact hp.vs n hn hv
       ·rcases zb.1 hp with rfl | hp
        ·simp
        ·exact hps p hp
     ·simp only [Except.ok.injEq,Prod.mk.injEq] at h;obtain ⟨rfl,rfl⟩:=h;refine ⟨[((aE T st.i).txt,atom,0,((aE T st.i).pos:Int))],[((aE T st.i).txt,0)],rfl,rfl,?_,?_,λp hp=>by simp at hp;subst hp;simp⟩
      ·rw [jA,huse];rfl
      ·intro n hn hv;simp at hn;subst hn;rw [hvar] at hv;cases hv
  ·intro st l n st' l' n' h hl;rw [eI] at h;split at h
   ·simp at h
   ·rename_i st1 l1 hp;obtain ⟨Q,M,q⟩:=ih1 _ _ _ _ _ hp (decide_eq_false (by omega)).symm;have hon:=(uX T f).1 _ _ _ _ _ hp;have q1:=q.pl;have q2:=q.nd;have q3:=q.us;simp only at q1;split at h
    ·have hl1:0<l1.length:=by omega
     have hon2:=(uX T f).2 _ _ _ _ _ _ h;obtain ⟨Q2,M2,r⟩:=ih2 _ _ _ _ _ _ h hl1;refine ⟨Q++Q2,M++M2,?_,?_,?_,?_,λp hp=>(zv.1 hp).elim (q.ps p) (r.ps p)⟩
     ·rw [r.pl,q1,zw]
     ·rw [r.nd,q2,zw]
     ·rw [zu,q3,r.us,aFf,q2,zr]
     ·exact (q.vs.mono (by omega)).append r.vs
    ·split at h
     ·simp only [Except.ok.injEq,Prod.mk.injEq] at h;obtain ⟨rfl,rfl,rfl⟩:=h;exact ⟨Q,M,q1,q2,q3,q.vs,q.ps⟩
     ·simp at h
theorem aO7{T:List Tk}(hN:∀i,(aE T i).kind=110->(aE T i).txt.toList.isEmpty=false):∀f st c st' c',iH T f st c=.ok (st',c')->(∀x∈c,lN st.vars.length x.2)->∃Q C,st'.places=st.places++Q/\c'=c++C/\Q.map lT=oX C/\(∀x∈c',lN st'.vars.length x.2)/\st.vars.length<=st'.vars.length/\st.i<=st'.i/\st'.vars.length+st.i<=st.vars.length+st'.i/\∀p∈Q,0<=p.2.2.2:=by
 intro f;induction f with
 | zero=>intro st c st' c' h;simp [iH] at h
 | succ f ih=>
  intro st c st' c' h hv;cases hq:cU T (T.length+1) true (jM T st) [] with
  | error p=>rw [aC7 hq] at h;simp at h
  | ok r=>
   obtain ⟨s2,l2⟩:=r;obtain ⟨q1,q2,q3,q4⟩:=aCa T st;obtain ⟨Q,M,hp⟩:=(aO6 hN (T.length+1)).1 _ _ _ _ _ hq rfl;have hon:=(uX T (T.length+1)).1 _ _ _ _ _ hq;have hpl:=hp.pl;have hnd:=hp.nd;have hus:=hp.us;rw [q4] at hpl;rw [q3] at hon;simp only [zf] at hnd;subst hnd;have hv2:∀x∈c++[(decide ((aE T st.i).kind=126),l2)],lN s2.vars.length x.2:=by
    intro x hx;rcases zv.1 hx with hx | hx
    ·exact (hv x hx).mono (by omega)
    ·simp at hx;subst hx;exact hp.vs
   by_cases hk:(aE T s2.i).kind=124
   ·rw [aC8 hq hk] at h;obtain ⟨Q2,C2,r1,r2,r3,r4,r5,r6,r7,r8⟩:=ih _ _ _ _ h hv2;simp only at r1 r5 r6 r7;refine ⟨Q++Q2,(decide ((aE T st.i).kind=126),l2) :: C2,?_,?_,?_,r4,by omega,by omega,by omega,λp hq'=>(zv.1 hq').elim (hp.ps p) (r8 p)⟩
    ·rw [r1,hpl,zw]
    ·rw [r2,zw];rfl
    ·rw [zu,hus,r3,yM,yM,zq];rfl
   ·rw [aC9 hq hk] at h;simp only [Except.ok.injEq,Prod.mk.injEq] at h;obtain ⟨rfl,rfl⟩:=h;refine ⟨Q,[(decide ((aE T st.i).kind=126),l2)],hpl,rfl,?_,hv2,by omega,by omega,by omega,hp.ps⟩;rw [hus,yM,zs];rfl
theorem aO8{T:List Tk}(hN:∀i,(aE T i).kind=110->(aE T i).txt.toList.isEmpty=false){st st':bB}{c:List Lt}(h:nK T st=.ok (st',c)):∃Q,st'.places=st.places++Q/\Q.map lT=oX c/\(∀x∈c,lN st'.i x.2)/\∀p∈Q,0<=p.2.2.2:=by
 unfold nK at h;cases hq:nJ T st with
 | error p=>rw [hq] at h;simp at h
 | ok r=>
  obtain ⟨s1,c1⟩:=r;rw [hq] at h;simp only at h;split at h
  ·simp only [Except.ok.injEq,Prod.mk.injEq] at h;obtain ⟨rfl,rfl⟩:=h;unfold nJ at hq;split at hq
   ·simp only [Except.ok.injEq,Prod.mk.injEq] at hq;obtain ⟨rfl,rfl⟩:=hq;exact ⟨[],by simp,rfl,λx hx=>by simp at hx,λp hp=>by simp at hp⟩
   ·obtain ⟨Q,C,r1,r2,r3,r4,r5,r6,r7,r8⟩:=aO7 hN _ _ _ _ _ hq (λx hx=>by simp at hx);simp only [zf] at r2;subst r2;simp only [List.length_nil] at r7;exact ⟨Q,r1,r3,λx hx=>(r4 x hx).mono (by simp;omega),r8⟩
  ·simp at h
structure aFi(T:List Tk)(c:List Lt):Prop where
 short:∀x∈c,dO x.2
 count:aK c<=T.length
 len:c.length<=T.length
 vars:∀x∈c,lN T.length x.2
theorem aO9{L T:List Tk}{brk:Int}(ht:TL L T brk)(hx:wQ L T)(hN:∀i,(aE T i).kind=110->(aE T i).txt.toList.isEmpty=false):∀f st cs st' cs',kB T f st cs=.ok (st',cs')->st.i<T.length->∃Q C,st'.places=st.places++Q/\cs'=cs++C/\Q.map lT=(C.flatMap λp=>oX p.2)/\(∀p∈C,aFi T p.2)/\st'.i<T.length/\st.i+C.length<=st'.i/\st'.places.length+st.i<=st.places.length+st'.i/\∀p∈Q,0<=p.2.2.2:=by
 intro f;induction f with
 | zero=>intro st cs st' cs' h;simp [kB] at h
 | succ f ih=>
  intro st cs st' cs' h hi;rw [kB] at h;split at h
  ·simp only [Except.ok.injEq,Prod.mk.injEq] at h;obtain ⟨rfl,rfl⟩:=h;exact ⟨[],[],by simp,by simp,rfl,λp hp=>by simp at hp,hi,by simp,by omega,λp hp=>by simp at hp⟩
  ·split at h
   ·simp at h
   ·rename_i s1 c hq;obtain ⟨o1,o2,o3,o4,o5,o6,o7⟩:=aI5 ht hx hq hi;obtain ⟨Q,p1,p2,p3,p4⟩:=aO8 hN hq;obtain ⟨Q2,C,r1,r2,r3,r4,r5,r6,r7,r8⟩:=ih _ _ _ _ h o3;refine ⟨Q++Q2,((aE T st.i).pos,c) :: C,?_,?_,?_,?_,r5,by simp;omega,by omega,λp hp=>(zv.1 hp).elim (p4 p) (r8 p)⟩
    ·rw [r1,p1,zw]
    ·rw [r2,zw];rfl
    ·rw [zu,p2,r3,zq]
    ·intro p hp;rcases zb.1 hp with rfl | hp
     ·exact ⟨o1,o4,o5,λx hx=>(p3 x hx).mono (by omega)⟩
     ·exact r4 p hp
theorem aOa{x:ByteArray}(h:0<x.size):x.toList.isEmpty=false:=by
 cases he:x.toList.isEmpty with
 | false=>rfl
 | true=>
  rw [List.isEmpty_iff] at he;have:x=⟨#[]⟩:=aAt.1 (by rw [he];simp);subst this;rw [uU] at h;omega
theorem aOb{x:ByteArray}(h:fW x=true):0<x.size:=by
 rcases Nat.eq_zero_or_pos x.size with hx | hx
 ·unfold fW at h;rw [yC _ _ _ _ (by omega)] at h;simp at h
 ·exact hx
theorem aOc(s:ByteArray):∀f name p n e,gA s f name p=some (n,e)->0<n.size:=by
 intro f;induction f with
 | zero=>intro name p n e h;simp [gA] at h
 | succ f ih=>
  intro name p n e h;rw [gA] at h;split at h
  ·split at h
   ·split at h
    ·rename_i hn;simp only [Option.some.injEq,Prod.mk.injEq] at h;rw [<-h.1];exact aOb hn
    ·simp at h
   ·split at h
    ·split at h
     ·exact ih _ _ _ _ h
     ·simp at h
    ·split at h
     ·simp at h
     ·exact ih _ _ _ _ h
  ·simp at h
theorem aOd{s:ByteArray}{k e:Nat}{t:Tk}(hk:k<s.size)(h:eP s k=.tok t e)(h110:t.kind=110):0<t.txt.size:=by
 unfold eP at h;split at h
 ·rename_i hl;split at h
  ·cases h
  ·simp only [Nx.tok.injEq] at h;rw [<-h.1];simp only;have hin:=aEp hl;have hr:=aCe hk hin;have hb:=aCf s (s.size-(k+1)) (k+1);have hb2:k+1<=eN s (k+1)/\(k+1<=s.size->eN s (k+1)<=s.size):=hb;rw [hr,ByteArray.size_extract];omega
 ·split at h
  ·split at h
   ·rename_i n e' hq;simp only [Nx.tok.injEq] at h;rw [<-h.1];exact aOc s _ _ _ _ _ hq
   ·cases h
  ·split at h
   ·split at h
    ·simp only [Nx.tok.injEq] at h;rw [<-h.1] at h110;simp at h110
    ·cases h
   ·split at h
    ·rename_i hm;simp only [Nx.tok.injEq] at h;rw [<-h.1] at h110;simp only at h110;rw [h110] at hm;simp [pD] at hm
    ·cases h
theorem aOe(s:ByteArray):∀f k,∀t∈(cQ s f k).1,t.kind=110->0<t.txt.size:=by
 intro f;induction f with
 | zero=>intro k;simp [cQ]
 | succ f ih=>
  intro k;rw [cQ];split
  ·rename_i hk;split
   ·exact ih _
   ·split
    ·exact ih _
    ·split
     ·rename_i t e ht;intro u hu;rcases zb.1 hu with rfl | hu
      ·exact aOd hk ht
      ·exact ih _ u hu
     ·simp
  ·intro t ht h110;simp at ht;rw [ht] at h110;simp at h110
theorem aOf(s:ByteArray)(q i:Nat)(h:(aE (dV s q) i).kind=110):(aE (dV s q) i).txt.toList.isEmpty=false:=by
 refine aOa ?_;have key:∀t∈dV s q,t.kind=110->0<t.txt.size:=by
  intro t ht;unfold dV eQ at ht;rcases zv.1 ht with ht | ht
  ·exact aOe s _ _ t ht
  ·generalize (cQ s (s.size+1-q) q).2=b at ht;cases b with
   | none=>simp at ht
   | some p=>
    simp at ht;rw [ht];intro h;simp at h
 unfold aE at h ⊢;by_cases hl:i<(dV s q).length
 ·rw [ze,za hl,Option.getD_some] at h ⊢;exact key _ (zo _) h
 ·rw [ze,List.getElem?_eq_none (by omega)] at h;exact absurd h (by decide)
end
section
open Go.RowKit Go.Shelf Go.WideMaps
def rQ(U:List Us)(r:Int):Prop:=(r=-1/\aGg U)\/∃k:Nat,k<U.length/\r=k/\rU U k/\¬rU U (k+1)
theorem rQ.of{U:List Us}{k:Nat}(h:rU U k)(hk:k<U.length)(hn:¬rU U (k+1)):rQ U k:=z1 ⟨k,hk,rfl,h,hn⟩
theorem aOg(a:Option Addr)(cp:Nat)(U:List Us)(w:World)(h:aGh w a U) :
  Calls zt 32 #[.slice a U.length cp] w λe w'=>∃r:Int,e=.returned (.int .i64 r)/\rQ U r/\Below w.heap.size w w':=by
 have hf:=h.few;have HH:=aA h;have hmm:=@run_makeMap zt;have gU:=aQk;clear h;go_enter Tryz.func32,Tryz.ntmps32;go_wp2;go_loopw [11] (λi wr=>∃(k:Nat) (D:DataW Unit),k<=U.length/\i=.int .i64 k/\wr.ownsMap zt 9 wK w.heap.size k D/\wL D U k/\rU U k/\Below w.heap.size w wr) (λi _=>U.length-(intOf i).toNat);case atStart=>exact ⟨0,.map [],zj _,rfl,World.ownsMap_made _ _ _ _,aQg U,λi _ hi=>by omega,(Below.refl _ _).alloc (zz _) _⟩
 case round=>
  obtain ⟨k,D,hk,rfl,hown,hmi,hok,hb⟩:=hrel;have hbs:=hb.size;have HM:=aA hmi;have HK:=aA hok;have HB:=aA hb;by_cases hlt:k<U.length
  ·obtain ⟨b,rfl,e1,e2,e3⟩:=HH.out.cell k hlt;have q1:=Below.at' hb (zz _) e1;have q2:=Below.at' hb (zz _) e2;have q3:=Below.at' hb (zz _) e3;have hsh:=HH.out.short k hlt;have HBAD:Hid (5<U[k].2.2->rQ U k):=λh5=>rQ.of HK.out hlt λhu=>by have:=(hu k hlt (by omega)).1;omega
   have HODD:Hid (∀j (hj:j<U.length),j<k->U[j].1=U[k].1->U[j]≠U[k]->rQ U k):=λj hj hjk he hne=>rQ.of HK.out hlt λhu=>by
    have h2:=(hu k hlt (by omega)).2 j hjk he;exact hne (Prod.ext he h2)
   have HNEXT:Hid (U[k].2.2<=5->(∀j (hj:j<U.length),j<k->U[j].1=U[k].1->U[j]=U[k])->rU U (k+1)/\wL (D.put (.string U[k].1.data.toList) (qC U[k])) U (k+1)):=λh5 hs=>by
    refine ⟨λi hi hik=>?_,aQh HM.out hlt hs⟩;by_cases hik':i=k
    ·subst hik';exact ⟨h5,λj hj he=>by rw [hs j (by omega) hj he]⟩
    ·exact HK.out i hi (by omega)
   have hkey:keyOf zt 9 (.string U[k].1)=some (.string U[k].1.data.toList):=keyOf_string_mk zg (by unfold maxLen;omega);clear e1 e2 e3 hb hmi hok;by_cases h5:5<U[k].2.2
   ·have HR:=aA (HBAD.out h5);clear HBAD HODD HNEXT hkey hown;generalize U[k]=u at *;obtain ⟨s,ub,m⟩:=u;simp only at q1 q2 q3 h5;go_wp2;go_ret;exact ⟨_,rfl,HR.out,HB.out.alloc hbs _⟩
   ·have h5':U[k].2.2<=5:=by omega
    have hX:=(hown.alloc (.cells #[.string U[k].1,.bool U[k].2.1,.int .i64 U[k].2.2] 102)).look_ok (Maps.string_keyed zg) zc (Tryz.zeroValue102 _) (zd:=qC (⟨#[]⟩,false,0)) (zp:=[]) rfl hkey;obtain ⟨v,ps,hrun,hv⟩:=hX;cases hhas:Maps.has D (.string U[k].1.data.toList)
    ·rw [zO HM.out.isMap hhas] at hv;have hvv:=aGj hv;subst hvv;rw [hhas] at hrun;have HN:=aA (HNEXT.out h5' (λj hj hjk he=>by
      have:=(HM.out.old j hj hjk).1;rw [he,hhas] at this;simp at this))
     have HKEY:=aA hkey;clear HBAD HODD HNEXT hv hhas hkey;generalize hu:U[k]=u at *;obtain ⟨s,ub,m⟩:=u;simp only at q1 q2 q3 h5 h5' hsh hrun HN HKEY;clear hu;go_wp2_with (first
      | (at_mapUpdate;refine wpList_mapUpdate_own _ rfl _ _ _ 100 rfl 9 102 (Maps.string_keyed zg) zc wK w.heap.size k D rfl ((hown.alloc _).alloc _) (by unfold maxLen;omega) _ _ (.string s.data.toList) rfl rfl (aB HKEY) (qC (s,ub,m)) [] rfl ?_)
      | go_in)
     intro w1 hown1 hgrow1;have HO1:=aA hown1;have HB1:=aA (((HB.out.alloc hbs (.cells #[.string s,.bool ub,.int .i64 m] 102)).alloc (by simp;omega) _).grown hgrow1 (by simp;omega) (λx hx=>by simp at hx;omega));clear hown1 hgrow1 hown hrun;go_wp2;go_roundw;case rel=>exact ⟨k+1,_,by omega,by go_num,HO1.out,HN.out.2,HN.out.1,HB1.out⟩
     case measure=>simp [intOf];omega
    ·obtain ⟨j,hj,hjk,hje⟩ : ∃j,∃hj:j<U.length,j<k/\U[j].1=U[k].1:=Classical.byContradiction λhno=>by
      have:=HM.out.new U[k].1 (λj hj hjk he=>hno ⟨j,hj,hjk,he⟩);rw [hhas] at this;simp at this
     have hat:=(HM.out.old j hj hjk).2 (qC (⟨#[]⟩,false,0));rw [hje] at hat;rw [hat] at hv;have hvv:=aGj hv;subst hvv;rw [hhas] at hrun;have qE:=λwx=>aQm U[j] U[k] wx
     have HKEY:=aA hkey;by_cases hsame:U[j]=U[k]
     ·have hB:uQ U[j] U[k]=true:=by simp [uQ,hsame]
      have HN:=aA (HNEXT.out h5' (λi hi hik he=>by
       by_cases hij:i=j
       ·subst hij;exact hsame
       ·have hi2:U[i].1=U[j].1:=he.trans hje.symm;have:U[i]=U[j]:=by
         rcases Nat.lt_or_ge i j with hlt' | hge
         ·exact Prod.ext hi2 ((HK.out j hj hjk).2 i hlt' hi2)
         ·exact (Prod.ext hi2.symm ((HK.out i hi hik).2 j (by omega) hi2.symm)).symm
        rw [this,hsame]))
      rw [hsame] at hrun qE hB;clear HBAD HODD HNEXT hv hhas hkey hat hsame hje;generalize hu:U[k]=u at *;obtain ⟨s,ub,m⟩:=u;simp only at q1 q2 q3 h5 h5' hsh hrun HN HKEY qE;clear hu;go_wp2_with (first
       | (at_mapUpdate;refine wpList_mapUpdate_own _ rfl _ _ _ 100 rfl 9 102 (Maps.string_keyed zg) zc wK w.heap.size k D rfl ((hown.alloc _).alloc _) (by unfold maxLen;omega) _ _ (.string s.data.toList) rfl rfl (aB HKEY) (qC (s,ub,m)) [] rfl ?_)
       | go_in)
      intro w1 hown1 hgrow1;have HO1:=aA hown1;have HB1:=aA (((HB.out.alloc hbs (.cells #[.string s,.bool ub,.int .i64 m] 102)).alloc (by simp;omega) _).grown hgrow1 (by simp;omega) (λx hx=>by simp at hx;omega));clear hown1 hgrow1 hown hrun;go_wp2;go_roundw;case rel=>exact ⟨k+1,_,by omega,by go_num,HO1.out,HN.out.2,HN.out.1,HB1.out⟩
      case measure=>simp [intOf];omega
     ·have hB:uQ U[j] U[k]=false:=by simp [uQ,hsame]
      have HR:=aA (HODD.out j hj hjk hje hsame);clear HBAD HODD HNEXT hv hhas hkey hat hje hsame HKEY;generalize U[j]=y at *;generalize hu:U[k]=u at *;obtain ⟨s,ub,m⟩:=u;obtain ⟨s',ub',m'⟩:=y;simp only at q1 q2 q3 h5 h5' hsh hrun qE;clear hu;go_wp2;go_ret;exact ⟨_,rfl,HR.out,(HB.out.alloc hbs _).alloc (by simp;omega) _⟩
  ·have hk':k=U.length:=by omega
   subst hk';have HR:=aA (aQi HK.out);clear hmi hok hown hb;go_wp2;go_ret;exact ⟨_,rfl,z5 ⟨rfl,HR.out⟩,HB.out⟩
end
section
open Go.RowKit Go.WideMaps
def RdQ(s:ByteArray)(w:World)(e:Ending)(w':World):Prop:=
 ∃v QV at' er,e=.returned (.tuple #[v,.int .i64 at',.int .i64 er])/\tF s (QV.map λp=>p.1.map zx) at' er/\jZ w.heap.size w' v QV/\Below w.heap.size w w'
theorem jZ.mono{B B':Nat}{w:World}{v:Value}{QV:List (List (Lt×Value)×Value)}(h:jZ B w v QV)(hB:B'<=B):jZ B' w v QV:=
 ⟨⟨dI h.mem.1 hB,λp hp=>⟨⟨dI (h.mem.2 p hp).1.1 hB,λq hq=>dI ((h.mem.2 p hp).1.2 q hq) hB⟩,(h.mem.2 p hp).2⟩⟩,h.once,h.atoms⟩
theorem aBc(P:List Pl)(k:Nat):rU (P.map lT) k↔∀j hj,j<k->¬nH P j hj:=by
 constructor
 ·intro h j hj hjk hb;obtain ⟨h1,h2⟩:=h j (by simpa using hj) hjk;simp only [zh,lT] at h1 h2;rcases hb with hb | ⟨i,hi,hb1,hb2⟩
  ·omega
  ·have:=h2 i hi hb1;simp at this;rcases hb2 with h | h
   ·exact h this.1
   ·exact h this.2
 ·intro h i hi hik;have hi':i<P.length:=by simpa using hi
  have hb:=h i hi' hik;simp only [nH,not_or,not_exists] at hb;refine ⟨by simp [lT];omega,λk hk he=>?_⟩;have hc:=hb.2 k hk;simp only [zh,lT] at he ⊢;simp only [wS,not_and,not_or,Decidable.not_not] at hc;have:=hc he;rw [this.1,this.2]
theorem aOh{P:List Pl}{r:Int}(h:rQ (P.map lT) r):(r=-1/\wT P (-1))\/∃k,∃hk:k<P.length,r=k/\wT P P[k].2.2.2:=by
 rcases h with ⟨rfl,hu⟩ | ⟨k,hk,rfl,h1,h2⟩
 ·refine z5 ⟨rfl,z5 ⟨rfl,λi hi=>?_⟩⟩;exact (aBc P P.length).1 (λi hi _=>hu i hi) i hi hi
 ·have hk':k<P.length:=by simpa using hk
  rw [aBc P k] at h1;rw [aBc P (k+1)] at h2;refine z1 ⟨k,hk',rfl,z1 ⟨k,hk',?_,h1,rfl⟩⟩;refine Classical.byContradiction λhn=>h2 λj hj hjk=>?_
  by_cases hj':j=k
  ·subst hj';exact hn
  ·exact h1 j hj (by omega)
theorem aOi(P:List Pl)(k:Nat)(h:k<P.length):(lW P)[k]?=some (.int .i64 P[k].2.2.2):=by unfold lW;rw [List.getElem?_map,za h];rfl
theorem aOj(CV:List Pc):fF CV=(CV.map iS).flatMap λp=>oX p.2:=by
 unfold fF;induction CV with
 | nil=>rfl
 | cons x r ih=>rw [zq,ih,List.map_cons,zq];rfl
theorem aOk{s:ByteArray}(hs:s.size<=3000){st:bB}{cs:List (Nat×List Lt)}(h:kB (dV s 0) ((dV s 0).length+1) ⟨0,[],[]⟩ []=.ok (st,cs))(h0:0<(dV s 0).length)(hl:(dV s 0).length<=3002){CV:List Pc}(hcv:CV.map iS=cs) :
  fF CV=st.places.map lT/\(∀p∈CV,aBa p)/\(∀p∈CV,∀q∈p.1.2,uO q.1.2)/\CV.length<=3002/\st.places.length<=3002/\(∀p∈st.places,0<=p.2.2.2)/\∀u∈fF CV,u.1.size<=1000000:=by
 obtain ⟨Q,C,r1,r2,r3,r4,r5,r6,r7,r8⟩:=aO9 (aI1 s (by omega)) (aC5 s (by omega)) (aOf s 0) _ _ _ _ _ h h0;simp only [zf] at r1 r2;simp only [List.length_nil,Nat.zero_add,Nat.add_zero] at r6 r7;change st.i<(dV s 0).length at r5;have hc:∀p∈CV,aFi (dV s 0) (p.1.2.map zx):=λp hp=>r4 (iS p) (by rw [<-r2,<-hcv];exact zm.2 ⟨p,hp,rfl⟩)
 have hlen:CV.length=C.length:=by rw [<-r2,<-hcv];simp
 have hu:fF CV=st.places.map lT:=by rw [aOj,hcv,r2,r1,r3]
 refine ⟨hu,λp hp=>⟨λq hq=>(hc p hp).short q.1 (zm.2 ⟨q,hq,rfl⟩),by have:=(hc p hp).count;omega,by have:=(hc p hp).len;simp at this;omega⟩,λp hp q hq n hn hv=>?_,by omega,by omega,by rw [r1];exact r8,?_⟩
 ·have:=(hc p hp).vars q.1 (zm.2 ⟨q,hq,rfl⟩) n hn hv;omega
 ·intro u hu';unfold fF at hu';obtain ⟨p,hp,hup⟩:=zi.1 hu';rw [yM] at hup;obtain ⟨x,hx,hux⟩:=zi.1 hup;have hsx:=(hc p hp).short x hx;have key:∀(l:List Nd) k,(∀n∈l,n.1.size<=1000000)->∀u∈jA k l,u.1.size<=1000000:=by
   intro l;induction l with
   | nil=>intro k _ u hu;simp [jA] at hu
   | cons n r ih=>
    intro k hl u hu;rw [jA] at hu;rcases zv.1 hu with hu | hu
    ·unfold lR at hu;split at hu
     ·simp at hu
     ·simp at hu;subst hu;exact hl n (List.mem_cons_self ..)
    ·exact ih _ (λy hy=>hl y (List.mem_cons_of_mem _ hy)) u hu
  exact key x.2 0 hsx u hux
theorem aFk(s:ByteArray)(w:World)(hs0:s.size<=140737488355328):Calls zt 21 #[.string s] w λe w'=>RdQ s w e w':=by
 by_cases h3:3000<s.size
 ·have hi:(3000:Int)<(s.size:Int):=by omega
  go_enter z7,z4;go_wp2;go_returns;exact ⟨_,[],0,1,rfl,z5 ⟨h3,rfl,rfl,rfl⟩,jZ.nil _ _,Below.refl _ _⟩
 ·have hi:¬(3000:Int)<(s.size:Int):=by omega
  have hs:s.size<=3000:=by omega
  have hl:(dV s 0).length<=3002:=by have:=aI0 s (s.size+1) 0;show (eQ (cQ s (s.size+1) 0)).length<=3002;unfold eQ;split <;> simp <;> omega
  have CN:=aA (aMs s w hs);have hx:=(aC5 s (by omega)).small;have ht:=aI1 s (by omega);have hxx:=aC5 s (by omega);have CT:=aA (λw1 pb g (h:rL w.heap.size w1 pb s (dV s 0) ⟨0,[],[]⟩ g (.slice none 0 0) (.slice none 0 0) []) (hB:w.heap.size<=w1.heap.size)=>aMp (λi=>aNe s 0 i) hx hs (by omega) (λst st' c hq hlt=>by have:=aI5 ht hxx hq hlt;omega) h hB (zj _) (zj _));have HALL:Hid (wV s=kB (dV s 0) ((dV s 0).length+1) ⟨0,[],[]⟩ []):=aA rfl;clear hx ht hxx;cases hq:kB (dV s 0) ((dV s 0).length+1) ⟨0,[],[]⟩ [] with
  | error p=>
   rw [List.map_nil,hq] at CT;rw [hq] at HALL;clear hq;go_enter z7,z4;go_wp2_with (first
    | (go_at_call 31;refine (CT.out _ _ _ HT1.out HB1.out.size).mono ?_;rintro e w2 ⟨hb2,i2,vC2,vP2,vM2,rfl,hp2,hpos⟩;obtain ⟨left2,hbx2,_⟩:=hp2.box;have d2:=hbx2.c2;rw [hpos] at d2;have HB2:=aA (HB1.out.trans hb2);clear hb2 hp2 hpos hbx2)
    | (go_at_call 30;refine (aB CN).mono ?_;rintro e w1 ⟨pb,g,rfl,hb1,ht1⟩;have HB1:=aA hb1;have HT1:=aA ht1;clear hb1 ht1)
    | go_in)
   go_quiet (fail);go_wp2;go_returns;refine ⟨_,[],p,2,rfl,z1 ⟨hs,?_⟩,jZ.nil _ _,HB2.out.trans ((aJ ⟨_,rfl⟩).mono HB2.out.size)⟩;rw [HALL.out];exact ⟨rfl,rfl,rfl⟩
  | ok y=>
   obtain ⟨st,cs⟩:=y;rw [List.map_nil,hq] at CT;rw [hq] at HALL;have HK:=aA (λ(h0:0<(dV s 0).length) (CV:List Pc) (hcv:CV.map iS=cs)=>aOk hs hq h0 hl hcv);clear hq;go_enter z7,z4;go_upto_region 6 with (first
    | (go_at_call 31;refine (CT.out _ _ _ HT1.out HB1.out.size).mono ?_;rintro e w2 ⟨hb2,vC2,vP2,CV,rfl,ht2,hcv⟩;have HB2:=aA (HB1.out.trans hb2);have HT2:=aA ht2;have HCV:=aA hcv;clear hb2 ht2 hcv)
    | (go_at_call 30;refine (aB CN).mono ?_;rintro e w1 ⟨pb,g,rfl,hb1,ht1⟩;have HB1:=aA hb1;have HT1:=aA ht1;clear hb1 ht1)
    | go_in)
   clear CN CT;obtain ⟨vM2,hpp⟩:=HT2.out.pp;obtain ⟨left2,hbx,hBp⟩:=hpp.box;have d4:=hbx.c4;have d5:=hbx.c5;obtain ⟨k1,k2,k3,k4,k5,k6,k7⟩:=HK.out (Nat.lt_of_le_of_lt (zj _) hpp.lt) CV HCV.out;have CU:=aA (aNw HT2.out.cs d4 k2 (by omega) (by rw [k1];simp;omega));have CS:=aA (λwx (hx:Below w2.heap.size w2 wx)=>aO0 (HT2.out.cs.below hx) k2 k3 (by omega));obtain ⟨va,vac,hva⟩:=aS HT2.out.cs.row;obtain ⟨pa,pac,hpa⟩:=aS HT2.out.places;have HPL:=aA HT2.out.places;subst hva;subst hpa;have HUN:Hid (fF CV=st.places.map lT):=aA k1;have HPS:=aA k6;have hUf:(fF CV).length<=1000000:=by rw [k1];simp;omega
   have hUs:∀k (h:k<(fF CV).length),(fF CV)[k].1.size<=140737488355328:=λk h=>Nat.le_trans (k7 _ (zo _)) (by omega)
   have HUS:=aA hUs;have hz2:=HB2.out.size;clear k1 k2 k3 k6 k7 hUs HK hbx hpp HT1 HB1;go_upto_region 7 with (first
    | (go_at_call 32;refine (aOg ua uc (fF CV) w3 HUI.out).mono ?_;rintro e w4 ⟨r,rfl,hr,hb4⟩;have HR:=aA hr;have HB4:=aA (HB3.out.trans (hb4.mono HB3.out.size));clear hr hb4)
    | (go_at_call 33;refine (aB CU).mono ?_;rintro e w3 ⟨v3,rfl,ho3,hb3⟩;obtain ⟨ua,uc,rfl,hui⟩:=aQb ho3 hUf HUS.out;have HUI:=aA hui;have HB3:=aA hb3;clear ho3 hb3 hui)
    | go_in)
   have hz4:=HB4.out.size;have g4:=Below.at' HB4.out (zz _) d4;have g5:=Below.at' HB4.out (zz _) d5;have hr:=HR.out;rw [HUN.out] at hr;clear HR CU d4 d5;rcases aOh hr with ⟨rfl,hnm⟩ | ⟨k,hk,rfl,hnm⟩
   ·have HNM:=aA hnm;clear hr hnm;go_wp2_with (first
     | (go_at_call 34;refine (CS.out _ HB4.out).mono ?_;rintro e w5 ⟨v5,QV,at5,er5,rfl,hm5,ho5,hb5⟩;have HM5:=aA hm5;have HO5:=aA ho5;have HB5:=aA hb5;clear hm5 ho5 hb5)
     | go_in)
    go_returns;refine ⟨_,QV,at5,er5,rfl,z1 ⟨hs,?_⟩,HO5.out.mono (by omega),HB2.out.trans ((HB4.out.mono hz2).trans (HB5.out.mono (by omega)))⟩;rw [HALL.out];refine ⟨-1,HNM.out,z1 ⟨by omega,?_⟩⟩;rw [<-HCV.out];exact HM5.out
   ·have HNM:=aA hnm;have h0:=HPS.out _ (zo hk);obtain ⟨gp,gc,hgp⟩:=rZ HPL.out (by omega);simp at hgp;obtain ⟨rfl,rfl⟩:=hgp;have c5:w2.cell? ⟨gp,k,none⟩=some (.int .i64 st.places[k].2.2.2):=by rw [HPL.out.cellAt _ (by omega),aOi _ k hk]
    have q5:=Below.at' HB4.out (zz _) c5;clear hr hnm CS c5;generalize st.places[k].2.2.2=pk at *;go_wp2;go_quiet (fail);go_wp2;go_returns;refine ⟨_,[],pk,3,rfl,z1 ⟨hs,?_⟩,jZ.nil _ _,(HB2.out.trans (HB4.out.mono hz2)).trans ((aJ ⟨_,rfl⟩).mono (by omega))⟩;rw [HALL.out];exact ⟨pk,HNM.out,z5 ⟨h0,rfl,rfl,rfl⟩⟩
theorem aOl(s:ByteArray)(w:World)(hs0:s.size<=140737488355328):Calls zt 9 #[.string s] w λe w'=>RdQ s w e w':=by
 have CS:=aA (aFk s w hs0);go_enter Tryz.func9,Tryz.ntmps9;go_wp2_with (first
  | (go_at_call 21;refine (aB CS).mono ?_;rintro e w1 ⟨v,QV,at1,er1,rfl,h1,h2,h3⟩;have H1:=aA h1;have H2:=aA h2;have H3:=aA h3;clear h1 h2 h3)
  | go_in)
 go_returns;exact ⟨_,QV,at1,er1,rfl,H1.out,H2.out,H3.out⟩
end
end Go.Proofs.YtcldkjcpofjmhaaGreatDoor
