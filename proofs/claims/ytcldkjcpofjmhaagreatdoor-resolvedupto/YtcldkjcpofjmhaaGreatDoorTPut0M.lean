import Derived.Test.YtcldkjcpofjmhaaGreatDoorUPut1M
import Derived.Test.YtcldkjcpofjmhaaGreatDoorUWr0M
open Array renaming getElem?_eq_some_iff→zy
open List renaming take_append_of_le_length→zw,eq_nil_of_length_eq_zero→zv,set_cons_succ→zt,getElem_mem→zp,length_append→zn,take_of_length_le→zk,map_append→zj,mem_or_eq_of_mem_set→zh,getElem?_eq_some_iff→zg,getElem?_map→zf,mem_append→zc,map_nil→z2,map_toArray→z3
open Nat renaming le_refl→zz,le_trans→zu,lt_of_lt_of_le→zi,zero_le→z4
open Or renaming inl→zr,inr→zo
open Prod renaming fst→zq
namespace Go.Proofs.YtcldkjcpofjmhaaGreatDoor
open _root_.Go.Proofs.Tryz renaming prog→zs,underlying61→ze,underlying37→za
open Value renaming ownBlock→zm,int→zd,slice→z5
open World renaming block_lt_of_cell?→zx,ownsRow_nil→zl
set_option maxHeartbeats 4000000
set_option maxRecDepth 100000
open Go.RowKit Go.Shelf Go.WideMaps
theorem aSs:(zs.info? 94).map (λi=>(i.zero,i.size,i.bytes))=some (some (.agg #[.string ⟨#[]⟩,.int .i64 0,.slice none 0 0,.int .i64 0]),4,56):=by kernel_rfl
theorem aSt(P:Tb)(x:Rw×Value):eT (P++[x])=eT P++[.string x.1.node.1,.int .i64 x.1.node.2,x.2,.int .i64 x.1.cls]:=by simp [eT]
structure eC(w w':World)(tp:Nat)(v:Value):Prop where
 os:w'.os=w.os
 tape:w'.tape=w.tape
 output:w'.output=w.output
 size:w.heap.size<=w'.heap.size
 block:∀k,k<w.heap.size->k≠tp->v.ownBlock≠some k->w'.heap[k]?=w.heap[k]?
theorem eC.refl(w:World)(tp:Nat)(v:Value):eC w w tp v:=⟨rfl,rfl,rfl,zz _,λ_ _ _ _=>rfl⟩
theorem eC.trans{w w1 w2:World}{tp:Nat}{v v1:Value}(h:eC w w1 tp v)(hm:aX w v v1)(k:eC w1 w2 tp v1):eC w w2 tp v:=
 ⟨k.os.trans h.os,k.tape.trans h.tape,k.output.trans h.output,zu h.size k.size,λi h1 h2 h3=>by
  rw [k.block i (zi h1 h.size) h2 (λe=>by
   rcases hm with hm | ⟨g,hm,hg⟩
   ·exact h3 (hm.symm.trans e)
   ·rw [hm] at e;simp at e;omega),h.block i h1 h2 h3]⟩
theorem eC.grown{w w':World}{tp:Nat}{v:Value}(hg:w.grownBy w' v.ownBlock):eC w w' tp v:=⟨hg.os,hg.tape,hg.output,hg.size,λk h1 _ h3=>hg.block k h1 (λe=>h3 e.symm)⟩
theorem eC.below{w w':World}{tp:Nat}{v:Value}(hg:Below w.heap.size w w'):eC w w' tp v:=⟨hg.os,hg.tape,hg.output,hg.size,λk h1 _ _=>hg.block k h1⟩
theorem eC.set{w w':World}{tp:Nat}{v:Value}(h:eC w w' tp v)(j:Nat)(x:Value):eC w (w'.setCell ⟨tp,j,none⟩ x) tp v:=by have hg:=bQ w' ⟨tp,j,none⟩ x;exact ⟨hg.os.trans h.os,hg.tape.trans h.tape,hg.output.trans h.output,zu h.size hg.size,λk h1 h2 h3=>by rw [hg.block k (zi h1 h.size) (by simpa using h2),h.block k h1 h2 h3]⟩
theorem eC.own{w w':World}{tp B:Nat}{v x:Value}{e:TypeId}{size n:Nat}{xs:List Value}(h:eC w w' tp v)(ho:w.ownsRow B e size x n xs)(h1:x.ownBlock≠some tp)(h2:x.ownBlock=none\/x.ownBlock≠v.ownBlock):w'.ownsRow B e size x n xs:=by
 obtain ⟨k1,⟨rfl,k2⟩ | ⟨g,cap,cur,rfl,hb,hh,hr⟩⟩:=ho
 ·exact ⟨k1,zr ⟨rfl,k2⟩⟩
 ·refine ⟨k1,zo ⟨g,cap,cur,rfl,hb,?_,hr⟩⟩;rw [h.block g (zy.1 hh).1 ?_ ?_,hh]
  ·rintro rfl;exact h1 rfl
  ·intro e;rcases h2 with h2 | h2
   ·simp [zm] at h2
   ·exact h2 (by rw [e];rfl)
theorem eC.low{w w':World}{tp B:Nat}{v:Value}(h:eC w w' tp v)(ht:B<=tp)(hv:∀k,v.ownBlock=some k->B<=k)(hB:B<=w.heap.size):Below B w w':=
 ⟨h.os,h.tape,h.output,h.size,λk hk=>h.block k (by omega) (by omega) (λe=>by have:=hv k e;omega)⟩
theorem bT.grow{w w1:World}{B tp:Nat}{v v1:Value}{P:Tb}(h:bT w B tp v P){n:Nd}{c:Nat}(hg:w.grownBy w1 v.ownBlock)(ho:w1.ownsRow B 94 4 v1 (P.length+1) (eT P++[.string n.1,.int .i64 n.2,.slice none 0 0,.int .i64 c])) :
  bT (w1.setCell ⟨tp,0,none⟩ v1) B tp v1 (P++[(⟨n,c,[]⟩,.slice none 0 0)])/\eC w (w1.setCell ⟨tp,0,none⟩ v1) tp v:=by
 have hb1:w1.heap[tp]?=some (.cells #[v] 63):=by rw [hg.block tp (zy.1 h.box).1 (λe=>h.ne e.symm),h.box]
 have hbx:(w1.setCell ⟨tp,0,none⟩ v1).heap[tp]?=some (.cells #[v1] 63):=by unfold World.setCell;simp [Array.getElem?_modify,hb1]
 refine ⟨⟨hbx,h.high,?_,?_⟩,(eC.grown hg).set 0 v1⟩
 ·rw [zn,aSt];exact dW ho hb1 (by decide)
 ·intro p hp;rcases zc.1 hp with hp | hp
  ·exact dW (cG (h.parts p hp) hg (bV (h.parts p hp) h.row (by decide))) hb1 (by decide)
  ·simp at hp;subst hp;exact zl _ _ _ _
theorem aSu(P:Tb):∀(k:Nat) (h:k<P.length) (ps:List Nat) (pv:Value),(eT P).set (k*4+2) pv=eT (P.set k ({P[k].1 with parts:=ps},pv)):=by
 induction P with
 | nil=>intro k h;simp at h
 | cons x r ih=>
  intro k h ps pv;cases k with
  | zero=>rfl
  | succ k=>
   have:=ih k (by simpa using h) ps pv;rw [show (k+1)*4+2=k*4+2+1+1+1+1 by omega,zt,uJ,uJ,zt,zt,zt,zt,this];rfl
theorem bT.setParts{w:World}{B tp g cap:Nat}{P:Tb}(h:bT w B tp (.slice (some ⟨g,0,none⟩) P.length cap) P)(k:Nat)(hk:k<P.length)(ps:List Nat)(pv:Value)(ho:w.ownsRow B 3 1 pv ps.length (iJ ps)) :
  bT (w.setCell ⟨g,k*4+2,none⟩ pv) B tp (.slice (some ⟨g,0,none⟩) P.length cap) (P.set k ({P[k].1 with parts:=ps},pv)):=by
 have hne:=h.ne;simp [zm] at hne;have key:∀{x:Value} {n:Nat} {xs:List Value},w.ownsRow B 3 1 x n xs->(w.setCell ⟨g,k*4+2,none⟩ pv).ownsRow B 3 1 x n xs:=λhx=>
  pX hx (by
   rcases bV hx h.row (by decide) with e | e
   ·rw [e];simp
   ·exact λe'=>e (by rw [<-e'];rfl)) _
 refine ⟨?_,h.high,?_,?_⟩
 ·rw [heap_setCell_other _ _ _ _ (by simpa using λe=>hne e.symm),h.box]
 ·have r:=(h.row.stored (k*4+2) pv).1;rw [aSu P k hk ps pv] at r;simpa using r
 ·intro p hp;rcases zh hp with hp | rfl
  ·exact key (h.parts p hp)
  ·exact key ho
theorem aSv(P:Tb)(k:Nat)(h:k<P.length)(ps:List Nat)(pv:Value):(P.set k ({P[k].1 with parts:=ps},pv)).map zq=Go.Proofs.YtcldkjcpofjmhaaGreatDoor.rS (P.map zq) k ps:=by
 apply List.ext_getElem?;intro i;rw [tB,zf,zf,List.getElem?_set];by_cases e:i=k
 ·subst e;simp [h]
 ·rw [if_neg (λx=>e x.symm),if_neg e]
structure nB(w:World)(B tp:Nat)(v:Value)(P:Tb)(up:Int)(s:List Nd)(k:Nat)(s':List Nd)(w':World)(v':Value)(P':Tb):Prop where
 tab:bT w' B tp v' P'
 put:eG up (P.map zq) 1 s (P'.map zq) [k] s'
 far:eC w w' tp v
 moved:aX w v v'
 old:∀p∈P',(∃q∈P,p.2=q.2)\/p.2.ownBlock=none\/∃g,p.2.ownBlock=some g/\w.heap.size<=g
 len:P'.length+s'.length<=P.length+s.length
structure sA(w:World)(B tp:Nat)(v:Value)(P0:Tb)(up:Int)(s:List Nd)(j:Nat)(s':List Nd)(pv:Value)(ps:List Nat)(w':World)(v':Value)(P':Tb):Prop where
 tab:bT w' B tp v' P'
 put:eG up (P0.map zq) j s (P'.map zq) ps s'
 far:eC w w' tp v
 moved:aX w v v'
 old:∀p∈P',(∃q∈P0,p.2=q.2)\/p.2.ownBlock=none\/∃g,p.2.ownBlock=some g/\w.heap.size<=g
 len:P'.length+s'.length<=P0.length+s.length
 own:w'.ownsRow w.heap.size 3 1 pv ps.length (iJ ps)
 apart:∀p∈P',p.2.ownBlock=none\/p.2.ownBlock≠pv.ownBlock
section
variable {w w':World}{B tp:Nat}{v v' pv:Value}{P0 P':Tb}{up:Int}{s s':List Nd}{j:Nat}{ps:List Nat}
theorem sA.start(h:bT w B tp v P0):sA w B tp v P0 up s 0 s (.slice none 0 0) [] w v P0:=
 ⟨h,eG.nil _ _,eC.refl _ _ _,aX.refl _ _,λp hp=>zr ⟨p,hp,rfl⟩,zz _,zl _ _ _ _,λp _=>by
  cases hb:p.2.ownBlock with
  | none=>exact zr rfl
  | some g=>exact zo (by simp [zm])⟩
theorem bT.grown(h:bT w B tp v P0){wx:World}{o:Option Nat}(hg:w.grownBy wx o)(h0:o≠some tp)(h1:v.ownBlock=none\/v.ownBlock≠o)(h2:∀p∈P0,p.2.ownBlock=none\/p.2.ownBlock≠o):bT wx B tp v P0:=
 ⟨by rw [hg.block tp (zy.1 h.box).1 (λe=>h0 e.symm),h.box],h.high,cG h.row hg h1,λp hp=>cG (h.parts p hp) hg (h2 p hp)⟩
theorem eG.len(h:eG up (P0.map zq) j s (P'.map zq) ps s'):P0.length<=P'.length:=by obtain ⟨g,hg⟩:=h.inv;have:=hg.more;simpa using this
theorem sA.next(h:sA w B tp v P0 up s j s' pv ps w' v' P'){k:Nat}{s2:List Nd}{w5 w6:World}{v5 pv6:Value}{P5:Tb}{X:Obj}(hr:nB w' B tp v' P' up s' k s2 w5 v5 P5) :
  w5.ownsRow w.heap.size 3 1 pv ps.length (iJ ps)/\((w5.alloc X).grownBy w6 pv.ownBlock->w6.ownsRow w.heap.size 3 1 pv6 (ps.length+1) (iJ ps++[.int .i64 k])->aX (w5.alloc X) pv pv6->sA w B tp v P0 up s (j+1) s2 pv6 (ps++[k]) w6 v5 P5):=by
 have hpt:pv.ownBlock≠some tp:=cD h.own h.tab.box (by decide);have hpv:pv.ownBlock=none\/pv.ownBlock≠v'.ownBlock:=bV h.own h.tab.row (by decide);have ho5:=hr.far.own h.own hpt hpv;refine ⟨ho5,λhg ho hm=>?_⟩;have hbA:Below w5.heap.size w5 (w5.alloc X):=(Below.refl _ _).alloc (zz _) X;have hsA:(w5.alloc X).heap.size=w5.heap.size+1:=by simp
 have hw5:=hr.far.size;have hwn:=h.far.size;have hap:∀p∈P5,p.2.ownBlock=none\/p.2.ownBlock≠pv.ownBlock:=by
  intro p hp;rcases hr.old p hp with ⟨q,hq,e⟩ | e | ⟨g,e,hgg⟩
  ·rw [e];exact h.apart q hq
  ·exact zr e
  ·right;intro e';rw [e] at e';have:=(aT h.own g e'.symm).2;omega
 have ht6:bT w6 B tp v5 P5:=(hr.tab.below hbA).grown hg (cD ho5 hr.tab.box (by decide)) (bV hr.tab.row ho5 (by decide)) hap;have hfar:eC w w6 tp v:=by have h1:=h.far.trans h.moved hr.far;refine ⟨hg.os.trans h1.os,hg.tape.trans h1.tape,hg.output.trans h1.output,by have:=hg.size;have:=h1.size;omega,λi i1 i2 i3=>?_⟩;rw [hg.block i (by omega) (λe=>by have:=(aT h.own i e.symm).1;omega),heap_alloc_old _ _ (by omega),h1.block i i1 i2 i3]
 refine ⟨ht6,h.put.append hr.put,hfar,h.moved.trans hr.moved hwn,?_,by have:=h.len;have:=hr.len;omega,by rw [zn,show iJ (ps++[k])=iJ ps++[zd .i64 k] from zj ..];exact ho,?_⟩
 ·intro p hp;rcases hr.old p hp with ⟨q,hq,e⟩ | e | ⟨g,e,hgg⟩
  ·rw [e];exact h.old q hq
  ·exact zo (zr e)
  ·exact zo (zo ⟨g,e,by omega⟩)
 ·intro p hp;rcases hm with e | ⟨g,e,hgg⟩
  ·rw [e];exact hap p hp
  ·rw [e];cases hb:p.2.ownBlock with
   | none=>exact zr rfl
   | some g'=>
    right;intro e';simp at e';have:=(aT (hr.tab.parts p hp) g' hb).2;omega
end
theorem eC.setV{w wr:World}{tp g j:Nat}{v v' x:Value}(h:eC w wr tp v)(hm:aX w v v')(hg:v'.ownBlock=some g):eC w (wr.setCell ⟨g,j,none⟩ x) tp v:=by
 have hs:=bQ wr ⟨g,j,none⟩ x;refine ⟨hs.os.trans h.os,hs.tape.trans h.tape,hs.output.trans h.output,zu h.size hs.size,λk h1 h2 h3=>?_⟩;rw [hs.block k (zi h1 h.size) (λe=>?_),h.block k h1 h2 h3];simp at e;subst e;rcases hm with e | ⟨g',e,hgg⟩
 ·exact h3 (by rw [<-e,hg])
 ·rw [hg] at e;simp at e;omega
theorem cM.lowB{w w':World}{a:Option Addr}{l:List Nd}{B:Nat}(h:cM w a l)(hlow:∀p,a=some p->p.block<B)(hb:Below B w w'):cM w' a l:=
 ⟨h.few,h.short,λk hk=>by
  obtain ⟨b,o,rfl,h1,h2⟩:=h.cell k hk;have hl:=hlow _ rfl;exact ⟨b,o,rfl,(hb.cell (p:=⟨b,o+k*2,none⟩) hl).trans h1,(hb.cell (p:=⟨b,o+k*2+1,none⟩) hl).trans h2⟩⟩
def nC(Q:Tb)(i:Nat):Nat:=if h:i<Q.length then Q[i].1.cls else Q.length+i
theorem aCb{Q:Tb}(hok:gP Q)(i j:Nat):nC Q i=nC Q j↔aZ Q i j:=by
 unfold nC;by_cases hi:i<Q.length <;> by_cases hj:j<Q.length
 ·rw [dif_pos hi,dif_pos hj];exact (aZ.iff hi hj).symm
 ·rw [dif_pos hi,dif_neg hj];constructor
  ·intro e;have:=hok.cls i hi;omega
  ·rintro (e | ⟨_,h,_⟩)
   ·omega
   ·exact absurd h hj
 ·rw [dif_neg hi,dif_pos hj];constructor
  ·intro e;have:=hok.cls j hj;omega
  ·rintro (e | ⟨h,_,_⟩)
   ·omega
   ·exact absurd h hi
 ·rw [dif_neg hi,dif_neg hj];constructor
  ·intro e;exact zr (by omega)
  ·rintro (e | ⟨h,_,_⟩)
   ·omega
   ·exact absurd h hi
theorem aSw(x e:List Nd):(x.take 501++e).take 501=(x++e).take 501:=by
 by_cases h:x.length<=501
 ·rw [zk h]
 ·have h1:(x.take 501).length=501:=by simp;omega
  rw [zw (by omega),zw (by omega),List.take_take];simp
theorem aI7(x:List Nd)(h:x.length<=501):x.take 501=x:=zk h
theorem aSx{Q:Tb}{row:Nat}{m:List Nd}(hr:row<Q.length)(he:aQ (aV Q) (aZ Q) (nC Q) [row] m)(hno:∀i (h:i<Q.length),¬(Q[i].1.cls=Q[row].1.cls/\aF Q[i].1.node=false)):m=[(⟨#[]⟩,(Q[row].1.cls:Int))]:=by
 cases he with
 | var h1 h2=>
  cases h2;unfold nC;rw [dif_pos hr]
 | name h1 h2 h3=>
  obtain ⟨hj,hv⟩:=oB h2;exact absurd ⟨((aZ.iff hr hj).1 h1).symm,hv⟩ (hno _ hj)
theorem aSy{Q:Tb}(hok:gP Q)(hD:gR (aV Q) (aZ Q))(hNC:eW (aV Q) (aZ Q)){row h:Nat}{m:List Nd}(hr:row<Q.length)(hh:h<Q.length)(hc:Q[h].1.cls=Q[row].1.cls)(hv:aF Q[h].1.node=false)(he:aQ (aV Q) (aZ Q) (nC Q) [row] m) :
  ∃l,m=Q[h].1.node :: l/\aQ (aV Q) (aZ Q) (nC Q) Q[h].1.parts l:=by
 have hn:(aV Q).named h:=by show aF ((aV Q).lab h)=false;rw [lP Q h hh];exact hv
 have hrh:aZ Q row h:=(aZ.iff hr hh).2 hc.symm;cases he with
 | var h1 h2=>exact absurd hn (h1 h hrh)
 | @name _ j _ l h1 h2 h3=>
  have hjh:aZ Q j h:=hD.trans _ _ _ (hD.symm _ _ h1) hrh;have ha:=wW hD hNC hok.arity hjh h2 hn;rw [List.append_nil] at h3;have h4:=h3.same hD (λi j hij=>(aCb hok i j).2 hij) _ ha;rw [oW Q h hh] at h4;have hl:=hNC j h hjh h2 hn;rw [lP Q h hh] at hl;exact ⟨l,by rw [hl],h4⟩
theorem aI8{w w1:World}{d B1:Nat}{v:Value}{n:Nat}{xs:List Value}{e:TypeId}{size:Nat}{X:Obj}(h:w.ownsRow B1 e size v n xs)(hB:B1<=w.heap.size)(hg:((w.drewN d).alloc X).grownBy w1 v.ownBlock):Below B1 w w1:=by have hb:Below B1 w ((w.drewN d).alloc X):=(((aJ ⟨d,rfl⟩).alloc (zz _) X:Below w.heap.size w ((w.drewN d).alloc X))).mono hB;refine hb.trans ⟨hg.os,hg.tape,hg.output,hg.size,λk hk=>hg.block k (by simp;omega) (λe=>?_)⟩;have:=(aT h k e.symm).1;omega
theorem aI9(w:World)(s x:Value)(t:TypeId)(n:Nat)(hn:n=w.heap.size):∀j u,[s,x][j]?=some u->(w.alloc (.cells #[s,x] t)).cell? ⟨n,j,none⟩=some u:=by
 subst hn;intro j u hj;match j,hj with
 | 0,hj=>simp at hj;subst hj;simp
 | 1,hj=>simp at hj;subst hj;simp
 | j+2,hj=>simp at hj
theorem aSz(B tp:Nat)(v:Value)(Q:Tb)(hok:gP Q)(hD:gR (aV Q) (aZ Q))(hNC:eW (aV Q) (aZ Q))(hf:Q.length<=1000000)(hps:∀p∈Q,p.1.parts.length<=1000000)(w0:World)(h0:bT w0 B tp v Q)(B1:Nat)(hB1:w0.heap.size<=B1) :
  ∀(n row:Nat) (m out:List Nd) (vo:Value) (w:World),m.length<n->aQ (aV Q) (aZ Q) (nC Q) [row] m->row<Q.length->Below B1 w0 w->B1<=w.heap.size->fG w B1 vo out->out.length<=501->
  Calls zs 45 #[.pointer (some ⟨tp,0,none⟩),vo,.int .i64 row] w λe w'=>∃vo',e=.returned vo'/\fG w' B1 vo' ((out++m).take 501)/\Below B1 w w':=by
 obtain ⟨iN,hN,hN0,hN1,hN2⟩:=info_parts mP;obtain ⟨va,vcap,rfl,hc0⟩:=h0.shape;intro n;induction n with
 | zero=>intro row m out vo w hm;omega
 | succ n ih=>
  intro row m out vo w hm he hr hb hBw ho hout;have htab:bT w B tp (.slice va Q.length vcap) Q:=h0.below (hb.mono hB1);obtain ⟨oa,oc,rfl⟩:=aS ho;have IH:=aA ih;clear ih;by_cases hbig:500<out.length
  ·have hbi:(500:Int)<(out.length:Int):=by omega
   have HO:=aA ho;clear htab hc0 ho;go_enter Tryz.func45,Tryz.ntmps45;go_wp2;go_ret;have e:(out++m).take 501=out:=by rw [zw (by omega),zk hout]
   exact ⟨_,rfl,by rw [e];exact HO.out,Below.refl _ _⟩
  ·have hbi:¬(500:Int)<(out.length:Int):=by omega
   have hcell:=htab.cell;obtain ⟨g,rfl,q1,q2,q3,q4⟩:=hc0 row hr;have e4:=Below.at' hb hB1 q4;clear q1 q2 q3 q4;have hri:(row:Int)<(Q.length:Int):=by omega
   have CH:=aA (aG2 B tp _ Q Q[row].1.cls w htab hf);have HE:=aA he;have HC0:=aA hc0;have HO:=aA ho;have HB:=aA hb;have HTAB:=aA htab;have HQR:=aA (show Q[row].1.cls=Q[row].1.cls from rfl);clear htab hc0 ho hb he;generalize hcls:Q[row].1.cls=cl at *;have HCL:=aA hcls;clear hcls HQR;go_enter Tryz.func45,Tryz.ntmps45;go_upto_region 5 with (first
    | (go_at_call 71;refine (aB CH).mono ?_;rintro e w1 ⟨r,rfl,hh,d,rfl⟩)
    | go_in)
   clear CH;rcases hh with ⟨rfl,hno⟩ | ⟨h,rfl,hhl,hhc,hhv⟩
   ·have HM:=aA (aSx hr HE.out (by rw [HCL.out];exact hno));rw [HCL.out] at HM;clear hno;have ho:=HO.out;go_wp2_with (first
     | (at_builtin;refine wpList_append_own _ rfl (.tmp 27) (.tmp 30) 37 rfl B1 36 iN (.agg #[.string ⟨#[]⟩,.int .i64 0]) 2 24 za hN hN0 hN1 hN2 rfl (by decide) _ _ _ rfl ((aEe ho d).alloc _) ⟨w.heap.size,0,none⟩ 1 1 [.string ⟨#[]⟩,.int .i64 cl] rfl rfl ?d1 ?d2 ?d3 ?d4 ?d5 ?_)
     | go_in)
    case d1=>first | exact gF _ _ _ _ _ (by first | rfl | simp) | exact aI9 (w.drewN d) _ _ 36 w.heap.size rfl
    case d2=>first | exact rK _ _ | exact ⟨rfl,rfl⟩
    case d3=>unfold maxLen;omega
    case d4=>omega
    case d5=>first | omega | (simp;omega)
    intro v' w1 ho' hg' _;clear ho;have HO':=aA ho';have HG':=aA hg';clear ho' hg';go_wp2;go_ret;refine ⟨_,rfl,?_,?_⟩
    ·have:=HO'.out;unfold fG;rw [HM.out,aI7 _ (by simp;omega),zn,rG];exact this
    ·exact aI8 HO.out hBw HG'.out
   ·obtain ⟨l,hml,hel⟩:=aSy hok hD hNC hr hhl (by rw [HCL.out];exact hhc) hhv HE.out;obtain ⟨ex,x1,x2,x3⟩:=aJo hD hNC hok.arity (λi j hij=>(aCb hok i j).2 hij) hel;obtain ⟨g',hg',q1,q2,q3,q4⟩:=HC0.out h hhl;simp at hg';subst hg';have f1:=Below.at' HB.out hB1 q1;have f2:=Below.at' HB.out hB1 q2;have f3:=Below.at' HB.out hB1 q3;clear q1 q2 q3 q4;have hhi:(h:Int)<(Q.length:Int):=by omega
    have hh0:¬(h:Int)<0:=by omega
    have HPT:=aA (h0.parts Q[h] (zp _));have hpl:=hps Q[h] (zp _);have HPP:=aA (hok.parts h hhl);clear hhc hhv hel;have HML:=aA hml;have HX1:=aA x1;have HX2:=aA x2;have HX3:=aA x3;clear hml x1 x2 x3;generalize Q[h].1.parts=pl at *;generalize hq2:Q[h].2=pv at *;generalize Q[h].1.node=nd at *;obtain ⟨s,x⟩:=nd;simp only at f1 f2;obtain ⟨pa,pc,rfl,hpc⟩:=sD HPT.out;have HPC:=aA hpc;have HPV:=aA hq2;clear hpc hq2;have ho:=HO.out;go_wp2_with (first
     | (at_builtin;refine wpList_append_own _ rfl (.tmp 32) (.tmp 41) 37 rfl B1 36 iN (.agg #[.string ⟨#[]⟩,.int .i64 0]) 2 24 za hN hN0 hN1 hN2 rfl (by decide) _ _ _ rfl ((aEe ho d).alloc _) ⟨w.heap.size,0,none⟩ 1 1 [.string s,.int .i64 x] rfl rfl ?d1 ?d2 ?d3 ?d4 ?d5 ?_)
     | go_in)
    case d1=>first | exact gF _ _ _ _ _ (by first | rfl | simp) | exact aI9 (w.drewN d) _ _ 36 w.heap.size rfl
    case d2=>first | exact rK _ _ | exact ⟨rfl,rfl⟩
    case d3=>unfold maxLen;omega
    case d4=>omega
    case d5=>first | omega | (simp;omega)
    intro v' w1 ho' hg' _;have hb1:Below B1 w w1:=aI8 ho hBw hg';clear ho f1 f2 f3 e4 hcell;have HO':=aA ho';have HB1':=aA hb1;clear ho' hg' hb1;go_wp2;go_loopw [1,9] (λlv i wr=>∃k:Nat,k<=pl.length/\i=.int .i64 k/\fG wr B1 lv ((out++[(s,x)]++((pl.take k).map ex).flatten).take 501)/\Below B1 w wr) (λ_ i _=>pl.length-(intOf i).toNat);case atStart=>
     refine ⟨0,z4 _,rfl,?_,HB1'.out⟩;unfold fG;rw [List.take_zero,z2,List.flatten_nil,List.append_nil,aI7 _ (by simp;omega),zn,rG];exact HO'.out
    case round=>
     obtain ⟨k,hk,rfl,hor,hbr⟩:=hrel;have hbw:=HB.out.trans hbr;have htr:bT wr B tp _ Q:=h0.below (hbw.mono hB1);have hcell:=htr.cell;obtain ⟨g',hg',q1,q2,q3,q4⟩:=HC0.out h hhl;simp at hg';subst hg';have f3:=Below.at' hbw hB1 q3;rw [show (Q[h].2:Value)=.slice pa pl.length pc from HPV.out] at f3;clear q1 q2 q3 q4 htr;have HOR:=aA hor;have HBR:=aA hbr;obtain ⟨ra,rn,rc,rfl⟩:=hor.shape;clear hor hbr;by_cases hlt:k<pl.length
     ·have hlti:(k:Int)<(pl.length:Int):=by omega
      obtain ⟨g2,rfl,e2⟩:=HPC.out k hlt;have e3:=Below.at' hbw hB1 e2;have CN:=aA (IH.out pl[k] (ex pl[k]) _ _ wr (by have:=HX2.out pl[k] (zp _);have:=HML.out;have:=congrArg List.length this;simp at this;omega) (HX1.out _ (zp _)) (HPP.out _ (zp _)) hbw (zu hBw HBR.out.size) HOR.out (by simp;omega));have HK1:Hid ((pl.take (k+1)).map ex=(pl.take k).map ex++[ex pl[k]]):=aA (by rw [List.take_succ_eq_append_getElem hlt,zj];rfl);have HCUR:Hid ((((out++[(s,x)]++((pl.take k).map ex).flatten).take 501)++ex pl[k]).take 501=(out++[(s,x)]++((pl.take (k+1)).map ex).flatten).take 501):=aA (by rw [aSw,HK1.out,List.flatten_append];simp);clear e2 HOR HK1;generalize ((out++[(s,x)]++((pl.take k).map ex).flatten).take 501)=cur at *;generalize pl[k]=pk at *;go_wp2_with (first
       | (go_at_call 45;refine (aB CN).mono ?_;rintro e w2 ⟨v2,rfl,ho2,hb2⟩;have HO2:=aA ho2;have HB2:=aA hb2;obtain ⟨a2,n2,c2,rfl⟩:=ho2.shape;clear ho2 hb2)
       | go_in)
      go_roundw;case rel=>exact ⟨k+1,by omega,by go_num,by rw [<-HCUR.out];exact HO2.out,HBR.out.trans HB2.out⟩
      case measure=>simp [intOf];omega
     ·have hke:k=pl.length:=by omega
      subst hke;have hlti:¬((pl.length:Int)<(pl.length:Int)):=by omega
      go_wp2;go_ret;refine ⟨_,rfl,?_,HBR.out⟩;have:=HOR.out;rw [List.take_length,HX3.out] at this;rw [HML.out,show out++(s,x) :: l=out++[(s,x)]++l by simp];exact this
theorem aT0(w:World)(ty:TypeId)(base:Nat)(v:Value)(P:Tb)(hown:w.ownsRow base 94 4 v P.length (eT P))(hn:P.length<=1000000)(hbase:base<=w.heap.size)(g c:Nat)(nd:Nd)(k:Nat)
  (u0:w.cell? ⟨g,0,none⟩=some (.string nd.1)) (u1:w.cell? ⟨g,1,none⟩=some (.int .i64 nd.2)) (u2:w.cell? ⟨g,2,none⟩=some (.slice none 0 0)) (u3:w.cell? ⟨g,3,none⟩=some (.int .i64 k)) :
  ∃v' w',(Builtin.append_ #[61,61] ty #[v,.slice (some ⟨g,0,none⟩) 1 c]).run zs w=.ok v' w'/\w'.ownsRow base 94 4 v' (P.length+1) (eT P++[.string nd.1,.int .i64 nd.2,.slice none 0 0,.int .i64 k])/\w.grownBy w' v.ownBlock/\aX w v v':=by
 obtain ⟨i,hi,hz,hss,hy⟩:=info_parts aSs;have hnews:∀(j:Nat) (u':Value),[Value.string nd.1,zd .i64 nd.2,z5 none 0 0,zd .i64 k][j]?=some u'->w.cell? ((⟨g,0,none⟩ : Addr).add j)=some u':=by
  intro j u' hj;have hj0:=(zg.1 hj).1;simp at hj0;match j,hj0,hj with
  | 0,_,hj=>simp at hj;subst hj;exact u0
  | 1,_,hj=>simp at hj;subst hj;exact u1
  | 2,_,hj=>simp at hj;subst hj;exact u2
  | 3,_,hj=>simp at hj;subst hj;exact u3
 have h1c:∀x∈[Value.string nd.1,zd .i64 nd.2,z5 none 0 0,zd .i64 k],x.oneCell'=true:=by intro x hx;simp at hx;rcases hx with rfl | rfl | rfl | rfl <;> rfl
 by_cases hv:v.ownBlock=none
 ·have hnil:v=.slice none 0 0/\P.length=0:=by
   obtain ⟨_,h | ⟨g,cap,cur,rfl,_⟩⟩:=hown
   ·exact h
   ·simp [zm] at hv
  obtain ⟨v',w',hr,h1,h2,h3⟩:=run_append_own (P:=zs) w w.heap.size 61 ty 94 i _ 4 56 ze hi hz hss hy rfl (by decide) v P.length (eT P) (by rw [hnil.1,hnil.2];have:eT P=[]:=(by rw [zv hnil.2];rfl);rw [this];exact zl _ _ _ _) ⟨g,0,none⟩ 1 c [.string nd.1,.int .i64 nd.2,.slice none 0 0,.int .i64 k] rfl hnews h1c (by unfold maxLen;omega) (by omega) (zz _);refine ⟨v',w',hr,dI h1 hbase,h2,?_⟩;cases hb:v'.ownBlock with
  | none=>exact zr (by rw [hb,hv])
  | some g'=>exact zo ⟨g',hb,(aT h1 g' hb).1⟩
 ·obtain ⟨v',w',hr,h1,h2,_⟩:=run_append_own (P:=zs) w base 61 ty 94 i _ 4 56 ze hi hz hss hy rfl (by decide) v P.length (eT P) hown ⟨g,0,none⟩ 1 c [.string nd.1,.int .i64 nd.2,.slice none 0 0,.int .i64 k] rfl hnews h1c (by unfold maxLen;omega) (by omega) hbase;refine ⟨v',w',hr,h1,h2,?_⟩;rcases wB w base 61 ty 94 i _ 4 56 ze hi hz hss hy (by decide) v P.length (eT P) hown hv ⟨g,0,none⟩ 1 c [.string nd.1,.int .i64 nd.2,.slice none 0 0,.int .i64 k] rfl hnews h1c (by unfold maxLen;omega) (by omega) hr with e | e
  ·exact zr e
  ·exact zo ⟨_,e,zz _⟩
theorem aIa{ops:Array Oper}{o:Oper}{a:Act}{w:World}{K:Act->World->Prop}{Q:Exit->Act->World->Prop}{E:Prop}(hgd:o.guard=none)(s x:Operand)
  (ho:o.op=.call {callee:=.builtin .append,args:=#[s,x],argTypes:=#[61,61]}) (base:Nat) (v:Value) (P:Tb) (hs:a.eval s=v) (hown:w.ownsRow base 94 4 v P.length (eT P)) (hn:P.length<=1000000) (hbase:base<=w.heap.size)
  (g c:Nat) (nd:Nd) (k:Nat) (hx:a.eval x=.slice (some ⟨g,0,none⟩) 1 c) (u0:w.cell? ⟨g,0,none⟩=some (.string nd.1)) (u1:w.cell? ⟨g,1,none⟩=some (.int .i64 nd.2)) (u2:w.cell? ⟨g,2,none⟩=some (.slice none 0 0)) (u3:w.cell? ⟨g,3,none⟩=some (.int .i64 k))
  (h:∀v' w',w'.ownsRow base 94 4 v' (P.length+1) (eT P++[.string nd.1,.int .i64 nd.2,.slice none 0 0,.int .i64 k])->w.grownBy w' v.ownBlock->aX w v v'->K (a.put o.dst v') w') :
  if Region.wanted o (yielded ops a.tmps)=true then Oper.wp zs o a w K Q else E:=by
 have hw:Region.wanted o (yielded ops a.tmps)=true:=by simp [Region.wanted,hgd]
 rw [if_pos hw];obtain ⟨v',w',hr,h1,h2,h3⟩:=aT0 w o.type base v P hown hn hbase g c nd k u0 u1 u2 u3;unfold Oper.wp execOp;simp only [ho,resolve,invoke,builtin,Sem.run_bind,Sem.run_pure,Result.andThen_ok,z3,List.map_cons,z2,hs,hx,hr];exact h v' w' h1 h2 h3
theorem aT1{w W:World}{B tp:Nat}{v:Value}{P:Tb}{up:Int}{nd:Nd}{r:List Nd}{k:Nat}(hb:Below w.heap.size w W)(htab:bT w B tp v P)(hk:k<P.length)(hn:P[k].1.node=lQ up nd)(hv:aF nd=true):nB w B tp v P up (nd :: r) k r W v P:=
 ⟨htab.below hb,eG.old hv ⟨P[k].1,by rw [zf,List.getElem?_eq_getElem hk];rfl,hn⟩ (eG.nil _ _),eC.below hb,aX.refl _ _,λp hp=>zr ⟨p,hp,rfl⟩,by simp⟩
structure aCc(w:World)(B tp bx:Nat)(v v3:Value)(P:Tb)(nd:Nd)(w4:World):Prop where
 tab:bT w4 B tp v3 (P++[(⟨nd,P.length,[]⟩,.slice none 0 0)])
 far:eC w w4 tp v
 moved:aX w v v3
 b0:w4.cell? ⟨bx,0,none⟩=some (.string nd.1)
 b1:w4.cell? ⟨bx,1,none⟩=some (.int .i64 nd.2)
 blt:bx<w4.heap.size
 vne:v3.ownBlock≠some bx
 tne:bx≠tp
theorem aIb{w W w3:World}{B tp bx:Nat}{v v3:Value}{P:Tb}{nd:Nd}{X:Obj}(hb:Below w.heap.size w W)(htab:bT w B tp v P)(hbx:w.heap.size<=bx)(k0:W.cell? ⟨bx,0,none⟩=some (.string nd.1))(k1:W.cell? ⟨bx,1,none⟩=some (.int .i64 nd.2))
  (hg:(W.drew.alloc X).grownBy w3 v.ownBlock) (ho:w3.ownsRow B 94 4 v3 (P.length+1) (eT P++[.string nd.1,.int .i64 nd.2,.slice none 0 0,.int .i64 P.length])) (hm:aX (W.drew.alloc X) v v3) :
  aCc w B tp bx v v3 P nd (w3.setCell ⟨tp,0,none⟩ v3)/\w3.cell? ⟨tp,0,none⟩=some v/\w3.frozen? ⟨tp,0,none⟩=false:=by
 have hb2:Below W.heap.size W (W.drew.alloc X):=(aJ (w1:=W.drew) ⟨1,rfl⟩).alloc (zz _) X;have hbA:Below w.heap.size w (W.drew.alloc X):=hb.trans (hb2.mono hb.size);have ht:=htab.below hbA;have htp:tp<w.heap.size:=(zy.1 htab.box).1;obtain ⟨g1,g2⟩:=ht.grow hg ho;have hvb:v.ownBlock≠some bx:=λe=>by have:=(aT htab.row bx e).2;omega
 have j0:=Below.at' hb2 (zz _) k0;have j1:=Below.at' hb2 (zz _) k1;have hbl:bx<W.heap.size:=zx _ _ k0;have hsz:=hg.size;have hsA:(W.drew.alloc X).heap.size=W.heap.size+1:=by simp
 refine ⟨⟨g1,(eC.below hbA).trans (aX.refl _ _) g2,?_,?_,?_,?_,?_,by omega⟩,?_,?_⟩
 ·rcases hm with e | ⟨g,e,hgg⟩
  ·exact zr e
  ·exact zo ⟨g,e,zu hbA.size hgg⟩
 ·exact fP (hg.cell j0 (λe=>hvb e.symm)) (by simp;omega)
 ·exact fP (hg.cell j1 (λe=>hvb e.symm)) (by simp;omega)
 ·simp [World.setCell];omega
 ·intro e;rcases hm with e' | ⟨g,e',hgg⟩
  ·exact hvb (by rw [<-e',e])
  ·rw [e] at e';simp at e';omega
 ·exact hg.cell ht.cell (λe=>ht.ne e.symm)
 ·rw [World.frozen?_of_block (hg.block tp (zy.1 ht.box).1 (λe=>ht.ne e.symm))];exact ht.soft
theorem aT2{w w4:World}{B tp bx:Nat}{v v3:Value}{P:Tb}{up:Int}{nd:Nd}{r:List Nd}(h:aCc w B tp bx v v3 P (lQ up nd) w4)(hv:aF nd=true)(hno:∀j (hj:j<P.length),P[j].1.node≠lQ up nd):nB w B tp v P up (nd :: r) P.length r w4 v3 (P++[(⟨lQ up nd,P.length,[]⟩,.slice none 0 0)]):=by
 have hl:(P.map zq).length=P.length:=by simp
 have hp:=eG.new (R:=P.map zq) (s:=r) (k:=0) hv (λx hx=>by
  obtain ⟨p,hp,rfl⟩:=List.mem_map.1 hx;obtain ⟨j,hj,rfl⟩:=List.getElem_of_mem hp;exact hno j hj) (eG.nil _ _)
 rw [hl] at hp;refine ⟨h.tab,by rw [zj];exact hp,h.far,h.moved,λp hp=>?_,by simp;omega⟩;rcases zc.1 hp with hp | hp
 ·exact zr ⟨p,hp,rfl⟩
 ·simp at hp;subst hp;exact zo (zr rfl)
theorem aT3(w:World)(ty:TypeId)(base:Nat)(v:Value)(n:Nat)(xs:List Value)(hown:w.ownsRow base 3 1 v n xs)(hn:n<=1000000)(hbase:base<=w.heap.size)(g c:Nat)(u:Int)(hu:w.cell? ⟨g,0,none⟩=some (.int .i64 u)) :
  ∃v' w',(Builtin.append_ #[25,25] ty #[v,.slice (some ⟨g,0,none⟩) 1 c]).run zs w=.ok v' w'/\w'.ownsRow base 3 1 v' (n+1) (xs++[.int .i64 u])/\w.grownBy w' v.ownBlock/\aX w v v':=by
 by_cases hv:v.ownBlock=none
 ·obtain ⟨i,hi,hz,hs,hy⟩:=info_parts oT;have hnil:v=.slice none 0 0/\n=0:=by
   obtain ⟨_,h | ⟨g,cap,cur,rfl,_⟩⟩:=hown
   ·exact h
   ·simp [zm] at hv
  obtain ⟨rfl,rfl⟩:=hnil;have hxs:xs=[]:=zv (by have:=hown.1;simpa using this);subst hxs;have hnews:∀(j:Nat) (u':Value),[zd .i64 u][j]?=some u'->w.cell? ((⟨g,0,none⟩ : Addr).add j)=some u':=by
   intro j u' hj;have hj0:j=0:=by have:=(zg.1 hj).1;simp at this;exact this
   subst hj0;simp at hj;subst hj;exact hu
  obtain ⟨v',w',hr,h1,h2,h3⟩:=run_append_own (P:=zs) w w.heap.size 25 ty 3 i (.int .i64 0) 1 8 Tryz.underlying25 hi hz hs hy rfl (by decide) (.slice none 0 0) 0 [] (zl _ _ _ _) ⟨g,0,none⟩ 1 c [.int .i64 u] rfl hnews (aAu u) (by unfold maxLen;omega) (by omega) (zz _);refine ⟨v',w',hr,dI h1 hbase,h2,?_⟩;cases hb:v'.ownBlock with
  | none=>exact zr (by rw [hb,hv])
  | some g'=>exact zo ⟨g',hb,(aT h1 g' hb).1⟩
 ·obtain ⟨v',w',h1,h2,h3,h4⟩:=aIm w ty base v n xs hown hv hn hbase g c u hu;refine ⟨v',w',h1,h2,h3,?_⟩;rcases h4 with e | e
  ·exact zr e
  ·exact zo ⟨_,e,zz _⟩
theorem aCd{ops:Array Oper}{rest:List Oper}{o:Oper}{a:Act}{w:World}{Q:Exit->Act->World->Prop}(hgd:o.guard=none)(s x:Operand)(ho:o.op=.call {callee:=.builtin .append,args:=#[s,x],argTypes:=#[25,25]})
  (base:Nat) (v:Value) (n:Nat) (xs:List Value) (hs:a.eval s=v) (hown:w.ownsRow base 3 1 v n xs) (hn:n<=1000000) (hbase:base<=w.heap.size) (g c:Nat) (u:Int) (hx:a.eval x=.slice (some ⟨g,0,none⟩) 1 c) (hu:w.cell? ⟨g,0,none⟩=some (.int .i64 u))
  (h:∀v' w',w'.ownsRow base 3 1 v' (n+1) (xs++[.int .i64 u])->w.grownBy w' v.ownBlock->aX w v v'->wpList zs ops Q rest (a.put o.dst v') w'):wpList zs ops Q (o :: rest) a w:=by
 refine wpList_plain hgd λK hK'=>?_
 obtain ⟨v',w',hr,h1,h2,h3⟩:=aT3 w o.type base v n xs hown hn hbase g c u hu;unfold Oper.wp execOp;simp only [ho,resolve,invoke,builtin,Sem.run_bind,Sem.run_pure,Result.andThen_ok,z3,List.map_cons,z2,hs,hx,hr];exact hK' _ _ (h v' w' h1 h2 h3)
theorem aT4{w w4 wr:World}{B tp bx g cap:Nat}{v v3 pv:Value}{P P':Tb}{up:Int}{nd:Nd}{r r':List Nd}{ps:List Nat}(h:aCc w B tp bx v v3 P nd w4)(hv:aF nd=false)(hl:sA w4 B tp v3 (P++[(⟨nd,P.length,[]⟩,.slice none 0 0)]) up r (bK nd) r' pv ps wr (.slice (some ⟨g,0,none⟩) P'.length cap) P')(hk:P.length<P'.length) :
  nB w B tp v P up (nd :: r) P.length r' (wr.setCell ⟨g,P.length*4+2,none⟩ pv) (.slice (some ⟨g,0,none⟩) P'.length cap) (P'.set P.length ({P'[P.length].1 with parts:=ps},pv)):=by
 have hln:(P.map zq).length=P.length:=by simp
 have hws:=h.far.size;have hown:wr.ownsRow B 3 1 pv ps.length (iJ ps):=dI hl.own (zu (by have:=h.tab.high;have:=(zy.1 h.tab.box).1;omega) (zz _));have hp1:=hl.put;rw [zj] at hp1;have hp:=eG.name (R:=P.map zq) (n:=nd) (k:=0) (s:=r) (s1:=r') hv (by rw [hln];exact hp1) (eG.nil _ _);rw [hln] at hp;refine ⟨hl.tab.setParts _ hk ps pv hown,by rw [aSv _ _ hk];exact hp,(h.far.trans h.moved hl.far).setV (h.moved.trans hl.moved hws) rfl,h.moved.trans hl.moved hws,λp hpm=>?_,?_⟩
 ·rcases zh hpm with hpm | rfl
  ·rcases hl.old p hpm with ⟨q,hq,e⟩ | e | ⟨g',e,hgg⟩
   ·rcases zc.1 hq with hq | hq
    ·exact zr ⟨q,hq,e⟩
    ·simp at hq;subst hq;rw [e];exact zo (zr rfl)
   ·exact zo (zr e)
   ·exact zo (zo ⟨g',e,by omega⟩)
  ·right;cases hb:pv.ownBlock with
   | none=>exact zr rfl
   | some g'=>exact zo ⟨g',rfl,by have:=(aT hl.own g' hb).1;omega⟩
 ·have:=hl.len;simp at this ⊢;omega
theorem eC.cell{w w':World}{tp:Nat}{v u:Value}{p:Addr}(h:eC w w' tp v)(hc:w.cell? p=some u)(h1:p.block≠tp)(h2:v.ownBlock≠some p.block):w'.cell? p=some u:=by have hb:=h.block p.block (zx w p hc) h1 h2;rw [<-hc];unfold World.cell?;rw [hb]
theorem eG.ps_len{up:Int}{R:List Rw}{k:Nat}{s:List Nd}{R':List Rw}{ps:List Nat}{s':List Nd}(h:eG up R k s R' ps s'):ps.length=k:=by obtain ⟨g,hg⟩:=h.inv;rw [hg.ps,List.length_map,uL]
def aT5(w:World)(B tp:Nat)(v:Value)(P:Tb)(up:Int)(l:List Nd)(i q k i':Nat)(w':World):Prop:=
 i'<=l.length/\i<=i'/\aW (l.drop i') q=true/\∃(v':Value) (P':Tb),nB w B tp v P up (l.drop i) k (l.drop i') w' v' P'
theorem aT6(B tp:Nat)(up:Int)(hup:0<=up/\up<=1000)(a:Option Addr)(ca:Nat)(l:List Nd)(hl60:l.length<=60)(hlow:∀p,a=some p->p.block<B) :
  ∀(n i q:Nat) (v:Value) (P:Tb) (w:World),(l.drop i).length<=n->aW (l.drop i) (q+1)=true->cM w a l->bT w B tp v P->P.length+(l.drop i).length<=100000->B<=w.heap.size->
  Calls zs 25 #[.pointer (some ⟨tp,0,none⟩),.slice a l.length ca,.int .i64 i,.int .i64 up] w λe w'=>∃k i':Nat,e=.returned (.tuple #[.int .i64 k,.int .i64 i'])/\aT5 w B tp v P up l i q k i' w':=by
 intro n;induction n with
 | zero=>
  intro i q v P w hn ht;have:=zv (Nat.le_zero.1 hn);rw [this] at ht;simp [aW] at ht
 | succ n ih=>
  intro i q v P w hn ht hN htab hP hB;have hi:i<l.length:=by apply Nat.lt_of_not_le;intro h;rw [List.drop_eq_nil_of_le h] at ht;simp [aW] at ht
  obtain ⟨b,o,rfl,e1,e2⟩:=hN.cell i hi;have hd:l.drop i=l[i] :: l.drop (i+1):=List.drop_eq_getElem_cons hi;rw [hd,uT,Bool.and_eq_true] at ht;obtain ⟨hok,ht⟩:=ht;have hs:=hN.short i hi;have hii:(i:Int)<(l.length:Int):=by omega
  have hdl:(l.drop i).length=(l.drop (i+1)).length+1:=by rw [hd];rfl
  have HD:=aA hd;have HT:=aA ht;have HOK:=aA hok;have HN:=aA hN;have HTAB:=aA htab;have IH:=aA ih;obtain ⟨va,vc,rfl⟩:=aS htab.row;have hcell:=htab.cell;have htp:tp<w.heap.size:=(zy.1 htab.box).1;generalize l[i]=nd at *;obtain ⟨s,x⟩:=nd;simp only at e1 e2 hs;clear hd ht hok hN htab ih;by_cases hv:s.toList.isEmpty=true
  ·have hvb:aF (s,x)=true:=by simpa [aF] using hv
   have hx:0<=x/\x<60:=by have:=HOK.out;unfold dU at this;rw [if_pos hvb] at this;simpa using this
   obtain ⟨hx0,hx1⟩:=hx;obtain ⟨hu0,hu1⟩:=hup;have HV:=aA hvb;clear hvb;go_enter Tryz.func25,Tryz.ntmps25;go_wp2;obtain ⟨y0,y1⟩:=sX w (.string s) (.int .i64 (x+up)) 36;have hbA:Below w.heap.size w (w.alloc (.cells #[.string s,.int .i64 (x+up)] 36)):=(Below.refl _ _).alloc (zz _) _;generalize w.alloc (.cells #[.string s,.int .i64 (x+up)] 36)=W1 at *;have HBA:=aA hbA;clear hbA e1 e2;have hc0:=HTAB.out.shape;obtain ⟨va',vc',hve,hsh⟩:=hc0;simp at hve;obtain ⟨rfl,rfl⟩:=hve;have HSH:=aA hsh;clear hsh;have hcell1:=Below.at' HBA.out (zz _) hcell;clear hcell;go_loopw [11] (λi wr=>∃k:Nat,k<=P.length/\i=.int .i64 k/\(∀j (hj:j<k) (hj':j<P.length),P[j].1.node≠(s,x+up))/\∃d,wr=W1.drewN d) (λi _=>P.length-(intOf i).toNat);case atStart=>exact ⟨0,z4 _,rfl,λj hj=>by omega,0,rfl⟩
   case round=>
    obtain ⟨k,hk,rfl,hno,d,rfl⟩:=hrel;have HNO:=aA hno;clear hno;by_cases hlt:k<P.length
    ·have hlti:(k:Int)<(P.length:Int):=by omega
     obtain ⟨g,rfl,q1,q2,q3,q4⟩:=HSH.out k hlt;have f1:=Below.at' HBA.out (zz _) q1;have f2:=Below.at' HBA.out (zz _) q2;have hnb:=rE P[k].1.node (s,x+up);have g9:=sP;have q9:=rF P[k].1.node.1 s P[k].1.node.2 (x+up);clear q1 q2 q3 q4;simp only at hnb;by_cases he:P[k].1.node=(s,x+up)
     ·rw [decide_eq_true he] at hnb;have HE:=aA he;clear he;go_wp2;go_quiet (fail);go_wp2;go_ret2;refine ⟨k,i+1,aBl rfl (by go_num),by omega,by omega,?_,.slice (some ⟨g,0,none⟩) P.length vc,P,?_⟩
      ·have:=HT.out;rw [oZ HV.out] at this;exact this
      ·rw [HD.out];exact aT1 (HBA.out.trans ((aJ (by first | exact jT _ _ _ | exact ⟨_,rfl⟩)).mono HBA.out.size)) HTAB.out hlt HE.out HV.out
     ·rw [decide_eq_false he] at hnb;have HE:=aA he;clear he;go_wp2;go_quiet (fail);go_wp2;go_roundw;case rel=>
       refine ⟨k+1,by omega,by go_num,λj hj hj'=>?_,(by first | exact jT _ _ _ | exact ⟨_,rfl⟩)⟩;by_cases hjk:j<k
       ·exact HNO.out j hjk hj'
       ·have:j=k:=by omega
        subst this;exact HE.out
      case measure=>simp [intOf];omega
    ·have hke:k=P.length:=by omega
     subst hke;have hlti:¬((P.length:Int)<(P.length:Int)):=by omega
     have hb2:Below w.heap.size w (W1.drewN d):=HBA.out.trans ((aJ ⟨d,rfl⟩).mono HBA.out.size);have y0':(W1.drewN d).cell? ⟨w.heap.size,0,none⟩=some (.string s):=y0;have y1':(W1.drewN d).cell? ⟨w.heap.size,1,none⟩=some (.int .i64 (x+up)):=y1;have hc2:(W1.drewN d).cell? ⟨tp,0,none⟩=some (.slice va P.length vc):=hcell1;have hbs:=hb2.size;have hbl:=zx _ _ y0';clear y0 y1 hcell1;generalize W1.drewN d=W2 at *;have HB2:=aA hb2;have hrow:W2.drew.ownsRow B 94 4 (.slice va P.length vc) P.length (eT P):=(HTAB.out.below hb2).row;clear hb2;have hcX:∀X,(W2.alloc X).cell? ⟨tp,0,none⟩=some (.slice va P.length vc):=λX=>Below.at' ((Below.refl W2.heap.size W2).alloc (zz _) X) (zz _) hc2
     go_wp2_with fail;go_region_law (refine aIa (by rfl) _ _ (by rfl) B _ P (by rfl) (hrow.alloc _) (by omega) (by simp;omega) W2.heap.size 1 (s,x+up) P.length (by rfl) (by simp) (by simp) (by simp) (by simp) ?_;intro v3 w3 ho3 hg3 hm3;obtain ⟨hR,d3,f3⟩:=aIb (nd:=(s,x+up)) HB2.out HTAB.out (zz _) y0' y1' hg3 ho3 hm3;obtain ⟨va3,n3,vc3,rfl⟩:=jV ho3;have HR:=aA hR;clear ho3 hg3 hm3 hR);all_goals
      have z0:=HR.out.b0;have z1:=HR.out.b1;clear d3 f3 hcX;generalize w3.setCell ⟨tp,0,none⟩ (.slice va3 n3 vc3)=w4 at *;go_wp2;go_ret2;refine ⟨P.length,i+1,aBl rfl (by go_num),by omega,by omega,?_,.slice va3 n3 vc3,P++[(⟨lQ up (s,x),P.length,[]⟩,.slice none 0 0)],?_⟩
      ·have:=HT.out;rw [oZ HV.out] at this;exact this
      ·rw [HD.out];exact aT2 (nd:=(s,x)) HR.out HV.out (λj hj=>HNO.out j hj hj)
  ·have hv':s.toList.isEmpty=false:=by simpa using hv
   have hvb:aF (s,x)=false:=by simpa [aF] using hv
   have hx:0<=x/\x<=5:=by have:=HOK.out;unfold dU at this;rw [if_neg (by rw [hvb];simp)] at this;simp at this;exact this.2
   obtain ⟨m,rfl⟩:=Int.eq_ofNat_of_zero_le hx.1;have hm5:m<=5:=by omega
   have hw:bK (s,(m:Int))=m:=by simp [bK,hvb]
   rw [hw] at HT;have HW:=aA hw;have HV:=aA hvb;clear hvb hx hw hv;go_enter Tryz.func25,Tryz.ntmps25;go_wp2_with fail;obtain ⟨y0,y1⟩:=sX w (.string s) (.int .i64 m) 36;have hbA:Below w.heap.size w (w.alloc (.cells #[.string s,.int .i64 m] 36)):=(Below.refl _ _).alloc (zz _) _;generalize w.alloc (.cells #[.string s,.int .i64 m] 36)=W2 at *;have hc2:=Below.at' hbA (zz _) hcell;have hbs:=hbA.size;have hbl:=zx _ _ y0;have hrow:W2.drew.ownsRow B 94 4 (.slice va P.length vc) P.length (eT P):=(HTAB.out.below hbA).row;have HB2:=aA hbA;clear hbA e1 e2 hcell;have hcX:∀X,(W2.alloc X).cell? ⟨tp,0,none⟩=some (.slice va P.length vc):=λX=>Below.at' ((Below.refl W2.heap.size W2).alloc (zz _) X) (zz _) hc2
   go_region_law (refine aIa (by rfl) _ _ (by rfl) B _ P (by rfl) (hrow.alloc _) (by omega) (by simp;omega) W2.heap.size 1 (s,(m:Int)) P.length (by rfl) (by simp) (by simp) (by simp) (by simp) ?_;intro v3 w3 ho3 hg3 hm3;obtain ⟨hR,d3,f3⟩:=aIb (nd:=(s,(m:Int))) HB2.out HTAB.out (zz _) y0 y1 hg3 ho3 hm3;obtain ⟨va3,n3,vc3,rfl⟩:=jV ho3;have HR:=aA hR;clear ho3 hg3 hm3 hR);all_goals
    have z0:=HR.out.b0;clear d3 f3 y0 y1 hc2 hbl hrow hbs hcX;generalize w3.setCell ⟨tp,0,none⟩ (.slice va3 n3 vc3)=w4 at *;go_wp2;have z1:=HR.out.b1;have hbx:=HR.out.blt;have hP0:(P++[((⟨(s,(m:Int)),P.length,[]⟩ : Rw),z5 none 0 0)]).length=P.length+1:=by simp
    go_loopw [2,13,14] (λat' pv c wr=>∃(j u:Nat) (ps:List Nat) (v':Value) (P':Tb),j<=m/\c=.int .i64 j/\at'=.int .i64 u/\i+1<=u/\u<=l.length/\aW (l.drop u) (q+(m-j))=true/\sA w4 B tp (.slice va3 n3 vc3) (P++[(⟨(s,(m:Int)),P.length,[]⟩,.slice none 0 0)]) up (l.drop (i+1)) j (l.drop u) pv ps wr v' P') (λ_ _ c _=>m-(intOf c).toNat);case atStart=>exact ⟨0,i+1,[],_,_,z4 _,rfl,by go_num,zz _,by omega,HT.out,sA.start HR.out.tab⟩
    case round=>
     obtain ⟨j,u,ps,v',P',hj,rfl,rfl,hiu,hul,htu,hL⟩:=hrel;have hbw:Below B w wr:=(HR.out.far.low HTAB.out.high (λk e=>(aT HTAB.out.row k e).1) hB).trans (hL.far.low HR.out.tab.high (λk e=>(aT HR.out.tab.row k e).1) (zu hB HR.out.far.size));have hz1:wr.cell? ⟨w.heap.size,1,none⟩=some (.int .i64 m):=hL.far.cell z1 HR.out.tne HR.out.vne;have hlen:=hL.len;rw [hP0] at hlen;have hpsl:=hL.put.ps_len;have hps:ps.length<=1000000:=by omega
     have HL:=aA hL;by_cases hjm:j<m
     ·have hjmi:(j:Int)<(m:Int):=by omega
      have htu':aW (l.drop u) ((q+(m-j-1))+1)=true:=by rw [show q+(m-j-1)+1=q+(m-j) by omega];exact htu
      have hlu:(l.drop u).length<=n:=by simp at hdl hn ⊢;omega
      have CP:=aA (IH.out u (q+(m-j-1)) v' P' wr hlu htu' (HN.out.lowB hlow hbw) hL.tab (by omega) (zu hB hbw.size));obtain ⟨pa,pn,pc,rfl⟩:=jV hL.own;have hw4r:=HL.out.far.size;clear hL htu htu' hpsl hlen hlu;go_wp2_with (first
       | (at_builtin;refine aCd rfl (.tmp 89) (.tmp 91) rfl w4.heap.size _ ps.length (iJ ps) rfl (HO5.out.alloc _) hps (by simp;omega) w5.heap.size 1 k rfl (by simp) ?_;intro pv6 w6 ho6 hg6 hm6;have HNX:=aA ((HL.out.next HPR.out).2 hg6 ho6 hm6);obtain ⟨a6,n6,c6,rfl⟩:=jV ho6;clear ho6 hg6 hm6)
       | (go_at_call 25;refine (aB CP).mono ?_;rintro e w5 ⟨k,u',rfl,hu1,hu2,hu3,v5,P5,hpr⟩;have HPR:=aA hpr;have HO5:=aA (HL.out.next (X:=.map #[] 0) (w6:=w5) (pv6:=.slice none 0 0) hpr).1;have hw5:=hpr.far.size;have HU3:=aA hu3;clear hpr hu3)
       | go_in)
      go_roundw;case rel=>exact ⟨j+1,u',ps++[k],v5,P5,by omega,by go_num,rfl,by omega,hu1,by rw [show q+(m-(j+1))=q+(m-j-1) by omega];exact HU3.out,HNX.out⟩
      case measure=>simp [intOf];omega
     ·have hje:j=m:=by omega
      subst hje;have hlti:¬((j:Int)<(j:Int)):=by omega
      have hk':P.length<P'.length:=by have:=hL.put.len;rw [hP0] at this;omega
      have hki:(P.length:Int)<(P'.length:Int):=by omega
      obtain ⟨a',cap',rfl,hsh⟩:=hL.tab.shape;obtain ⟨g',rfl,q1,q2,q3,q4⟩:=hsh P.length hk';have hcl:=hL.tab.cell;have hfr:=hL.tab.frozen (P.length*4+2);obtain ⟨pa,pn,pc,rfl⟩:=jV hL.own;have HTU:=aA htu;have hpl:P'.length<=1000000:=by omega
      clear q1 q2 q4 hsh hL htu hlen hpsl;go_wp2;go_ret2;refine ⟨P.length,u,aBl rfl rfl,hul,by omega,?_,.slice (some ⟨g',0,none⟩) P'.length cap',_,by rw [HD.out];exact aT4 HR.out HV.out (by rw [HW.out];exact HL.out) hk'⟩;have:=HTU.out;simpa using this
end Go.Proofs.YtcldkjcpofjmhaaGreatDoor
