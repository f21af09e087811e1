import Derived.Test.YtcldkjcpofjmhaaGreatDoorUWrF
open Array renaming getElem?_eq_some_iff→zy
open List renaming getElem_mem→zx,take_append_of_le_length→zv,eq_nil_of_length_eq_zero→zu,set_cons_succ→zr,getElem?_map→zn,getElem?_eq_getElem→zl,length_append→zk,take_of_length_le→zi,map_append→zh,mem_or_eq_of_mem_set→zf,getElem?_eq_some_iff→ze,mem_append→zb,map_nil→z3,map_toArray→z4
open Nat renaming le_refl→zz,le_trans→zt,lt_of_lt_of_le→zg,zero_le→z5
open Or renaming inl→zs,inr→zm
open Prod renaming fst→zq
namespace Go.Proofs.YtcldkjcpofjmhaaGreatDoor
open _root_.Go.Proofs.Tryz renaming prog→zp,underlying61→zd,underlying37→z2
open Value renaming ownBlock→zj,int→zc,slice→z6
open World renaming block_lt_of_cell?→zw,ownsRow_nil→zo
set_option maxHeartbeats 4000000
set_option maxRecDepth 100000
open Go.RowKit Go.Shelf Go.WideMaps
variable{up:Int}{r:List Nd}{B tp:Nat}{nd:Nd}{P Q:Tb}{v v3:Value}{w w':World}
theorem aTz:(zp.info? 94).map (λi=>(i.zero,i.size,i.bytes))=some (some (.agg #[.string ⟨#[]⟩,.int .i64 0,.slice none 0 0,.int .i64 0]),4,56):=by kernel_rfl
theorem aU0(P:Tb)(x:Rw×Value):fC (P++[x])=fC P++[.string x.1.node.1,.int .i64 x.1.node.2,x.2,.int .i64 x.1.cls]:=by simp [fC]
structure eF(w w':World)(tp:Nat)(v:Value):Prop where
 os:w'.os=w.os
 tape:w'.tape=w.tape
 output:w'.output=w.output
 size:w.heap.size<=w'.heap.size
 block:∀k,k<w.heap.size->k≠tp->v.ownBlock≠some k->w'.heap[k]?=w.heap[k]?
theorem eF.refl(w:World)(tp:Nat)(v:Value):eF w w tp v:=⟨rfl,rfl,rfl,zz _,λ_ _ _ _=>rfl⟩
theorem eF.trans{w w1 w2:World}{tp:Nat}{v v1:Value}(h:eF w w1 tp v)(hm:aX w v v1)(k:eF w1 w2 tp v1):eF w w2 tp v:=
 ⟨k.os.trans h.os,k.tape.trans h.tape,k.output.trans h.output,zt h.size k.size,λi h1 h2 h3=>by
  rw [k.block i (zg h1 h.size) h2 (λe=>by
   rcases hm with hm | ⟨g,hm,hg⟩
   ·exact h3 (hm.symm.trans e)
   ·rw [hm] at e;simp at e;omega),h.block i h1 h2 h3]⟩
theorem eF.grown(hg:w.grownBy w' v.ownBlock):eF w w' tp v:=⟨hg.os,hg.tape,hg.output,hg.size,λk h1 _ h3=>hg.block k h1 (λe=>h3 e.symm)⟩
theorem eF.below(hg:Below w.heap.size w w'):eF w w' tp v:=⟨hg.os,hg.tape,hg.output,hg.size,λk h1 _ _=>hg.block k h1⟩
theorem eF.set(h:eF w w' tp v)(j:Nat)(x:Value):eF w (w'.setCell ⟨tp,j,none⟩ x) tp v:=by have hg:=bR w' ⟨tp,j,none⟩ x;exact ⟨hg.os.trans h.os,hg.tape.trans h.tape,hg.output.trans h.output,zt h.size hg.size,λk h1 h2 h3=>by rw [hg.block k (zg h1 h.size) (by simpa using h2),h.block k h1 h2 h3]⟩
theorem eF.own{x:Value}{e:TypeId}{size n:Nat}{xs:List Value}(h:eF w w' tp v)(ho:w.ownsRow B e size x n xs)(h1:x.ownBlock≠some tp)(h2:x.ownBlock=none\/x.ownBlock≠v.ownBlock):w'.ownsRow B e size x n xs:=by
 obtain ⟨k1,⟨rfl,k2⟩ | ⟨g,cap,cur,rfl,hb,hh,hr⟩⟩:=ho
 ·exact ⟨k1,zs ⟨rfl,k2⟩⟩
 ·refine ⟨k1,zm ⟨g,cap,cur,rfl,hb,?_,hr⟩⟩;rw [h.block g (zy.1 hh).1 ?_ ?_,hh]
  ·rintro rfl;exact h1 rfl
  ·intro e;rcases h2 with h2 | h2
   ·simp [zj] at h2
   ·exact h2 (by rw [e];rfl)
theorem eF.low(h:eF w w' tp v)(ht:B<=tp)(hv:∀k,v.ownBlock=some k->B<=k)(hB:B<=w.heap.size):Below B w w':=
 ⟨h.os,h.tape,h.output,h.size,λk hk=>h.block k (by omega) (by omega) (λe=>by have:=hv k e;omega)⟩
theorem bU.grow{w1:World}{v1:Value}(h:bU w B tp v P){n:Nd}{c:Nat}(hg:w.grownBy w1 v.ownBlock)(ho:w1.ownsRow B 94 4 v1 (P.length+1) (fC P++[.string n.1,.int .i64 n.2,.slice none 0 0,.int .i64 c])) :
  bU (w1.setCell ⟨tp,0,none⟩ v1) B tp v1 (P++[(⟨n,c,[]⟩,.slice none 0 0)])/\eF w (w1.setCell ⟨tp,0,none⟩ v1) tp v:=by
 have hb1:w1.heap[tp]?=some (.cells #[v] 63):=by rw [hg.block tp (zy.1 h.box).1 (λe=>h.ne e.symm),h.box]
 have hbx:(w1.setCell ⟨tp,0,none⟩ v1).heap[tp]?=some (.cells #[v1] 63):=by unfold World.setCell;simp [Array.getElem?_modify,hb1]
 refine ⟨⟨hbx,h.high,?_,?_⟩,(eF.grown hg).set 0 v1⟩
 ·rw [zk,aU0];exact eC ho hb1 (by decide)
 ·intro p hp;rcases zb.1 hp with hp | hp
  ·exact eC (cH (h.parts p hp) hg (bW (h.parts p hp) h.row (by decide))) hb1 (by decide)
  ·simp at hp;subst hp;exact zo _ _ _ _
theorem aU1(P:Tb):∀(k:Nat) (h:k<P.length) (ps:List Nat) (pv:Value),(fC P).set (k*4+2) pv=fC (P.set k ({P[k].1 with parts:=ps},pv)):=by
 induction P with
 | nil=>intro k h;simp at h
 | cons x r ih=>
  intro k h ps pv;cases k with
  | zero=>rfl
  | succ k=>
   have:=ih k (by simpa using h) ps pv;rw [show (k+1)*4+2=k*4+2+1+1+1+1 by omega,zr,vG,vG,zr,zr,zr,zr,this];rfl
theorem bU.setParts{g cap:Nat}(h:bU w B tp (.slice (some ⟨g,0,none⟩) P.length cap) P)(k:Nat)(hk:k<P.length)(ps:List Nat)(pv:Value)(ho:w.ownsRow B 3 1 pv ps.length (iP ps)) :
  bU (w.setCell ⟨g,k*4+2,none⟩ pv) B tp (.slice (some ⟨g,0,none⟩) P.length cap) (P.set k ({P[k].1 with parts:=ps},pv)):=by
 have hne:=h.ne;simp [zj] at hne;have key:∀{x:Value} {n:Nat} {xs:List Value},w.ownsRow B 3 1 x n xs->(w.setCell ⟨g,k*4+2,none⟩ pv).ownsRow B 3 1 x n xs:=λhx=>
  qN hx (by
   rcases bW hx h.row (by decide) with e | e
   ·rw [e];simp
   ·exact λe'=>e (by rw [<-e'];rfl)) _
 refine ⟨?_,h.high,?_,?_⟩
 ·rw [heap_setCell_other _ _ _ _ (by simpa using λe=>hne e.symm),h.box]
 ·have r:=(h.row.stored (k*4+2) pv).1;rw [aU1 P k hk ps pv] at r;simpa using r
 ·intro p hp;rcases zf hp with hp | rfl
  ·exact key (h.parts p hp)
  ·exact key ho
theorem aU2(P:Tb)(k:Nat)(h:k<P.length)(ps:List Nat)(pv:Value):(P.set k ({P[k].1 with parts:=ps},pv)).map zq=Go.Proofs.YtcldkjcpofjmhaaGreatDoor.rO (P.map zq) k ps:=by
 apply List.ext_getElem?;intro i;rw [tE,zn,zn,List.getElem?_set];by_cases e:i=k
 ·subst e;simp [h]
 ·rw [if_neg (λx=>e x.symm),if_neg e]
structure pJ(w:World)(B tp:Nat)(v:Value)(P:Tb)(up:Int)(s:List Nd)(k:Nat)(s':List Nd)(w':World)(v':Value)(P':Tb):Prop where
 tab:bU w' B tp v' P'
 put:eI up (P.map zq) 1 s (P'.map zq) [k] s'
 far:eF w w' tp v
 moved:aX w v v'
 old:∀p∈P',(∃q∈P,p.2=q.2)\/p.2.ownBlock=none\/∃g,p.2.ownBlock=some g/\w.heap.size<=g
 len:P'.length+s'.length<=P.length+s.length
structure sK(w:World)(B tp:Nat)(v:Value)(P0:Tb)(up:Int)(s:List Nd)(j:Nat)(s':List Nd)(pv:Value)(ps:List Nat)(w':World)(v':Value)(P':Tb):Prop where
 tab:bU w' B tp v' P'
 put:eI up (P0.map zq) j s (P'.map zq) ps s'
 far:eF w w' tp v
 moved:aX w v v'
 old:∀p∈P',(∃q∈P0,p.2=q.2)\/p.2.ownBlock=none\/∃g,p.2.ownBlock=some g/\w.heap.size<=g
 len:P'.length+s'.length<=P0.length+s.length
 own:w'.ownsRow w.heap.size 3 1 pv ps.length (iP ps)
 apart:∀p∈P',p.2.ownBlock=none\/p.2.ownBlock≠pv.ownBlock
section
variable {w w':World}{B tp:Nat}{v v' pv:Value}{P0 P':Tb}{up:Int}{s s':List Nd}{j:Nat}{ps:List Nat}
theorem sK.start(h:bU w B tp v P0):sK w B tp v P0 up s 0 s (.slice none 0 0) [] w v P0:=
 ⟨h,eI.nil _ _,eF.refl _ _ _,aX.refl _ _,λp hp=>zs ⟨p,hp,rfl⟩,zz _,zo _ _ _ _,λp _=>by
  cases hb:p.2.ownBlock with
  | none=>exact zs rfl
  | some g=>exact zm (by simp [zj])⟩
theorem bU.grown(h:bU w B tp v P0){wx:World}{o:Option Nat}(hg:w.grownBy wx o)(h0:o≠some tp)(h1:v.ownBlock=none\/v.ownBlock≠o)(h2:∀p∈P0,p.2.ownBlock=none\/p.2.ownBlock≠o):bU wx B tp v P0:=
 ⟨by rw [hg.block tp (zy.1 h.box).1 (λe=>h0 e.symm),h.box],h.high,cH h.row hg h1,λp hp=>cH (h.parts p hp) hg (h2 p hp)⟩
theorem eI.len(h:eI up (P0.map zq) j s (P'.map zq) ps s'):P0.length<=P'.length:=by obtain ⟨g,hg⟩:=h.inv;have:=hg.more;simpa using this
theorem sK.next(h:sK w B tp v P0 up s j s' pv ps w' v' P'){k:Nat}{s2:List Nd}{w5 w6:World}{v5 pv6:Value}{P5:Tb}{X:Obj}(hr:pJ w' B tp v' P' up s' k s2 w5 v5 P5) :
  w5.ownsRow w.heap.size 3 1 pv ps.length (iP ps)/\((w5.alloc X).grownBy w6 pv.ownBlock->w6.ownsRow w.heap.size 3 1 pv6 (ps.length+1) (iP ps++[.int .i64 k])->aX (w5.alloc X) pv pv6->sK w B tp v P0 up s (j+1) s2 pv6 (ps++[k]) w6 v5 P5):=by
 have hpt:pv.ownBlock≠some tp:=cE h.own h.tab.box (by decide);have hpv:pv.ownBlock=none\/pv.ownBlock≠v'.ownBlock:=bW h.own h.tab.row (by decide);have ho5:=hr.far.own h.own hpt hpv;refine ⟨ho5,λhg ho hm=>?_⟩;have hbA:Below w5.heap.size w5 (w5.alloc X):=(Below.refl _ _).alloc (zz _) X;have hsA:(w5.alloc X).heap.size=w5.heap.size+1:=by simp
 have hw5:=hr.far.size;have hwn:=h.far.size;have hap:∀p∈P5,p.2.ownBlock=none\/p.2.ownBlock≠pv.ownBlock:=by
  intro p hp;rcases hr.old p hp with ⟨q,hq,e⟩ | e | ⟨g,e,hgg⟩
  ·rw [e];exact h.apart q hq
  ·exact zs e
  ·right;intro e';rw [e] at e';have:=(aT h.own g e'.symm).2;omega
 have ht6:bU w6 B tp v5 P5:=(hr.tab.below hbA).grown hg (cE ho5 hr.tab.box (by decide)) (bW hr.tab.row ho5 (by decide)) hap;have hfar:eF w w6 tp v:=by have h1:=h.far.trans h.moved hr.far;refine ⟨hg.os.trans h1.os,hg.tape.trans h1.tape,hg.output.trans h1.output,by have:=hg.size;have:=h1.size;omega,λi i1 i2 i3=>?_⟩;rw [hg.block i (by omega) (λe=>by have:=(aT h.own i e.symm).1;omega),heap_alloc_old _ _ (by omega),h1.block i i1 i2 i3]
 refine ⟨ht6,h.put.append hr.put,hfar,h.moved.trans hr.moved hwn,?_,by have:=h.len;have:=hr.len;omega,by rw [zk,show iP (ps++[k])=iP ps++[zc .i64 k] from zh ..];exact ho,?_⟩
 ·intro p hp;rcases hr.old p hp with ⟨q,hq,e⟩ | e | ⟨g,e,hgg⟩
  ·rw [e];exact h.old q hq
  ·exact zm (zs e)
  ·exact zm (zm ⟨g,e,by omega⟩)
 ·intro p hp;rcases hm with e | ⟨g,e,hgg⟩
  ·rw [e];exact hap p hp
  ·rw [e];cases hb:p.2.ownBlock with
   | none=>exact zs rfl
   | some g'=>
    right;intro e';simp at e';have:=(aT (hr.tab.parts p hp) g' hb).2;omega
end
theorem eF.setV{wr:World}{g j:Nat}{v' x:Value}(h:eF w wr tp v)(hm:aX w v v')(hg:v'.ownBlock=some g):eF w (wr.setCell ⟨g,j,none⟩ x) tp v:=by
 have hs:=bR wr ⟨g,j,none⟩ x;refine ⟨hs.os.trans h.os,hs.tape.trans h.tape,hs.output.trans h.output,zt h.size hs.size,λk h1 h2 h3=>?_⟩;rw [hs.block k (zg h1 h.size) (λe=>?_),h.block k h1 h2 h3];simp at e;subst e;rcases hm with e | ⟨g',e,hgg⟩
 ·exact h3 (by rw [<-e,hg])
 ·rw [hg] at e;simp at e;omega
theorem cU.lowB{a:Option Addr}{l:List Nd}(h:cU w a l)(hlow:∀p,a=some p->p.block<B)(hb:Below B w w'):cU w' a l:=
 ⟨h.few,h.short,λk hk=>by
  obtain ⟨b,o,rfl,h1,h2⟩:=h.cell k hk;have hl:=hlow _ rfl;exact ⟨b,o,rfl,(hb.cell (p:=⟨b,o+k*2,none⟩) hl).trans h1,(hb.cell (p:=⟨b,o+k*2+1,none⟩) hl).trans h2⟩⟩
def nN(Q:Tb)(i:Nat):Nat:=if h:i<Q.length then Q[i].1.cls else Q.length+i
theorem aCo(hok:gS Q)(i j:Nat):nN Q i=nN Q j↔aZ Q i j:=by
 unfold nN;by_cases hi:i<Q.length <;> by_cases hj:j<Q.length
 ·rw [dif_pos hi,dif_pos hj];exact (aZ.iff hi hj).symm
 ·rw [dif_pos hi,dif_neg hj];constructor
  ·intro e;have:=hok.cls i hi;omega
  ·rintro (e | ⟨_,h,_⟩)
   ·omega
   ·exact absurd h hj
 ·rw [dif_neg hi,dif_pos hj];constructor
  ·intro e;have:=hok.cls j hj;omega
  ·rintro (e | ⟨h,_,_⟩)
   ·omega
   ·exact absurd h hi
 ·rw [dif_neg hi,dif_neg hj];constructor
  ·intro e;exact zs (by omega)
  ·rintro (e | ⟨h,_,_⟩)
   ·omega
   ·exact absurd h hi
theorem aU3(x e:List Nd):(x.take 501++e).take 501=(x++e).take 501:=by
 by_cases h:x.length<=501
 ·rw [zi h]
 ·have h1:(x.take 501).length=501:=by simp;omega
  rw [zv (by omega),zv (by omega),List.take_take];simp
theorem aIp(x:List Nd)(h:x.length<=501):x.take 501=x:=zi h
theorem aU4{row:Nat}{m:List Nd}(hr:row<Q.length)(he:aL (aV Q) (aZ Q) (nN Q) [row] m)(hno:∀i (h:i<Q.length),¬(Q[i].1.cls=Q[row].1.cls/\aF Q[i].1.node=false)):m=[(⟨#[]⟩,(Q[row].1.cls:Int))]:=by
 cases he with
 | var h1 h2=>
  cases h2;unfold nN;rw [dif_pos hr]
 | name h1 h2 h3=>
  obtain ⟨hj,hv⟩:=oL h2;exact absurd ⟨((aZ.iff hr hj).1 h1).symm,hv⟩ (hno _ hj)
theorem aU5(hok:gS Q)(hD:eK (aV Q) (aZ Q))(hNC:dW (aV Q) (aZ Q)){row h:Nat}{m:List Nd}(hr:row<Q.length)(hh:h<Q.length)(hc:Q[h].1.cls=Q[row].1.cls)(hv:aF Q[h].1.node=false)(he:aL (aV Q) (aZ Q) (nN Q) [row] m) :
  ∃l,m=Q[h].1.node :: l/\aL (aV Q) (aZ Q) (nN Q) Q[h].1.parts l:=by
 have hn:(aV Q).named h:=by show aF ((aV Q).lab h)=false;rw [mF Q h hh];exact hv
 have hrh:aZ Q row h:=(aZ.iff hr hh).2 hc.symm;cases he with
 | var h1 h2=>exact absurd hn (h1 h hrh)
 | @name _ j _ l h1 h2 h3=>
  have hjh:aZ Q j h:=hD.trans _ _ _ (hD.symm _ _ h1) hrh;have ha:=uX hD hNC hok.arity hjh h2 hn;rw [List.append_nil] at h3;have h4:=h3.same hD (λi j hij=>(aCo hok i j).2 hij) _ ha;rw [pF Q h hh] at h4;have hl:=hNC j h hjh h2 hn;rw [mF Q h hh] at hl;exact ⟨l,by rw [hl],h4⟩
theorem aIq{w1:World}{d B1:Nat}{n:Nat}{xs:List Value}{e:TypeId}{size:Nat}{X:Obj}(h:w.ownsRow B1 e size v n xs)(hB:B1<=w.heap.size)(hg:((w.drewN d).alloc X).grownBy w1 v.ownBlock):Below B1 w w1:=by have hb:Below B1 w ((w.drewN d).alloc X):=(((aI ⟨d,rfl⟩).alloc (zz _) X:Below w.heap.size w ((w.drewN d).alloc X))).mono hB;refine hb.trans ⟨hg.os,hg.tape,hg.output,hg.size,λk hk=>hg.block k (by simp;omega) (λe=>?_)⟩;have:=(aT h k e.symm).1;omega
theorem aIr(w:World)(s x:Value)(t:TypeId)(n:Nat)(hn:n=w.heap.size):∀j u,[s,x][j]?=some u->(w.alloc (.cells #[s,x] t)).cell? ⟨n,j,none⟩=some u:=by
 subst hn;intro j u hj;match j,hj with
 | 0,hj=>simp at hj;subst hj;simp
 | 1,hj=>simp at hj;subst hj;simp
 | j+2,hj=>simp at hj
theorem aU6(B tp:Nat)(v:Value)(Q:Tb)(hok:gS Q)(hD:eK (aV Q) (aZ Q))(hNC:dW (aV Q) (aZ Q))(hf:Q.length<=1000000)(hps:∀p∈Q,p.1.parts.length<=1000000)(w0:World)(h0:bU w0 B tp v Q)(B1:Nat)(hB1:w0.heap.size<=B1) :
  ∀(n row:Nat) (m out:List Nd) (vo:Value) (w:World),m.length<n->aL (aV Q) (aZ Q) (nN Q) [row] m->row<Q.length->Below B1 w0 w->B1<=w.heap.size->fP w B1 vo out->out.length<=501->
  Calls zp 45 #[.pointer (some ⟨tp,0,none⟩),vo,.int .i64 row] w λe w'=>∃vo',e=.returned vo'/\fP w' B1 vo' ((out++m).take 501)/\Below B1 w w':=by
 obtain ⟨iN,hN,hN0,hN1,hN2⟩:=info_parts nB;obtain ⟨va,vcap,rfl,hc0⟩:=h0.shape;intro n;induction n with
 | zero=>intro row m out vo w hm;omega
 | succ n ih=>
  intro row m out vo w hm he hr hb hBw ho hout;have htab:bU w B tp (.slice va Q.length vcap) Q:=h0.below (hb.mono hB1);obtain ⟨oa,oc,rfl⟩:=aS ho;have IH:=aA ih;clear ih;by_cases hbig:500<out.length
  ·have hbi:(500:Int)<(out.length:Int):=by omega
   have HO:=aA ho;clear htab hc0 ho;go_enter Tryz.func45,Tryz.ntmps45;go_wp2;go_ret;have e:(out++m).take 501=out:=by rw [zv (by omega),zi hout]
   exact ⟨_,rfl,by rw [e];exact HO.out,Below.refl _ _⟩
  ·have hbi:¬(500:Int)<(out.length:Int):=by omega
   have hcell:=htab.cell;obtain ⟨g,rfl,q1,q2,q3,q4⟩:=hc0 row hr;have e4:=Below.at' hb hB1 q4;clear q1 q2 q3 q4;have hri:(row:Int)<(Q.length:Int):=by omega
   have CH:=aA (aHo B tp _ Q Q[row].1.cls w htab hf);have HE:=aA he;have HC0:=aA hc0;have HO:=aA ho;have HB:=aA hb;have HTAB:=aA htab;have HQR:=aA (show Q[row].1.cls=Q[row].1.cls from rfl);clear htab hc0 ho hb he;generalize hcls:Q[row].1.cls=cl at *;have HCL:=aA hcls;clear hcls HQR;go_enter Tryz.func45,Tryz.ntmps45;go_upto_region 5 with (first
    | (go_at_call 71;refine (aB CH).mono ?_;rintro e w1 ⟨r,rfl,hh,d,rfl⟩)
    | go_in)
   clear CH;rcases hh with ⟨rfl,hno⟩ | ⟨h,rfl,hhl,hhc,hhv⟩
   ·have HM:=aA (aU4 hr HE.out (by rw [HCL.out];exact hno));rw [HCL.out] at HM;clear hno;have ho:=HO.out;go_wp2_with (first
     | (at_builtin;refine wpList_append_own _ rfl (.tmp 27) (.tmp 30) 37 rfl B1 36 iN (.agg #[.string ⟨#[]⟩,.int .i64 0]) 2 24 z2 hN hN0 hN1 hN2 rfl (by decide) _ _ _ rfl ((aF5 ho d).alloc _) ⟨w.heap.size,0,none⟩ 1 1 [.string ⟨#[]⟩,.int .i64 cl] rfl rfl ?d1 ?d2 ?d3 ?d4 ?d5 ?_)
     | go_in)
    case d1=>first | exact gK _ _ _ _ _ (by first | rfl | simp) | exact aIr (w.drewN d) _ _ 36 w.heap.size rfl
    case d2=>first | exact rW _ _ | exact ⟨rfl,rfl⟩
    case d3=>unfold maxLen;omega
    case d4=>omega
    case d5=>first | omega | (simp;omega)
    intro v' w1 ho' hg' _;clear ho;have HO':=aA ho';have HG':=aA hg';clear ho' hg';go_wp2;go_ret;refine ⟨_,rfl,?_,?_⟩
    ·have:=HO'.out;unfold fP;rw [HM.out,aIp _ (by simp;omega),zk,rS];exact this
    ·exact aIq HO.out hBw HG'.out
   ·obtain ⟨l,hml,hel⟩:=aU5 hok hD hNC hr hhl (by rw [HCL.out];exact hhc) hhv HE.out;obtain ⟨ex,x1,x2,x3⟩:=aJn hD hNC hok.arity (λi j hij=>(aCo hok i j).2 hij) hel;obtain ⟨g',hg',q1,q2,q3,q4⟩:=HC0.out h hhl;simp at hg';subst hg';have f1:=Below.at' HB.out hB1 q1;have f2:=Below.at' HB.out hB1 q2;have f3:=Below.at' HB.out hB1 q3;clear q1 q2 q3 q4;have hhi:(h:Int)<(Q.length:Int):=by omega
    have hh0:¬(h:Int)<0:=by omega
    have HPT:=aA (h0.parts Q[h] (zx _));have hpl:=hps Q[h] (zx _);have HPP:=aA (hok.parts h hhl);clear hhc hhv hel;have HML:=aA hml;have HX1:=aA x1;have HX2:=aA x2;have HX3:=aA x3;clear hml x1 x2 x3;generalize Q[h].1.parts=pl at *;generalize hq2:Q[h].2=pv at *;generalize Q[h].1.node=nd at *;obtain ⟨s,x⟩:=nd;simp only at f1 f2;obtain ⟨pa,pc,rfl,hpc⟩:=sO HPT.out;have HPC:=aA hpc;have HPV:=aA hq2;clear hpc hq2;have ho:=HO.out;go_wp2_with (first
     | (at_builtin;refine wpList_append_own _ rfl (.tmp 32) (.tmp 41) 37 rfl B1 36 iN (.agg #[.string ⟨#[]⟩,.int .i64 0]) 2 24 z2 hN hN0 hN1 hN2 rfl (by decide) _ _ _ rfl ((aF5 ho d).alloc _) ⟨w.heap.size,0,none⟩ 1 1 [.string s,.int .i64 x] rfl rfl ?d1 ?d2 ?d3 ?d4 ?d5 ?_)
     | go_in)
    case d1=>first | exact gK _ _ _ _ _ (by first | rfl | simp) | exact aIr (w.drewN d) _ _ 36 w.heap.size rfl
    case d2=>first | exact rW _ _ | exact ⟨rfl,rfl⟩
    case d3=>unfold maxLen;omega
    case d4=>omega
    case d5=>first | omega | (simp;omega)
    intro v' w1 ho' hg' _;have hb1:Below B1 w w1:=aIq ho hBw hg';clear ho f1 f2 f3 e4 hcell;have HO':=aA ho';have HB1':=aA hb1;clear ho' hg' hb1;go_wp2;go_loopw [1,9] (λlv i wr=>∃k:Nat,k<=pl.length/\i=.int .i64 k/\fP wr B1 lv ((out++[(s,x)]++((pl.take k).map ex).flatten).take 501)/\Below B1 w wr) (λ_ i _=>pl.length-(intOf i).toNat);case atStart=>
     refine ⟨0,z5 _,rfl,?_,HB1'.out⟩;unfold fP;rw [List.take_zero,z3,List.flatten_nil,List.append_nil,aIp _ (by simp;omega),zk,rS];exact HO'.out
    case round=>
     obtain ⟨k,hk,rfl,hor,hbr⟩:=hrel;have hbw:=HB.out.trans hbr;have htr:bU wr B tp _ Q:=h0.below (hbw.mono hB1);have hcell:=htr.cell;obtain ⟨g',hg',q1,q2,q3,q4⟩:=HC0.out h hhl;simp at hg';subst hg';have f3:=Below.at' hbw hB1 q3;rw [show (Q[h].2:Value)=.slice pa pl.length pc from HPV.out] at f3;clear q1 q2 q3 q4 htr;have HOR:=aA hor;have HBR:=aA hbr;obtain ⟨ra,rn,rc,rfl⟩:=hor.shape;clear hor hbr;by_cases hlt:k<pl.length
     ·have hlti:(k:Int)<(pl.length:Int):=by omega
      obtain ⟨g2,rfl,e2⟩:=HPC.out k hlt;have e3:=Below.at' hbw hB1 e2;have CN:=aA (IH.out pl[k] (ex pl[k]) _ _ wr (by have:=HX2.out pl[k] (zx _);have:=HML.out;have:=congrArg List.length this;simp at this;omega) (HX1.out _ (zx _)) (HPP.out _ (zx _)) hbw (zt hBw HBR.out.size) HOR.out (by simp;omega));have HK1:Hid ((pl.take (k+1)).map ex=(pl.take k).map ex++[ex pl[k]]):=aA (by rw [List.take_succ_eq_append_getElem hlt,zh];rfl);have HCUR:Hid ((((out++[(s,x)]++((pl.take k).map ex).flatten).take 501)++ex pl[k]).take 501=(out++[(s,x)]++((pl.take (k+1)).map ex).flatten).take 501):=aA (by rw [aU3,HK1.out,List.flatten_append];simp);clear e2 HOR HK1;generalize ((out++[(s,x)]++((pl.take k).map ex).flatten).take 501)=cur at *;generalize pl[k]=pk at *;go_wp2_with (first
       | (go_at_call 45;refine (aB CN).mono ?_;rintro e w2 ⟨v2,rfl,ho2,hb2⟩;have HO2:=aA ho2;have HB2:=aA hb2;obtain ⟨a2,n2,c2,rfl⟩:=ho2.shape;clear ho2 hb2)
       | go_in)
      go_roundw;case rel=>exact ⟨k+1,by omega,by go_num,by rw [<-HCUR.out];exact HO2.out,HBR.out.trans HB2.out⟩
      case measure=>simp [intOf];omega
     ·have hke:k=pl.length:=by omega
      subst hke;have hlti:¬((pl.length:Int)<(pl.length:Int)):=by omega
      go_wp2;go_ret;refine ⟨_,rfl,?_,HBR.out⟩;have:=HOR.out;rw [List.take_length,HX3.out] at this;rw [HML.out,show out++(s,x) :: l=out++[(s,x)]++l by simp];exact this
theorem aU7(w:World)(ty:TypeId)(base:Nat)(v:Value)(P:Tb)(hown:w.ownsRow base 94 4 v P.length (fC P))(hn:P.length<=1000000)(hbase:base<=w.heap.size)(g c:Nat)(nd:Nd)(k:Nat)
  (u0:w.cell? ⟨g,0,none⟩=some (.string nd.1)) (u1:w.cell? ⟨g,1,none⟩=some (.int .i64 nd.2)) (u2:w.cell? ⟨g,2,none⟩=some (.slice none 0 0)) (u3:w.cell? ⟨g,3,none⟩=some (.int .i64 k)) :
  ∃v' w',(Builtin.append_ #[61,61] ty #[v,.slice (some ⟨g,0,none⟩) 1 c]).run zp w=.ok v' w'/\w'.ownsRow base 94 4 v' (P.length+1) (fC P++[.string nd.1,.int .i64 nd.2,.slice none 0 0,.int .i64 k])/\w.grownBy w' v.ownBlock/\aX w v v':=by
 obtain ⟨i,hi,hz,hss,hy⟩:=info_parts aTz;have hnews:∀(j:Nat) (u':Value),[Value.string nd.1,zc .i64 nd.2,z6 none 0 0,zc .i64 k][j]?=some u'->w.cell? ((⟨g,0,none⟩ : Addr).add j)=some u':=by
  intro j u' hj;have hj0:=(ze.1 hj).1;simp at hj0;match j,hj0,hj with
  | 0,_,hj=>simp at hj;subst hj;exact u0
  | 1,_,hj=>simp at hj;subst hj;exact u1
  | 2,_,hj=>simp at hj;subst hj;exact u2
  | 3,_,hj=>simp at hj;subst hj;exact u3
 have h1c:∀x∈[Value.string nd.1,zc .i64 nd.2,z6 none 0 0,zc .i64 k],x.oneCell'=true:=by intro x hx;simp at hx;rcases hx with rfl | rfl | rfl | rfl <;> rfl
 by_cases hv:v.ownBlock=none
 ·have hnil:v=.slice none 0 0/\P.length=0:=by
   obtain ⟨_,h | ⟨g,cap,cur,rfl,_⟩⟩:=hown
   ·exact h
   ·simp [zj] at hv
  obtain ⟨v',w',hr,h1,h2,h3⟩:=run_append_own (P:=zp) w w.heap.size 61 ty 94 i _ 4 56 zd hi hz hss hy rfl (by decide) v P.length (fC P) (by rw [hnil.1,hnil.2];have:fC P=[]:=(by rw [zu hnil.2];rfl);rw [this];exact zo _ _ _ _) ⟨g,0,none⟩ 1 c [.string nd.1,.int .i64 nd.2,.slice none 0 0,.int .i64 k] rfl hnews h1c (by unfold maxLen;omega) (by omega) (zz _);refine ⟨v',w',hr,dN h1 hbase,h2,?_⟩;cases hb:v'.ownBlock with
  | none=>exact zs (by rw [hb,hv])
  | some g'=>exact zm ⟨g',hb,(aT h1 g' hb).1⟩
 ·obtain ⟨v',w',hr,h1,h2,_⟩:=run_append_own (P:=zp) w base 61 ty 94 i _ 4 56 zd hi hz hss hy rfl (by decide) v P.length (fC P) hown ⟨g,0,none⟩ 1 c [.string nd.1,.int .i64 nd.2,.slice none 0 0,.int .i64 k] rfl hnews h1c (by unfold maxLen;omega) (by omega) hbase;refine ⟨v',w',hr,h1,h2,?_⟩;rcases wR w base 61 ty 94 i _ 4 56 zd hi hz hss hy (by decide) v P.length (fC P) hown hv ⟨g,0,none⟩ 1 c [.string nd.1,.int .i64 nd.2,.slice none 0 0,.int .i64 k] rfl hnews h1c (by unfold maxLen;omega) (by omega) hr with e | e
  ·exact zs e
  ·exact zm ⟨_,e,zz _⟩
theorem aIs{ops:Array Oper}{o:Oper}{a:Act}{w:World}{K:Act->World->Prop}{Q:Exit->Act->World->Prop}{E:Prop}(hgd:o.guard=none)(s x:Operand)
  (ho:o.op=.call {callee:=.builtin .append,args:=#[s,x],argTypes:=#[61,61]}) (base:Nat) (v:Value) (P:Tb) (hs:a.eval s=v) (hown:w.ownsRow base 94 4 v P.length (fC P)) (hn:P.length<=1000000) (hbase:base<=w.heap.size)
  (g c:Nat) (nd:Nd) (k:Nat) (hx:a.eval x=.slice (some ⟨g,0,none⟩) 1 c) (u0:w.cell? ⟨g,0,none⟩=some (.string nd.1)) (u1:w.cell? ⟨g,1,none⟩=some (.int .i64 nd.2)) (u2:w.cell? ⟨g,2,none⟩=some (.slice none 0 0)) (u3:w.cell? ⟨g,3,none⟩=some (.int .i64 k))
  (h:∀v' w',w'.ownsRow base 94 4 v' (P.length+1) (fC P++[.string nd.1,.int .i64 nd.2,.slice none 0 0,.int .i64 k])->w.grownBy w' v.ownBlock->aX w v v'->K (a.put o.dst v') w') :
  if Region.wanted o (yielded ops a.tmps)=true then Oper.wp zp o a w K Q else E:=by
 have hw:Region.wanted o (yielded ops a.tmps)=true:=by simp [Region.wanted,hgd]
 rw [if_pos hw];obtain ⟨v',w',hr,h1,h2,h3⟩:=aU7 w o.type base v P hown hn hbase g c nd k u0 u1 u2 u3;unfold Oper.wp execOp;simp only [ho,resolve,invoke,builtin,Sem.run_bind,Sem.run_pure,Result.andThen_ok,z4,List.map_cons,z3,hs,hx,hr];exact h v' w' h1 h2 h3
theorem aU8{W:World}{k:Nat}(hb:Below w.heap.size w W)(htab:bU w B tp v P)(hk:k<P.length)(hn:P[k].1.node=lR up nd)(hv:aF nd=true):pJ w B tp v P up (nd :: r) k r W v P:=
 ⟨htab.below hb,eI.old hv ⟨P[k].1,by rw [zn,zl hk];rfl,hn⟩ (eI.nil _ _),eF.below hb,aX.refl _ _,λp hp=>zs ⟨p,hp,rfl⟩,by simp⟩
structure aCp(w:World)(B tp bx:Nat)(v v3:Value)(P:Tb)(nd:Nd)(w4:World):Prop where
 tab:bU w4 B tp v3 (P++[(⟨nd,P.length,[]⟩,.slice none 0 0)])
 far:eF w w4 tp v
 moved:aX w v v3
 b0:w4.cell? ⟨bx,0,none⟩=some (.string nd.1)
 b1:w4.cell? ⟨bx,1,none⟩=some (.int .i64 nd.2)
 blt:bx<w4.heap.size
 vne:v3.ownBlock≠some bx
 tne:bx≠tp
theorem aIt{W w3:World}{bx:Nat}{X:Obj}(hb:Below w.heap.size w W)(htab:bU w B tp v P)(hbx:w.heap.size<=bx)(k0:W.cell? ⟨bx,0,none⟩=some (.string nd.1))(k1:W.cell? ⟨bx,1,none⟩=some (.int .i64 nd.2))
  (hg:(W.drew.alloc X).grownBy w3 v.ownBlock) (ho:w3.ownsRow B 94 4 v3 (P.length+1) (fC P++[.string nd.1,.int .i64 nd.2,.slice none 0 0,.int .i64 P.length])) (hm:aX (W.drew.alloc X) v v3) :
  aCp w B tp bx v v3 P nd (w3.setCell ⟨tp,0,none⟩ v3)/\w3.cell? ⟨tp,0,none⟩=some v/\w3.frozen? ⟨tp,0,none⟩=false:=by
 have hb2:Below W.heap.size W (W.drew.alloc X):=(aI (w1:=W.drew) ⟨1,rfl⟩).alloc (zz _) X;have hbA:Below w.heap.size w (W.drew.alloc X):=hb.trans (hb2.mono hb.size);have ht:=htab.below hbA;have htp:tp<w.heap.size:=(zy.1 htab.box).1;obtain ⟨g1,g2⟩:=ht.grow hg ho;have hvb:v.ownBlock≠some bx:=λe=>by have:=(aT htab.row bx e).2;omega
 have j0:=Below.at' hb2 (zz _) k0;have j1:=Below.at' hb2 (zz _) k1;have hbl:bx<W.heap.size:=zw _ _ k0;have hsz:=hg.size;have hsA:(W.drew.alloc X).heap.size=W.heap.size+1:=by simp
 refine ⟨⟨g1,(eF.below hbA).trans (aX.refl _ _) g2,?_,?_,?_,?_,?_,by omega⟩,?_,?_⟩
 ·rcases hm with e | ⟨g,e,hgg⟩
  ·exact zs e
  ·exact zm ⟨g,e,zt hbA.size hgg⟩
 ·exact fY (hg.cell j0 (λe=>hvb e.symm)) (by simp;omega)
 ·exact fY (hg.cell j1 (λe=>hvb e.symm)) (by simp;omega)
 ·simp [World.setCell];omega
 ·intro e;rcases hm with e' | ⟨g,e',hgg⟩
  ·exact hvb (by rw [<-e',e])
  ·rw [e] at e';simp at e';omega
 ·exact hg.cell ht.cell (λe=>ht.ne e.symm)
 ·rw [World.frozen?_of_block (hg.block tp (zy.1 ht.box).1 (λe=>ht.ne e.symm))];exact ht.soft
theorem aU9{w4:World}{bx:Nat}(h:aCp w B tp bx v v3 P (lR up nd) w4)(hv:aF nd=true)(hno:∀j (hj:j<P.length),P[j].1.node≠lR up nd):pJ w B tp v P up (nd :: r) P.length r w4 v3 (P++[(⟨lR up nd,P.length,[]⟩,.slice none 0 0)]):=by
 have hl:(P.map zq).length=P.length:=by simp
 have hp:=eI.new (R:=P.map zq) (s:=r) (k:=0) hv (λx hx=>by
  obtain ⟨p,hp,rfl⟩:=List.mem_map.1 hx;obtain ⟨j,hj,rfl⟩:=List.getElem_of_mem hp;exact hno j hj) (eI.nil _ _)
 rw [hl] at hp;refine ⟨h.tab,by rw [zh];exact hp,h.far,h.moved,λp hp=>?_,by simp;omega⟩;rcases zb.1 hp with hp | hp
 ·exact zs ⟨p,hp,rfl⟩
 ·simp at hp;subst hp;exact zm (zs rfl)
theorem aUa(w:World)(ty:TypeId)(base:Nat)(v:Value)(n:Nat)(xs:List Value)(hown:w.ownsRow base 3 1 v n xs)(hn:n<=1000000)(hbase:base<=w.heap.size)(g c:Nat)(u:Int)(hu:w.cell? ⟨g,0,none⟩=some (.int .i64 u)) :
  ∃v' w',(Builtin.append_ #[25,25] ty #[v,.slice (some ⟨g,0,none⟩) 1 c]).run zp w=.ok v' w'/\w'.ownsRow base 3 1 v' (n+1) (xs++[.int .i64 u])/\w.grownBy w' v.ownBlock/\aX w v v':=by
 by_cases hv:v.ownBlock=none
 ·obtain ⟨i,hi,hz,hs,hy⟩:=info_parts pB;have hnil:v=.slice none 0 0/\n=0:=by
   obtain ⟨_,h | ⟨g,cap,cur,rfl,_⟩⟩:=hown
   ·exact h
   ·simp [zj] at hv
  obtain ⟨rfl,rfl⟩:=hnil;have hxs:xs=[]:=zu (by have:=hown.1;simpa using this);subst hxs;have hnews:∀(j:Nat) (u':Value),[zc .i64 u][j]?=some u'->w.cell? ((⟨g,0,none⟩ : Addr).add j)=some u':=by
   intro j u' hj;have hj0:j=0:=by have:=(ze.1 hj).1;simp at this;exact this
   subst hj0;simp at hj;subst hj;exact hu
  obtain ⟨v',w',hr,h1,h2,h3⟩:=run_append_own (P:=zp) w w.heap.size 25 ty 3 i (.int .i64 0) 1 8 Tryz.underlying25 hi hz hs hy rfl (by decide) (.slice none 0 0) 0 [] (zo _ _ _ _) ⟨g,0,none⟩ 1 c [.int .i64 u] rfl hnews (aB8 u) (by unfold maxLen;omega) (by omega) (zz _);refine ⟨v',w',hr,dN h1 hbase,h2,?_⟩;cases hb:v'.ownBlock with
  | none=>exact zs (by rw [hb,hv])
  | some g'=>exact zm ⟨g',hb,(aT h1 g' hb).1⟩
 ·obtain ⟨v',w',h1,h2,h3,h4⟩:=aJ0 w ty base v n xs hown hv hn hbase g c u hu;refine ⟨v',w',h1,h2,h3,?_⟩;rcases h4 with e | e
  ·exact zs e
  ·exact zm ⟨_,e,zz _⟩
theorem aCq{ops:Array Oper}{rest:List Oper}{o:Oper}{a:Act}{Q:Exit->Act->World->Prop}(hgd:o.guard=none)(s x:Operand)(ho:o.op=.call {callee:=.builtin .append,args:=#[s,x],argTypes:=#[25,25]})
  (base:Nat) (v:Value) (n:Nat) (xs:List Value) (hs:a.eval s=v) (hown:w.ownsRow base 3 1 v n xs) (hn:n<=1000000) (hbase:base<=w.heap.size) (g c:Nat) (u:Int) (hx:a.eval x=.slice (some ⟨g,0,none⟩) 1 c) (hu:w.cell? ⟨g,0,none⟩=some (.int .i64 u))
  (h:∀v' w',w'.ownsRow base 3 1 v' (n+1) (xs++[.int .i64 u])->w.grownBy w' v.ownBlock->aX w v v'->wpList zp ops Q rest (a.put o.dst v') w'):wpList zp ops Q (o :: rest) a w:=by
 refine wpList_plain hgd λK hK'=>?_
 obtain ⟨v',w',hr,h1,h2,h3⟩:=aUa w o.type base v n xs hown hn hbase g c u hu;unfold Oper.wp execOp;simp only [ho,resolve,invoke,builtin,Sem.run_bind,Sem.run_pure,Result.andThen_ok,z4,List.map_cons,z3,hs,hx,hr];exact hK' _ _ (h v' w' h1 h2 h3)
theorem aUb{w4 wr:World}{bx g cap:Nat}{pv:Value}{P':Tb}{r':List Nd}{ps:List Nat}(h:aCp w B tp bx v v3 P nd w4)(hv:aF nd=false)(hl:sK w4 B tp v3 (P++[(⟨nd,P.length,[]⟩,.slice none 0 0)]) up r (bJ nd) r' pv ps wr (.slice (some ⟨g,0,none⟩) P'.length cap) P')(hk:P.length<P'.length) :
  pJ w B tp v P up (nd :: r) P.length r' (wr.setCell ⟨g,P.length*4+2,none⟩ pv) (.slice (some ⟨g,0,none⟩) P'.length cap) (P'.set P.length ({P'[P.length].1 with parts:=ps},pv)):=by
 have hln:(P.map zq).length=P.length:=by simp
 have hws:=h.far.size;have hown:wr.ownsRow B 3 1 pv ps.length (iP ps):=dN hl.own (zt (by have:=h.tab.high;have:=(zy.1 h.tab.box).1;omega) (zz _));have hp1:=hl.put;rw [zh] at hp1;have hp:=eI.name (R:=P.map zq) (n:=nd) (k:=0) (s:=r) (s1:=r') hv (by rw [hln];exact hp1) (eI.nil _ _);rw [hln] at hp;refine ⟨hl.tab.setParts _ hk ps pv hown,by rw [aU2 _ _ hk];exact hp,(h.far.trans h.moved hl.far).setV (h.moved.trans hl.moved hws) rfl,h.moved.trans hl.moved hws,λp hpm=>?_,?_⟩
 ·rcases zf hpm with hpm | rfl
  ·rcases hl.old p hpm with ⟨q,hq,e⟩ | e | ⟨g',e,hgg⟩
   ·rcases zb.1 hq with hq | hq
    ·exact zs ⟨q,hq,e⟩
    ·simp at hq;subst hq;rw [e];exact zm (zs rfl)
   ·exact zm (zs e)
   ·exact zm (zm ⟨g',e,by omega⟩)
  ·right;cases hb:pv.ownBlock with
   | none=>exact zs rfl
   | some g'=>exact zm ⟨g',rfl,by have:=(aT hl.own g' hb).1;omega⟩
 ·have:=hl.len;simp at this ⊢;omega
theorem eF.cell{u:Value}{p:Addr}(h:eF w w' tp v)(hc:w.cell? p=some u)(h1:p.block≠tp)(h2:v.ownBlock≠some p.block):w'.cell? p=some u:=by have hb:=h.block p.block (zw w p hc) h1 h2;rw [<-hc];unfold World.cell?;rw [hb]
theorem eI.ps_len{R:List Rw}{k:Nat}{s:List Nd}{R':List Rw}{ps:List Nat}{s':List Nd}(h:eI up R k s R' ps s'):ps.length=k:=by obtain ⟨g,hg⟩:=h.inv;rw [hg.ps,List.length_map,tD]
def aUc(w:World)(B tp:Nat)(v:Value)(P:Tb)(up:Int)(l:List Nd)(i q k i':Nat)(w':World):Prop:=
 i'<=l.length/\i<=i'/\aW (l.drop i') q=true/\∃(v':Value) (P':Tb),pJ w B tp v P up (l.drop i) k (l.drop i') w' v' P'
theorem aUd(B tp:Nat)(up:Int)(hup:0<=up/\up<=1000)(a:Option Addr)(ca:Nat)(l:List Nd)(hl60:l.length<=60)(hlow:∀p,a=some p->p.block<B) :
  ∀(n i q:Nat) (v:Value) (P:Tb) (w:World),(l.drop i).length<=n->aW (l.drop i) (q+1)=true->cU w a l->bU w B tp v P->P.length+(l.drop i).length<=100000->B<=w.heap.size->
  Calls zp 25 #[.pointer (some ⟨tp,0,none⟩),.slice a l.length ca,.int .i64 i,.int .i64 up] w λe w'=>∃k i':Nat,e=.returned (.tuple #[.int .i64 k,.int .i64 i'])/\aUc w B tp v P up l i q k i' w':=by
 intro n;induction n with
 | zero=>
  intro i q v P w hn ht;have:=zu (Nat.le_zero.1 hn);rw [this] at ht;simp [aW] at ht
 | succ n ih=>
  intro i q v P w hn ht hN htab hP hB;have hi:i<l.length:=by apply Nat.lt_of_not_le;intro h;rw [List.drop_eq_nil_of_le h] at ht;simp [aW] at ht
  obtain ⟨b,o,rfl,e1,e2⟩:=hN.cell i hi;have hd:l.drop i=l[i] :: l.drop (i+1):=List.drop_eq_getElem_cons hi;rw [hd,uY,Bool.and_eq_true] at ht;obtain ⟨hok,ht⟩:=ht;have hs:=hN.short i hi;have hii:(i:Int)<(l.length:Int):=by omega
  have hdl:(l.drop i).length=(l.drop (i+1)).length+1:=by rw [hd];rfl
  have HD:=aA hd;have HT:=aA ht;have HOK:=aA hok;have HN:=aA hN;have HTAB:=aA htab;have IH:=aA ih;obtain ⟨va,vc,rfl⟩:=aS htab.row;have hcell:=htab.cell;have htp:tp<w.heap.size:=(zy.1 htab.box).1;generalize l[i]=nd at *;obtain ⟨s,x⟩:=nd;simp only at e1 e2 hs;clear hd ht hok hN htab ih;by_cases hv:s.toList.isEmpty=true
  ·have hvb:aF (s,x)=true:=by simpa [aF] using hv
   have hx:0<=x/\x<60:=by have:=HOK.out;unfold eA at this;rw [if_pos hvb] at this;simpa using this
   obtain ⟨hx0,hx1⟩:=hx;obtain ⟨hu0,hu1⟩:=hup;have HV:=aA hvb;clear hvb;go_enter Tryz.func25,Tryz.ntmps25;go_wp2;obtain ⟨y0,y1⟩:=tQ w (.string s) (.int .i64 (x+up)) 36;have hbA:Below w.heap.size w (w.alloc (.cells #[.string s,.int .i64 (x+up)] 36)):=(Below.refl _ _).alloc (zz _) _;generalize w.alloc (.cells #[.string s,.int .i64 (x+up)] 36)=W1 at *;have HBA:=aA hbA;clear hbA e1 e2;have hc0:=HTAB.out.shape;obtain ⟨va',vc',hve,hsh⟩:=hc0;simp at hve;obtain ⟨rfl,rfl⟩:=hve;have HSH:=aA hsh;clear hsh;have hcell1:=Below.at' HBA.out (zz _) hcell;clear hcell;go_loopw [11] (λi wr=>∃k:Nat,k<=P.length/\i=.int .i64 k/\(∀j (hj:j<k) (hj':j<P.length),P[j].1.node≠(s,x+up))/\∃d,wr=W1.drewN d) (λi _=>P.length-(intOf i).toNat);case atStart=>exact ⟨0,z5 _,rfl,λj hj=>by omega,0,rfl⟩
   case round=>
    obtain ⟨k,hk,rfl,hno,d,rfl⟩:=hrel;have HNO:=aA hno;clear hno;by_cases hlt:k<P.length
    ·have hlti:(k:Int)<(P.length:Int):=by omega
     obtain ⟨g,rfl,q1,q2,q3,q4⟩:=HSH.out k hlt;have f1:=Below.at' HBA.out (zz _) q1;have f2:=Below.at' HBA.out (zz _) q2;have hnb:=rQ P[k].1.node (s,x+up);have g9:=tJ;have q9:=rR P[k].1.node.1 s P[k].1.node.2 (x+up);clear q1 q2 q3 q4;simp only at hnb;by_cases he:P[k].1.node=(s,x+up)
     ·rw [decide_eq_true he] at hnb;have HE:=aA he;clear he;go_wp2;go_quiet (fail);go_wp2;go_ret2;refine ⟨k,i+1,aBz rfl (by go_num),by omega,by omega,?_,.slice (some ⟨g,0,none⟩) P.length vc,P,?_⟩
      ·have:=HT.out;rw [oJ HV.out] at this;exact this
      ·rw [HD.out];exact aU8 (HBA.out.trans ((aI (by first | exact jZ _ _ _ | exact ⟨_,rfl⟩)).mono HBA.out.size)) HTAB.out hlt HE.out HV.out
     ·rw [decide_eq_false he] at hnb;have HE:=aA he;clear he;go_wp2;go_quiet (fail);go_wp2;go_roundw;case rel=>
       refine ⟨k+1,by omega,by go_num,λj hj hj'=>?_,(by first | exact jZ _ _ _ | exact ⟨_,rfl⟩)⟩;by_cases hjk:j<k
       ·exact HNO.out j hjk hj'
       ·have:j=k:=by omega
        subst this;exact HE.out
      case measure=>simp [intOf];omega
    ·have hke:k=P.length:=by omega
     subst hke;have hlti:¬((P.length:Int)<(P.length:Int)):=by omega
     have hb2:Below w.heap.size w (W1.drewN d):=HBA.out.trans ((aI ⟨d,rfl⟩).mono HBA.out.size);have y0':(W1.drewN d).cell? ⟨w.heap.size,0,none⟩=some (.string s):=y0;have y1':(W1.drewN d).cell? ⟨w.heap.size,1,none⟩=some (.int .i64 (x+up)):=y1;have hc2:(W1.drewN d).cell? ⟨tp,0,none⟩=some (.slice va P.length vc):=hcell1;have hbs:=hb2.size;have hbl:=zw _ _ y0';clear y0 y1 hcell1;generalize W1.drewN d=W2 at *;have HB2:=aA hb2;have hrow:W2.drew.ownsRow B 94 4 (.slice va P.length vc) P.length (fC P):=(HTAB.out.below hb2).row;clear hb2;have hcX:∀X,(W2.alloc X).cell? ⟨tp,0,none⟩=some (.slice va P.length vc):=λX=>Below.at' ((Below.refl W2.heap.size W2).alloc (zz _) X) (zz _) hc2
     go_wp2_with fail;go_region_law (refine aIs (by rfl) _ _ (by rfl) B _ P (by rfl) (hrow.alloc _) (by omega) (by simp;omega) W2.heap.size 1 (s,x+up) P.length (by rfl) (by simp) (by simp) (by simp) (by simp) ?_;intro v3 w3 ho3 hg3 hm3;obtain ⟨hR,d3,f3⟩:=aIt (nd:=(s,x+up)) HB2.out HTAB.out (zz _) y0' y1' hg3 ho3 hm3;obtain ⟨va3,n3,vc3,rfl⟩:=kB ho3;have HR:=aA hR;clear ho3 hg3 hm3 hR);all_goals
      have z0:=HR.out.b0;have z1:=HR.out.b1;clear d3 f3 hcX;generalize w3.setCell ⟨tp,0,none⟩ (.slice va3 n3 vc3)=w4 at *;go_wp2;go_ret2;refine ⟨P.length,i+1,aBz rfl (by go_num),by omega,by omega,?_,.slice va3 n3 vc3,P++[(⟨lR up (s,x),P.length,[]⟩,.slice none 0 0)],?_⟩
      ·have:=HT.out;rw [oJ HV.out] at this;exact this
      ·rw [HD.out];exact aU9 (nd:=(s,x)) HR.out HV.out (λj hj=>HNO.out j hj hj)
  ·have hv':s.toList.isEmpty=false:=by simpa using hv
   have hvb:aF (s,x)=false:=by simpa [aF] using hv
   have hx:0<=x/\x<=5:=by have:=HOK.out;unfold eA at this;rw [if_neg (by rw [hvb];simp)] at this;simp at this;exact this.2
   obtain ⟨m,rfl⟩:=Int.eq_ofNat_of_zero_le hx.1;have hm5:m<=5:=by omega
   have hw:bJ (s,(m:Int))=m:=by simp [bJ,hvb]
   rw [hw] at HT;have HW:=aA hw;have HV:=aA hvb;clear hvb hx hw hv;go_enter Tryz.func25,Tryz.ntmps25;go_wp2_with fail;obtain ⟨y0,y1⟩:=tQ w (.string s) (.int .i64 m) 36;have hbA:Below w.heap.size w (w.alloc (.cells #[.string s,.int .i64 m] 36)):=(Below.refl _ _).alloc (zz _) _;generalize w.alloc (.cells #[.string s,.int .i64 m] 36)=W2 at *;have hc2:=Below.at' hbA (zz _) hcell;have hbs:=hbA.size;have hbl:=zw _ _ y0;have hrow:W2.drew.ownsRow B 94 4 (.slice va P.length vc) P.length (fC P):=(HTAB.out.below hbA).row;have HB2:=aA hbA;clear hbA e1 e2 hcell;have hcX:∀X,(W2.alloc X).cell? ⟨tp,0,none⟩=some (.slice va P.length vc):=λX=>Below.at' ((Below.refl W2.heap.size W2).alloc (zz _) X) (zz _) hc2
   go_region_law (refine aIs (by rfl) _ _ (by rfl) B _ P (by rfl) (hrow.alloc _) (by omega) (by simp;omega) W2.heap.size 1 (s,(m:Int)) P.length (by rfl) (by simp) (by simp) (by simp) (by simp) ?_;intro v3 w3 ho3 hg3 hm3;obtain ⟨hR,d3,f3⟩:=aIt (nd:=(s,(m:Int))) HB2.out HTAB.out (zz _) y0 y1 hg3 ho3 hm3;obtain ⟨va3,n3,vc3,rfl⟩:=kB ho3;have HR:=aA hR;clear ho3 hg3 hm3 hR);all_goals
    have z0:=HR.out.b0;clear d3 f3 y0 y1 hc2 hbl hrow hbs hcX;generalize w3.setCell ⟨tp,0,none⟩ (.slice va3 n3 vc3)=w4 at *;go_wp2;have z1:=HR.out.b1;have hbx:=HR.out.blt;have hP0:(P++[((⟨(s,(m:Int)),P.length,[]⟩ : Rw),z6 none 0 0)]).length=P.length+1:=by simp
    go_loopw [2,13,14] (λat' pv c wr=>∃(j u:Nat) (ps:List Nat) (v':Value) (P':Tb),j<=m/\c=.int .i64 j/\at'=.int .i64 u/\i+1<=u/\u<=l.length/\aW (l.drop u) (q+(m-j))=true/\sK w4 B tp (.slice va3 n3 vc3) (P++[(⟨(s,(m:Int)),P.length,[]⟩,.slice none 0 0)]) up (l.drop (i+1)) j (l.drop u) pv ps wr v' P') (λ_ _ c _=>m-(intOf c).toNat);case atStart=>exact ⟨0,i+1,[],_,_,z5 _,rfl,by go_num,zz _,by omega,HT.out,sK.start HR.out.tab⟩
    case round=>
     obtain ⟨j,u,ps,v',P',hj,rfl,rfl,hiu,hul,htu,hL⟩:=hrel;have hbw:Below B w wr:=(HR.out.far.low HTAB.out.high (λk e=>(aT HTAB.out.row k e).1) hB).trans (hL.far.low HR.out.tab.high (λk e=>(aT HR.out.tab.row k e).1) (zt hB HR.out.far.size));have hz1:wr.cell? ⟨w.heap.size,1,none⟩=some (.int .i64 m):=hL.far.cell z1 HR.out.tne HR.out.vne;have hlen:=hL.len;rw [hP0] at hlen;have hpsl:=hL.put.ps_len;have hps:ps.length<=1000000:=by omega
     have HL:=aA hL;by_cases hjm:j<m
     ·have hjmi:(j:Int)<(m:Int):=by omega
      have htu':aW (l.drop u) ((q+(m-j-1))+1)=true:=by rw [show q+(m-j-1)+1=q+(m-j) by omega];exact htu
      have hlu:(l.drop u).length<=n:=by simp at hdl hn ⊢;omega
      have CP:=aA (IH.out u (q+(m-j-1)) v' P' wr hlu htu' (HN.out.lowB hlow hbw) hL.tab (by omega) (zt hB hbw.size));obtain ⟨pa,pn,pc,rfl⟩:=kB hL.own;have hw4r:=HL.out.far.size;clear hL htu htu' hpsl hlen hlu;go_wp2_with (first
       | (at_builtin;refine aCq rfl (.tmp 89) (.tmp 91) rfl w4.heap.size _ ps.length (iP ps) rfl (HO5.out.alloc _) hps (by simp;omega) w5.heap.size 1 k rfl (by simp) ?_;intro pv6 w6 ho6 hg6 hm6;have HNX:=aA ((HL.out.next HPR.out).2 hg6 ho6 hm6);obtain ⟨a6,n6,c6,rfl⟩:=kB ho6;clear ho6 hg6 hm6)
       | (go_at_call 25;refine (aB CP).mono ?_;rintro e w5 ⟨k,u',rfl,hu1,hu2,hu3,v5,P5,hpr⟩;have HPR:=aA hpr;have HO5:=aA (HL.out.next (X:=.map #[] 0) (w6:=w5) (pv6:=.slice none 0 0) hpr).1;have hw5:=hpr.far.size;have HU3:=aA hu3;clear hpr hu3)
       | go_in)
      go_roundw;case rel=>exact ⟨j+1,u',ps++[k],v5,P5,by omega,by go_num,rfl,by omega,hu1,by rw [show q+(m-(j+1))=q+(m-j-1) by omega];exact HU3.out,HNX.out⟩
      case measure=>simp [intOf];omega
     ·have hje:j=m:=by omega
      subst hje;have hlti:¬((j:Int)<(j:Int)):=by omega
      have hk':P.length<P'.length:=by have:=hL.put.len;rw [hP0] at this;omega
      have hki:(P.length:Int)<(P'.length:Int):=by omega
      obtain ⟨a',cap',rfl,hsh⟩:=hL.tab.shape;obtain ⟨g',rfl,q1,q2,q3,q4⟩:=hsh P.length hk';have hcl:=hL.tab.cell;have hfr:=hL.tab.frozen (P.length*4+2);obtain ⟨pa,pn,pc,rfl⟩:=kB hL.own;have HTU:=aA htu;have hpl:P'.length<=1000000:=by omega
      clear q1 q2 q4 hsh hL htu hlen hpsl;go_wp2;go_ret2;refine ⟨P.length,u,aBz rfl rfl,hul,by omega,?_,.slice (some ⟨g',0,none⟩) P'.length cap',_,by rw [HD.out];exact aUb HR.out HV.out (by rw [HW.out];exact HL.out) hk'⟩;have:=HTU.out;simpa using this
theorem bU.new(w:World):bU (w.alloc (.cells #[.slice none 0 0] 63)) w.heap.size w.heap.size (.slice none 0 0) []:=
 ⟨heap_alloc_new _ _,zz _,zo _ _ _ _,λp hp=>by simp at hp⟩
theorem aUe{E:Nat->Nat->Prop}{rep:Nat->Nat}{x:List Nat}{l:List Nd}(h:aL (aV Q) E rep x l):∀n∈l,n.1=⟨#[]⟩\/∃i,∃h:i<Q.length,n=Q[i].1.node:=by
 induction h with
 | nil=>intro n hn;simp at hn
 | var _ _ ih=>
  intro n hn;rcases List.mem_cons.1 hn with rfl | hn
  ·exact zs rfl
  ·exact ih n hn
 | @name i j r l h1 h2 _ ih=>
  intro n hn;obtain ⟨hj,_⟩:=oL h2;rcases List.mem_cons.1 hn with rfl | hn
  ·exact zm ⟨j,hj,mF Q j hj⟩
  ·exact ih n hn
theorem Rows.node{M:List Tg}{R:List Rw}{g:Nat->Nat}{T:Tb}(h:Rows M R g)(hT:T.map zq=R){i:Nat}(hi:i<T.length):∃t,t∈M/\T[i].1.node.1=t.2.1/\(aF t.2=true->T[i].1.parts=[])/\(aF t.2=false->T[i].1.parts.length=bJ t.2):=by
 have hTl:T.length=R.length:=by rw [<-hT];simp
 have hg:R[i]?=some T[i].1:=by rw [<-hT,zn,zl hi];rfl
 obtain ⟨p,hp,hgp⟩:=h.onto i (by omega);have hm:M[p]?=some M[p]:=zl hp;refine ⟨M[p],zx _,?_⟩;cases hv:aF M[p].2
 ·have:=h.name p _ hm hv;rw [hgp,hg] at this;simp at this;refine ⟨by rw [this],(λe=>by cases e),λ_=>?_⟩;rw [this];have hn:(M.map Prod.snd)[p]?=some M[p].2:=by rw [zn,hm];rfl
  simp only [List.length_map];rw [fM hn,tD]
 ·obtain ⟨r,h1,h2⟩:=h.var p _ hm hv;rw [hgp,hg] at h1;simp at h1;subst h1;refine ⟨by rw [h2],λ_=>(h.fresh i _ hg).2 (by rw [h2];exact hv),λe=>by cases e⟩
end Go.Proofs.YtcldkjcpofjmhaaGreatDoor
