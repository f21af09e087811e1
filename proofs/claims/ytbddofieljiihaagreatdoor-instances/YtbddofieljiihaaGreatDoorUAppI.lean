/- The program: steps of regions that draw their order: a call, an append. The program's terms while one more is put behind the others: plain words. Blocks that are neither numbers nor the terms themselves stay while terms are put. The program: one more term is put behind the others. The program: what join means; the parts of a place are asked for. -/
import Derived.Test.YtbddofieljiihaaGreatDoorUKeyI
import Derived.RangeFuncOwn
import Derived.Test.YtbddofieljiihaaGreatDoorUPartsI
import Derived.Test.YtbddofieljiihaaGreatDoorPTerm2I
import Derived.Deep.RegionHeld3
namespace Go.Proofs.YtbddofieljiihaaGreatDoor
open Go.RowKit Go.Shelf Go.WideMaps
set_option maxRecDepth 100000
theorem aAz {ops:Array Oper} {o:Oper} {a:Act} {w:World} {K:Act→World→Prop} {Q:Exit→Act→World→Prop} {E:Prop} (hgd:o.guard=none) (f:Nat) (ops':Array Operand) (ts:Array TypeId)
  (ho:o.op=.call {callee:=.value (.func f),args:=ops',argTypes:=ts}) (he:∀args w,(callFunc f args).run Tryz.prog w=.ok (.enter f args) w) (vals:Array Value) (hv:ops'.toList.map a.eval=vals.toList) {R:Ending→World→Prop} (hc:Calls Tryz.prog f vals w R)
  (h:∀e w',R e w'→∃v,e=.returned v∧K (a.put o.dst v) w') :
  if Region.wanted o (yielded ops a.tmps)=true then Oper.wp Tryz.prog o a w K Q else E:=by
 have hw:Region.wanted o (yielded ops a.tmps)=true:=by simp [Region.wanted,hgd]
 rw [if_pos hw]
 have hr:(execOp a.eval o).run Tryz.prog w=.ok (.enter f vals) w:=by
  have hv:ops'.map a.eval=vals:=by apply Array.ext';rw [Array.toList_map];exact hv
  subst hv
  simp [execOp,ho,resolve,invoke,he,Act.eval,Deferred.ofValue]
 unfold Oper.wp
 rw [hr,Oper.upon_enter]
 exact hc.mono fun e w' hR=>by
  obtain ⟨v,rfl,hk⟩:=h e w' hR
  exact hk
theorem aRk (w:World) (ty:TypeId) (base:Nat) (v:Value) (n:Nat) (xs:List Value) (hown:w.ownsRow base 3 1 v n xs) (hv:v.ownBlock≠none) (hn:n≤1000000) (hbase:base≤w.heap.size) (g c:Nat) (u:Int) (hu:w.cell? ⟨g,0,none⟩=some (.int .i64 u)) :
  ∃v' w',(Builtin.append_ #[31,31] ty #[v,.slice (some ⟨g,0,none⟩) 1 c]).run Tryz.prog w=.ok v' w'∧w'.ownsRow base 3 1 v' (n+1) (xs++[.int .i64 u])∧w.grownBy w' v.ownBlock∧(v'.ownBlock=v.ownBlock∨v'.ownBlock=some w.heap.size):=by
 obtain ⟨i,hi,hz,hs,hy⟩:=info_parts qM
 have hnews:∀(j:Nat) (u':Value),[Value.int .i64 u][j]?=some u'→w.cell? ((⟨g,0,none⟩ : Addr).add j)=some u':=by
  intro j u' hj
  have hj0:j=0:=by
   have:=(List.getElem?_eq_some_iff.1 hj).1
   simp at this
   exact this
  subst hj0
  simp at hj
  subst hj
  exact hu
 have h1:∀x∈[Value.int .i64 u],x.oneCell'=true:=by intro x hx;simp at hx;subst hx;rfl
 obtain ⟨v',w',hr,ho,hg,_⟩:=run_append_own (P:=Tryz.prog) w base 31 ty 3 i (.int .i64 0) 1 8 Tryz.underlying31 hi hz hs hy rfl (by decide) v n xs hown ⟨g,0,none⟩ 1 c [.int .i64 u] rfl hnews h1 (by unfold maxLen;omega) (by omega) hbase
 exact ⟨v',w',hr,ho,hg,aA0 w base 31 ty 3 i (.int .i64 0) 1 8 Tryz.underlying31 hi hz hs hy (by decide) v n xs hown hv ⟨g,0,none⟩ 1 c [.int .i64 u] rfl hnews h1 (by unfold maxLen;omega) (by omega) hr⟩
theorem aRl {ops:Array Oper} {o:Oper} {a:Act} {w:World} {K:Act→World→Prop} {Q:Exit→Act→World→Prop} {E:Prop} (hgd:o.guard=none) (s x:Operand)
  (ho:o.op=.call {callee:=.builtin .append,args:=#[s,x],argTypes:=#[31,31]}) (base:Nat) (v:Value) (n:Nat) (xs:List Value) (hs:a.eval s=v) (hown:w.ownsRow base 3 1 v n xs) (hv:v.ownBlock≠none) (hn:n≤1000000) (hbase:base≤w.heap.size)
  (g c:Nat) (u:Int) (hx:a.eval x=.slice (some ⟨g,0,none⟩) 1 c) (hu:w.cell? ⟨g,0,none⟩=some (.int .i64 u))
  (h:∀v' w',w'.ownsRow base 3 1 v' (n+1) (xs++[.int .i64 u])→w.grownBy w' v.ownBlock→(v'.ownBlock=v.ownBlock∨v'.ownBlock=some w.heap.size)→K (a.put o.dst v') w') :
  if Region.wanted o (yielded ops a.tmps)=true then Oper.wp Tryz.prog o a w K Q else E:=by
 have hw:Region.wanted o (yielded ops a.tmps)=true:=by simp [Region.wanted,hgd]
 rw [if_pos hw]
 obtain ⟨v',w',hr,h1,h2,h3⟩:=aRk w o.type base v n xs hown hv hn hbase g c u hu
 unfold Oper.wp execOp
 simp only [ho,resolve,invoke,builtin,Sem.run_bind,Sem.run_pure,Result.andThen_ok,List.map_toArray,List.map_cons,List.map_nil,hs,hx,hr]
 exact h v' w' h1 h2 h3
theorem uI {t:List Nd} {q:Nat} (h:aI t q=true):eA t:=by
 intro i n hi
 have hf:=aEo t q h
 have he:aF t q=t.length:=by have:=uB t q [] h;simpa using this
 have hil:=(List.getElem?_eq_some_iff.1 hi).1
 obtain ⟨m,h1,h2,_⟩:=aOy t q i hf (by omega)
 rw [hi] at h1
 simp at h1
 subst h1
 exact h2
theorem eA.append {L t:List Nd} (h:eA L) (k:eA t):eA (L++t):=by
 intro i n hi
 by_cases hlt:i < L.length
 ·rw [List.getElem?_append_left hlt] at hi
  rw [List.drop_append_of_le_length (by omega)]
  exact aEp _ _ _ (h i n hi)
 ·rw [List.getElem?_append_right (by omega)] at hi
  rw [List.drop_append,List.drop_eq_nil_of_le (by omega),List.nil_append,show i+1 - L.length=(i - L.length)+1 by omega]
  exact k _ n hi
theorem eA.one {L:List Nd} (h:eA L) {p:Nat} (hp:p < L.length):dL (L.drop p) 1:=by
 rw [List.drop_eq_getElem_cons hp]
 simp only [dL]
 rw [Nat.zero_add]
 exact h p _ (List.getElem?_eq_getElem hp)
theorem aRm {L t:List Nd} (h:eA L):dU (L++t)=dU L++(dU t).map (· + L.length):=by
 apply List.ext_getElem?
 intro p
 by_cases hp:p < L.length
 ·rw [sE _ _ (by simp;omega),List.getElem?_append_left (by rw [fM];exact hp),sE _ _ hp,List.drop_append_of_le_length (by omega),aA6 _ _ _ (h.one hp)]
 ·rw [List.getElem?_append_right (by rw [fM];omega),fM]
  by_cases hq:p - L.length < t.length
  ·rw [sE _ _ (by simp;omega),List.getElem?_map,sE _ _ hq,List.drop_append,List.drop_eq_nil_of_le (by omega),List.nil_append]
   simp
   omega
  ·rw [List.getElem?_eq_none (by rw [fM];simp;omega),List.getElem?_eq_none (by simp [fM];omega)]
def fW (M:List Tg) (o:Int) (t:List Nd) (k:Nat):List Nat:=(List.range k).map fun j=>lJ (M++(t.take j).map fun n=>(o,n)) o (t.getD j (⟨#[]⟩,0))
theorem aFu (M:List Tg) (o:Int) (t:List Nd) (k:Nat):(fW M o t k).length=k:=by simp [fW]
theorem aRn (M:List Tg) (o:Int) (t:List Nd) (k:Nat) (h:k < t.length):fW M o t (k+1)=fW M o t k++[lJ (M++(t.take k).map fun n=>(o,n)) o t[k]]:=by
 simp [fW,List.range_succ,h]
theorem aRo (M:List Tg) (o:Int) (t:List Nd) (k:Nat) (h:k < t.length):(M++(t.take k).map fun n=>(o,n))++[(o,t[k])]=M++(t.take (k+1)).map fun n=>(o,n):=by
 rw [List.take_succ_eq_append_getElem h,List.map_append,List.append_assoc];rfl
def eL (L t:List Nd) (j:Nat):List Nat:=dU L++(List.replicate j 0++((dU t).map (· + L.length)).drop j)
theorem aB0 (L t:List Nd) (j:Nat) (h:j≤t.length):(eL L t j).length=L.length+t.length:=by simp [eL,fM];omega
theorem aRp (L t:List Nd):eL L t t.length=dU L++List.replicate t.length 0:=by
 unfold eL
 rw [List.drop_eq_nil_of_le (by simp [fM]),List.append_nil]
theorem aRq {L t:List Nd} (h:eA L):eL L t 0=dU (L++t):=by rw [aRm h];simp [eL]
theorem xA (L t:List Nd) (j e:Nat) (h1:j≤e) (h2:e < t.length):(eL L t j)[L.length+e]?=some (L.length+(e+aF (t.drop e) 1)):=by
 unfold eL
 rw [List.getElem?_append_right (by rw [fM];omega),fM,List.getElem?_append_right (by simp;omega),List.getElem?_drop]
 rw [show j+(L.length+e - L.length - (List.replicate j 0).length)=e by simp;omega,List.getElem?_map,sE _ _ h2]
 simp
 omega
theorem aB1 (L t:List Nd) (j p:Nat) (h1:L.length≤p) (h2:p < L.length+j):(eL L t j)[p]?=some 0:=by
 unfold eL
 rw [List.getElem?_append_right (by rw [fM];omega),fM,List.getElem?_append_left (by simp;omega),List.getElem?_replicate,if_pos (by omega)]
theorem aRr (L t:List Nd) (q:Nat) (h:q < t.length):(eL L t (q+1)).set (L.length+q) (L.length+(q+aF (t.drop q) 1))=eL L t q:=by
 apply List.ext_getElem?
 intro p
 rw [List.getElem?_set]
 by_cases hp:L.length+q=p
 ·subst hp
  rw [if_pos rfl,if_pos (by rw [aB0 _ _ _ (by omega)];omega),xA _ _ _ _ (Nat.le_refl _) h]
 ·rw [if_neg hp]
  by_cases hlo:p < L.length
  ·unfold eL
   rw [List.getElem?_append_left (by rw [fM];exact hlo),List.getElem?_append_left (by rw [fM];exact hlo)]
  ·by_cases hmid:p < L.length+q
   ·rw [aB1 _ _ _ _ (by omega) (by omega),aB1 _ _ _ _ (by omega) (by omega)]
   ·by_cases hhi:p < L.length+t.length
    ·have e:p=L.length+(p - L.length):=by omega
     rw [e,xA _ _ _ _ (by omega) (by omega),xA _ _ _ _ (by omega) (by omega)]
    ·rw [List.getElem?_eq_none (by rw [aB0 _ _ _ (by omega)];omega),List.getElem?_eq_none (by rw [aB0 _ _ _ (by omega)];omega)]
structure bW (w:World) (B tb:Nat) (vn ve vl vs vm:Value) (L:List Nd) (E F:List Nat) (S:List Int):Prop where
 box:w.heap[tb]?=some (.cells #[vn,ve,vl,vs,vm] 176)
 high:B≤tb
 rn:w.ownsRow B 106 2 vn L.length (aP L)
 re:w.ownsRow B 3 1 ve E.length (mB E)
 rl:w.ownsRow B 3 1 vl F.length (mB F)
 rs:w.ownsRow B 3 1 vs S.length (S.map (Value.int .i64))
 ab:ve.ownBlock≠vl.ownBlock
 ac:ve.ownBlock≠vs.ownBlock
 bc:vl.ownBlock≠vs.ownBlock
 ne:ve.ownBlock≠none
 nl:vl.ownBlock≠none
 ns:vs.ownBlock≠none
section
variable {w:World} {B tb:Nat} {vn ve vl vs vm:Value} {L:List Nd} {E F:List Nat} {S:List Int}
theorem bW.below (h:bW w B tb vn ve vl vs vm L E F S) {wx:World} (k:Below w.heap.size w wx):bW wx B tb vn ve vl vs vm L E F S:=
 ⟨by rw [k.block tb (Array.getElem?_eq_some_iff.1 h.box).1,h.box],h.high,aZ h.rn k (Nat.le_refl _),aZ h.re k (Nat.le_refl _),aZ h.rl k (Nat.le_refl _),aZ h.rs k (Nat.le_refl _),h.ab,h.ac,h.bc,h.ne,h.nl,h.ns⟩
theorem bW.lt (h:bW w B tb vn ve vl vs vm L E F S):tb < w.heap.size:=(Array.getElem?_eq_some_iff.1 h.box).1
theorem bW.cells (h:bW w B tb vn ve vl vs vm L E F S):w.cell? ⟨tb,0,none⟩=some vn∧w.cell? ⟨tb,1,none⟩=some ve∧w.cell? ⟨tb,2,none⟩=some vl∧w.cell? ⟨tb,3,none⟩=some vs∧w.cell? ⟨tb,4,none⟩=some vm:=by
 simp [World.cell?,h.box]
theorem bW.soft (h:bW w B tb vn ve vl vs vm L E F S) (j:Nat):w.frozen? ⟨tb,j,none⟩=false:=by simp [World.frozen?,h.box]
theorem bW.grown (h:bW w B tb vn ve vl vs vm L E F S) {wx:World} {o:Option Nat} (hg:w.grownBy wx o) (h0:o≠some tb) (h1:vn.ownBlock=none∨vn.ownBlock≠o) (h2:ve.ownBlock=none∨ve.ownBlock≠o) (h3:vl.ownBlock=none∨vl.ownBlock≠o) (h4:vs.ownBlock=none∨vs.ownBlock≠o):bW wx B tb vn ve vl vs vm L E F S:=
 ⟨by rw [hg.block tb (Array.getElem?_eq_some_iff.1 h.box).1 (fun e=>h0 e.symm),h.box],h.high,cX h.rn hg h1,cX h.re hg h2,cX h.rl hg h3,cX h.rs hg h4,h.ab,h.ac,h.bc,h.ne,h.nl,h.ns⟩
theorem xB {w:World} {tb:Nat} {c0 c1 c2 c3 c4 x:Value} {T:TypeId} (h:w.heap[tb]?=some (.cells #[c0,c1,c2,c3,c4] T)) :
  ((w.setCell ⟨tb,0,none⟩ x).heap[tb]?=some (.cells #[x,c1,c2,c3,c4] T))∧((w.setCell ⟨tb,1,none⟩ x).heap[tb]?=some (.cells #[c0,x,c2,c3,c4] T))∧((w.setCell ⟨tb,2,none⟩ x).heap[tb]?=some (.cells #[c0,c1,x,c3,c4] T))∧((w.setCell ⟨tb,3,none⟩ x).heap[tb]?=some (.cells #[c0,c1,c2,x,c4] T)):=by
 have hlt:=(Array.getElem?_eq_some_iff.1 h).1
 have hv:=(Array.getElem?_eq_some_iff.1 h).2
 refine ⟨?_,?_,?_,?_⟩ <;> simp [World.setCell,Array.getElem?_modify,h]
theorem bW.stays (h:bW w B tb vn ve vl vs vm L E F S) (o:Obj) {w2:World} {r:Option Nat} (hg:(w.alloc o).grownBy w2 r) (hr:r≠some tb):w2.heap[tb]?=some (.cells #[vn,ve,vl,vs,vm] 176):=by
 rw [hg.block tb (by have:=h.lt;simp;omega) (fun e=>hr e.symm)]
 exact (h.below ((Below.refl _ _).alloc (Nat.le_refl _) o)).box
theorem xC {w:World} {tb:Nat} {c0 c1 c2 c3 c4:Value} {T:TypeId} (h:w.heap[tb]?=some (.cells #[c0,c1,c2,c3,c4] T)):w.cell? ⟨tb,0,none⟩=some c0∧w.cell? ⟨tb,1,none⟩=some c1∧w.cell? ⟨tb,2,none⟩=some c2∧w.cell? ⟨tb,3,none⟩=some c3∧∀j,w.frozen? ⟨tb,j,none⟩=false:=by
 simp [World.cell?,World.frozen?,h]
theorem bW.stays2 (h:bW w B tb vn ve vl vs vm L E F S) (o:Obj) {w2:World} (hg:(w.alloc o).grownBy w2 vl.ownBlock):w2.cell? ⟨tb,2,none⟩=some vl∧w2.frozen? ⟨tb,2,none⟩=false:=by
 have:=xC (h.stays o hg (dD h.rl h.box (by decide)))
 exact ⟨this.2.2.1,this.2.2.2.2 2⟩
theorem bW.stays0 (h:bW w B tb vn ve vl vs vm L E F S) (o:Obj) {w2:World} (hg:(w.alloc o).grownBy w2 vn.ownBlock):w2.cell? ⟨tb,0,none⟩=some vn∧w2.frozen? ⟨tb,0,none⟩=false:=by
 have:=xC (h.stays o hg (dD h.rn h.box (by decide)))
 exact ⟨this.1,this.2.2.2.2 0⟩
theorem bW.leads (h:bW w B tb vn ve vl vs vm L E F S) {w1:World} {v':Value} {x:Nat} (hg:w.grownBy w1 vl.ownBlock) (ho:w1.ownsRow B 3 1 v' (F.length+1) (mB F++[.int .i64 x])) (hw:v'.ownBlock=vl.ownBlock∨v'.ownBlock=some w.heap.size) :
  bW (w1.setCell ⟨tb,2,none⟩ v') B tb vn ve v' vs vm L E (F++[x]) S:=by
 have hb1:w1.heap[tb]?=some (.cells #[vn,ve,vl,vs,vm] 176):=by rw [hg.block tb h.lt (fun e=>dD h.rl h.box (by decide) e.symm),h.box]
 have hn:vn.ownBlock=none∨vn.ownBlock≠vl.ownBlock:=eV h.rn h.rl (by decide)
 refine ⟨(xB hb1).2.2.1,h.high,iZ (cX h.rn hg hn) hb1 (by decide),iZ (cX h.re hg (Or.inr h.ab)) hb1 (by decide),?_,iZ (cX h.rs hg (Or.inr fun e=>h.bc e.symm)) hb1 (by decide),?_,h.ac,?_,h.ne,?_,h.ns⟩
 ·have:=iZ (j:=2) (x:=v') ho hb1 (by decide)
  simpa [mB] using this
 ·rcases hw with e | e
  ·rw [e];exact h.ab
  ·rw [e];exact pW h.re
 ·rcases hw with e | e
  ·rw [e];exact h.bc
  ·rw [e];exact fun e'=>pW h.rs e'.symm
 ·rcases hw with e | e
  ·rw [e];exact h.nl
  ·rw [e];simp
theorem bW.nodes (h:bW w B tb vn ve vl vs vm L E F S) {w1:World} {v':Value} {x:Nd} (hg:w.grownBy w1 vn.ownBlock) (ho:w1.ownsRow B 106 2 v' (L++[x]).length (aP (L++[x]))) :
  bW (w1.setCell ⟨tb,0,none⟩ v') B tb v' ve vl vs vm (L++[x]) E F S:=by
 have hb1:w1.heap[tb]?=some (.cells #[vn,ve,vl,vs,vm] 176):=by rw [hg.block tb h.lt (fun e=>dD h.rn h.box (by decide) e.symm),h.box]
 refine ⟨(xB hb1).1,h.high,iZ ho hb1 (by decide),iZ (cX h.re hg (eV h.re h.rn (by decide))) hb1 (by decide),iZ (cX h.rl hg (eV h.rl h.rn (by decide))) hb1 (by decide),iZ (cX h.rs hg (eV h.rs h.rn (by decide))) hb1 (by decide),h.ab,h.ac,h.bc,h.ne,h.nl,h.ns⟩
theorem bW.ends (h:bW w B tb vn ve vl vs vm L E F S) {w1:World} {v':Value} {k:Nat} (hg:w.grownBy w1 ve.ownBlock) (ho:w1.ownsRow B 3 1 v' (E.length+k) (mB E++List.replicate k (.int .i64 0))) (hw:v'.ownBlock=ve.ownBlock∨v'.ownBlock=some w.heap.size) :
  bW (w1.setCell ⟨tb,1,none⟩ v') B tb vn v' vl vs vm L (E++List.replicate k 0) F S:=by
 have hb1:w1.heap[tb]?=some (.cells #[vn,ve,vl,vs,vm] 176):=by rw [hg.block tb h.lt (fun e=>dD h.re h.box (by decide) e.symm),h.box]
 refine ⟨(xB hb1).2.1,h.high,iZ (cX h.rn hg (eV h.rn h.re (by decide))) hb1 (by decide),?_,iZ (cX h.rl hg (Or.inr fun e=>h.ab e.symm)) hb1 (by decide),iZ (cX h.rs hg (Or.inr fun e=>h.ac e.symm)) hb1 (by decide),?_,?_,h.bc,?_,h.nl,h.ns⟩
 ·have:=iZ (j:=1) (x:=v') ho hb1 (by decide)
  simpa [mB] using this
 ·rcases hw with e | e
  ·rw [e];exact h.ab
  ·rw [e];exact fun e'=>pW h.rl e'.symm
 ·rcases hw with e | e
  ·rw [e];exact h.ac
  ·rw [e];exact fun e'=>pW h.rs e'.symm
 ·rcases hw with e | e
  ·rw [e];exact h.ne
  ·rw [e];simp
theorem bW.sizes (h:bW w B tb vn ve vl vs vm L E F S) {w1:World} {v':Value} {k:Nat} (hg:w.grownBy w1 vs.ownBlock) (ho:w1.ownsRow B 3 1 v' (S.length+k) (S.map (Value.int .i64)++List.replicate k (.int .i64 0))) (hw:v'.ownBlock=vs.ownBlock∨v'.ownBlock=some w.heap.size) :
  bW (w1.setCell ⟨tb,3,none⟩ v') B tb vn ve vl v' vm L E F (S++List.replicate k 0):=by
 have hb1:w1.heap[tb]?=some (.cells #[vn,ve,vl,vs,vm] 176):=by rw [hg.block tb h.lt (fun e=>dD h.rs h.box (by decide) e.symm),h.box]
 refine ⟨(xB hb1).2.2.2,h.high,iZ (cX h.rn hg (eV h.rn h.rs (by decide))) hb1 (by decide),iZ (cX h.re hg (Or.inr h.ac)) hb1 (by decide),iZ (cX h.rl hg (Or.inr h.bc)) hb1 (by decide),?_,h.ab,?_,?_,h.ne,h.nl,?_⟩
 ·have:=iZ (j:=3) (x:=v') ho hb1 (by decide)
  simpa using this
 ·rcases hw with e | e
  ·rw [e];exact h.ac
  ·rw [e];exact pW h.re
 ·rcases hw with e | e
  ·rw [e];exact h.bc
  ·rw [e];exact pW h.rl
 ·rcases hw with e | e
  ·rw [e];exact h.ns
  ·rw [e];simp
theorem bW.endAt {ge n ce:Nat} (h:bW w B tb vn (.slice (some ⟨ge,0,none⟩) n ce) vl vs vm L E F S) (p x:Nat):bW (w.setCell ⟨ge,p,none⟩ (.int .i64 x)) B tb vn (.slice (some ⟨ge,0,none⟩) n ce) vl vs vm L (E.set p x) F S:=by
 have hn:n=E.length:=by
  obtain ⟨a,c,e⟩:=aR h.re
  simp at e
  exact e.2.1
 subst hn
 have hg:=cB w ⟨ge,p,none⟩ (.int .i64 x)
 refine ⟨?_,h.high,cX h.rn hg (eV h.rn h.re (by decide)),?_,cX h.rl hg (Or.inr fun e=>h.ab e.symm),cX h.rs hg (Or.inr fun e=>h.ac e.symm),h.ab,h.ac,h.bc,h.ne,h.nl,h.ns⟩
 ·rw [hg.block tb h.lt (fun e=>dD h.re h.box (by decide) e.symm),h.box]
 ·have r:=(h.re.stored p (.int .i64 x)).1
  rw [aEt] at r
  simpa using r
theorem bW.endOf {n ce:Nat} {ae:Option Addr} (h:bW w B tb vn (.slice ae n ce) vl vs vm L E F S) {p x:Nat} (hp:E[p]?=some x):∃ge,ae=some ⟨ge,0,none⟩∧w.cell? ⟨ge,p,none⟩=some (.int .i64 x)∧w.frozen? ⟨ge,p,none⟩=false∧n=E.length:=by
 obtain ⟨hl,hv⟩:=List.getElem?_eq_some_iff.1 hp
 obtain ⟨a,c,e,hc⟩:=aEs h.re
 simp at e
 obtain ⟨rfl,rfl,rfl⟩:=e
 obtain ⟨g,rfl,h1⟩:=hc p hl
 refine ⟨g,rfl,by rw [h1,hv],?_,rfl⟩
 exact h.re.frozenAt p
theorem bW.toIn (h:bW w B tb vn ve vl vs vm L (dU L) F S) (h1:F.length=L.length) (h2:S.length=L.length) (hf:L.length≤1000000) (hs:∀n∈L,n.1.size≤140737488355328):bA w B tb vn ve vl vs vm L F S:=
 ⟨h.box,h.high,h.rn,by have:=h.re;rwa [fM] at this,by have:=h.rl;rwa [h1] at this,by have:=h.rs;rwa [h2] at this,h1,h2,hf,hs,h.ab,h.ac,h.bc⟩
end
theorem aRs {ops:Array Oper} {o:Oper} {a:Act} {w:World} {K:Act→World→Prop} {Q:Exit→Act→World→Prop} {E:Prop} (hgd:o.guard=none) (s x:Operand)
  (ho:o.op=.call {callee:=.builtin .append,args:=#[s,x],argTypes:=#[72,72]}) (base:Nat) (v:Value) (l:List Nd) (hs:a.eval s=v) (hown:w.ownsRow base 106 2 v l.length (aP l)) (hn:l.length≤1000000) (hbase:base≤w.heap.size)
  (g c:Nat) (nd:Nd) (hx:a.eval x=.slice (some ⟨g,0,none⟩) 1 c) (hu:w.cell? ⟨g,0,none⟩=some (.string nd.1)) (hu1:w.cell? ⟨g,1,none⟩=some (.int .i64 nd.2))
  (h:∀v' w',w'.ownsRow base 106 2 v' (l.length+1) (aP (l++[nd]))→w.grownBy w' v.ownBlock→gX w v v'→K (a.put o.dst v') w') :
  if Region.wanted o (yielded ops a.tmps)=true then Oper.wp Tryz.prog o a w K Q else E:=by
 have hw:Region.wanted o (yielded ops a.tmps)=true:=by simp [Region.wanted,hgd]
 rw [if_pos hw]
 obtain ⟨i,hi,hz,hss,hy⟩:=info_parts pL
 have hnews:∀(j:Nat) (u':Value),[Value.string nd.1,Value.int .i64 nd.2][j]?=some u'→w.cell? ((⟨g,0,none⟩ : Addr).add j)=some u':=by
  intro j u' hj
  have hj0:=(List.getElem?_eq_some_iff.1 hj).1
  simp at hj0
  match j,hj0,hj with
  | 0,_,hj=>simp at hj;subst hj;exact hu
  | 1,_,hj=>simp at hj;subst hj;exact hu1
 have h1c:∀u∈[Value.string nd.1,Value.int .i64 nd.2],u.oneCell'=true:=by intro x hx;simp at hx;rcases hx with rfl | rfl <;> rfl
 obtain ⟨v',w',hr,h1,h2,_⟩:=run_append_own (P:=Tryz.prog) w base 72 o.type 106 i (.agg #[.string ⟨#[]⟩,.int .i64 0]) 2 24 Tryz.underlying72 hi hz hss hy rfl (by decide) v l.length (aP l) hown ⟨g,0,none⟩ 1 c [.string nd.1,.int .i64 nd.2] rfl hnews h1c (by unfold maxLen;omega) (by omega) hbase
 have hm:gX w v v':=by
  by_cases hv:v.ownBlock=none
  ·have hnil:v=.slice none 0 0∧l.length=0:=by
    obtain ⟨_,h | ⟨g,cap,cur,rfl,_⟩⟩:=hown
    ·exact h
    ·simp [Value.ownBlock] at hv
   obtain ⟨rfl,hl0⟩:=hnil
   obtain ⟨v2,w2,hr2,k1,_⟩:=run_append_own (P:=Tryz.prog) w w.heap.size 72 o.type 106 i (.agg #[.string ⟨#[]⟩,.int .i64 0]) 2 24 Tryz.underlying72 hi hz hss hy rfl (by decide) (.slice none 0 0) 0 [] (World.ownsRow_nil _ _ _ _) ⟨g,0,none⟩ 1 c [.string nd.1,.int .i64 nd.2] rfl hnews h1c (by unfold maxLen;omega) (by omega) (Nat.le_refl _)
   rw [hr] at hr2
   injection hr2 with e1 e2
   subst e1
   subst e2
   cases hb:v'.ownBlock with
   | none=>exact Or.inl (by rw [hb,hv])
   | some g'=>exact Or.inr ⟨g',hb,(bY k1 g' hb).1⟩
  ·rcases aA0 w base 72 o.type 106 i (.agg #[.string ⟨#[]⟩,.int .i64 0]) 2 24 Tryz.underlying72 hi hz hss hy (by decide) v l.length (aP l) hown hv ⟨g,0,none⟩ 1 c [.string nd.1,.int .i64 nd.2] rfl hnews h1c (by unfold maxLen;omega) (by omega) hr with e | e
   ·exact Or.inl e
   ·exact Or.inr ⟨_,e,Nat.le_refl _⟩
 unfold Oper.wp execOp
 simp only [ho,resolve,invoke,builtin,Sem.run_bind,Sem.run_pure,Result.andThen_ok,List.map_toArray,List.map_cons,List.map_nil,hs,hx,hr]
 exact h v' w' (by rw [tB];exact h1) h2 hm
structure eG (B:Nat) (N:Value) (w w':World):Prop where
 low:Below B w w'
 nod:∀(k:Nat) (cs:Array Value) (T:TypeId) (fr:Nat×Nat),w.heap[k]?=some (.cells cs T fr)→T≠3→T≠176→N.ownBlock≠some k→w'.heap[k]?=w.heap[k]?
section
variable {B:Nat} {N:Value} {w w1 w2:World}
theorem eG.refl (B:Nat) (N:Value) (w:World):eG B N w w:=⟨Below.refl _ _,fun _ _ _ _ _ _ _ _=>rfl⟩
theorem eG.below (h:eG B N w w1) (hb:Below w1.heap.size w1 w2) (hB:B≤w1.heap.size):eG B N w w2:=
 ⟨h.low.trans (hb.mono hB),fun k cs T fr hk h1 h2 h3=>by
  have e:=h.nod k cs T fr hk h1 h2 h3
  rw [hb.block k (by rw [hk] at e;exact (Array.getElem?_eq_some_iff.1 e).1),e]⟩
theorem eG.grown (h:eG B N w w1) {o:Option Nat} (hg:w1.grownBy w2 o) (hB:B≤w1.heap.size) (ho:∀k,o=some k→B≤k) (hd:∀k cs T fr,o=some k→w1.heap[k]?=some (.cells cs T fr)→T=3∨T=176∨N.ownBlock=some k∨w.heap.size≤k):eG B N w w2:=
 ⟨h.low.grown hg hB ho,fun k cs T fr hk h1 h2 h3=>by
  have e:=h.nod k cs T fr hk h1 h2 h3
  have e':=e
  rw [hk] at e'
  rw [hg.block k (Array.getElem?_eq_some_iff.1 e').1 (fun e2=>?_),e]
  have hl:=(Array.getElem?_eq_some_iff.1 hk).1
  rcases hd k cs T fr e2.symm e' with q | q | q | q
  ·exact h1 q
  ·exact h2 q
  ·exact h3 q
  ·omega⟩
theorem eG.ints (h:eG B N w w1) {v:Value} {n:Nat} {xs:List Value} (hr:w1.ownsRow B 3 1 v n xs) (hg:w1.grownBy w2 v.ownBlock) (hB:B≤w1.heap.size):eG B N w w2:=by
 refine h.grown hg hB (fun k e=>(bY hr k e).1) (fun k cs T fr e hk=>Or.inl ?_)
 obtain ⟨_,⟨rfl,_⟩ | ⟨g,cap,cur,rfl,_,hh,_⟩⟩:=hr
 ·simp [Value.ownBlock] at e
 ·simp [Value.ownBlock] at e
  subst e
  rw [hh] at hk
  simp at hk
  exact hk.2.1.symm
theorem eG.nodes (h:eG B N w w1) {v:Value} {n:Nat} {xs:List Value} (hr:w1.ownsRow B 106 2 v n xs) (hm:gX w N v) (hg:w1.grownBy w2 v.ownBlock) (hB:B≤w1.heap.size):eG B N w w2:=by
 refine h.grown hg hB (fun k e=>(bY hr k e).1) (fun k cs T fr e hk=>Or.inr (Or.inr ?_))
 rcases hm with q | ⟨g,q,hl⟩
 ·exact Or.inl (by rw [←q,e])
 ·rw [q] at e
  simp at e
  exact Or.inr (by omega)
theorem eG.set (h:eG B N w w1) {tb j:Nat} {v:Value} {cs:Array Value} (hb:w1.heap[tb]?=some (.cells cs 176)) (hB:B≤tb):eG B N w (w1.setCell ⟨tb,j,none⟩ v):=by
 have hl:=(Array.getElem?_eq_some_iff.1 hb).1
 refine h.grown (cB w1 ⟨tb,j,none⟩ v) (by omega) (fun k e=>by simp at e;omega) (fun k cs' T fr e hk=>Or.inr (Or.inl ?_))
 simp at e
 subst e
 rw [hb] at hk
 simp at hk
 exact hk.2.1.symm
end
theorem aRt {t:List Nd}:∀{q:Nat},aI t q=true→∀n∈t,-1000000000≤n.2∧n.2≤1000000000:=by
 induction t with
 | nil=>intro q _ n hn;simp at hn
 | cons m r ih=>
  intro q h n hn
  cases q with
  | zero=>simp [aI] at h
  | succ q=>
   rw [kI,Bool.and_eq_true] at h
   rcases List.mem_cons.1 hn with rfl | hn
   ·have h1:=h.1
    unfold dG at h1
    split at h1
    ·simp at h1;omega
    ·simp at h1;omega
   ·exact ih h.2 n hn
theorem xD {t:List Nd}:∀{q:Nat},aI t q=true→∀n∈t,dG n=true:=by
 induction t with
 | nil=>intro q _ n hn;simp at hn
 | cons m r ih=>
  intro q h n hn
  cases q with
  | zero=>simp [aI] at h
  | succ q=>
   rw [kI,Bool.and_eq_true] at h
   rcases List.mem_cons.1 hn with rfl | hn
   ·exact h.1
   ·exact ih h.2 n hn
theorem aFv {n:Nd} (h:dG n=true):(if n.1.toList.isEmpty then (0:Int) else n.2)=((aX n:Nat):Int)∧aX n≤5:=by
 unfold dG at h
 unfold aX
 by_cases hv:aH n=true
 ·have:n.1.toList.isEmpty=true:=hv
  rw [if_pos this,if_pos hv];simp
 ·have hv':¬n.1.toList.isEmpty=true:=hv
  rw [if_neg hv] at h
  rw [if_neg hv',if_neg hv]
  simp at h
  omega
theorem aFw {s:List Nd} {m i:Nat} (h:dL s m) (hi:i < m):aF s i < s.length∧aF s (i+1)=aF s i+aF (s.drop (aF s i)) 1:=by
 refine ⟨?_,qY s i 1⟩
 have h1:=(sC s i (m - i)).1 (by rw [show i+(m - i)=m by omega];exact h)
 obtain ⟨j,hj⟩ : ∃j,m - i=j+1:=⟨m - i - 1,by omega⟩
 have h2:=h1.2
 rw [hj] at h2
 have hp:=aA4 h2
 have hl:=qA (s.drop (aF s i)) (j+1)
 rw [List.length_drop] at hl
 omega
def fD (w:World) (mp:Nat) (M:List Tg):Prop:=∃nm D,w.ownsMap Tryz.prog 194 eR mp nm D∧lK D M∧nm≤M.length
theorem fD.lt {w:World} {mp:Nat} {M:List Tg} (h:fD w mp M):mp < w.heap.size:=by obtain ⟨nm,D,h1,_⟩:=h;exact aBb h1
theorem fD.at {w w':World} {mp:Nat} {M:List Tg} (h:fD w mp M) (hb:w'.heap[mp]?=w.heap[mp]?):fD w' mp M:=by
 obtain ⟨nm,D,h1,h2,h3⟩:=h
 exact ⟨nm,D,aBa h1 hb,h2,h3⟩
theorem fD.grown {w w':World} {mp:Nat} {M:List Tg} {o:Option Nat} (h:fD w mp M) (hg:w.grownBy w' o) (ho:o≠some mp):fD w' mp M:=h.at (hg.block mp h.lt (fun e=>ho e.symm))
theorem nZ {w:World} {B:Nat} {e:TypeId} {size:Nat} {v:Value} {n mp:Nat} {xs:List Value} {M:List Tg} (h:w.ownsRow B e size v n xs) (hm:fD w mp M):v.ownBlock≠some mp:=by
 obtain ⟨nm,D,⟨es,clock,hh,_⟩,_⟩:=hm
 obtain ⟨_,⟨rfl,_⟩ | ⟨g,cap,cur,rfl,_,hg,_⟩⟩:=h
 ·simp [Value.ownBlock]
 ·simp [Value.ownBlock]
  rintro rfl
  rw [hh] at hg
  simp at hg
section
variable {w w1 w2:World} {B tb mp bx:Nat} {N vn ve vl vs v':Value} {L:List Nd} {E F:List Nat} {S:List Int} {M:List Tg} {s:ByteArray} {x:Int} {o:Obj}
theorem fH {w:World} {tb bx j i:Nat} {u v:Value} (h:w.cell? ⟨bx,i,none⟩=some u) (hne:bx≠tb):(w.setCell ⟨tb,j,none⟩ v).cell? ⟨bx,i,none⟩=some u:=
 (cB w ⟨tb,j,none⟩ v).cell h (by simpa using hne)
theorem aRu {lead:Nat} (hT1:bW w1 B tb vn ve vl vs (.map (some mp)) L E F S) (hF1:fD w1 mp M) (hb1:eG B N w w1) (hBs:B≤w1.heap.size) (hmp:mp≠tb) (y0:w1.cell? ⟨bx,0,none⟩=some (.string s)) (y1:w1.cell? ⟨bx,1,none⟩=some (.int .i64 x)) (hx1:vl.ownBlock≠some bx) (hx2:bx≠tb)
  (hown2:w2.ownsRow B 3 1 v' (F.length+1) (mB F++[.int .i64 lead])) (hg2:(w1.alloc o).grownBy w2 vl.ownBlock) (hw2:v'.ownBlock=vl.ownBlock∨v'.ownBlock=some (w1.alloc o).heap.size) :
  bW (w2.setCell ⟨tb,2,none⟩ v') B tb vn ve v' vs (.map (some mp)) L E (F++[lead]) S∧fD (w2.setCell ⟨tb,2,none⟩ v') mp M∧(w2.setCell ⟨tb,2,none⟩ v').cell? ⟨bx,0,none⟩=some (.string s)∧(w2.setCell ⟨tb,2,none⟩ v').cell? ⟨bx,1,none⟩=some (.int .i64 x)∧eG B N w (w2.setCell ⟨tb,2,none⟩ v')∧w1.heap.size≤(w2.setCell ⟨tb,2,none⟩ v').heap.size:=by
 have hal:Below w1.heap.size w1 (w1.alloc o):=(Below.refl _ _).alloc (Nat.le_refl _) o
 have hTA:=hT1.below hal
 have hFA:fD (w1.alloc o) mp M:=hF1.at (hal.block mp hF1.lt)
 have z0:=hg2.cell (Below.at' hal (Nat.le_refl _) y0) (fun e=>hx1 e.symm)
 have z1:=hg2.cell (Below.at' hal (Nat.le_refl _) y1) (fun e=>hx1 e.symm)
 have hF2:=hFA.grown hg2 (nZ hTA.rl hFA)
 have hb2:eG B N w w2:=(hb1.below hal hBs).ints hTA.rl hg2 (by simp;omega)
 have hbx:w2.heap[tb]?=some (.cells #[vn,ve,vl,vs,.map (some mp)] 176):=by rw [hg2.block tb hTA.lt (fun e=>dD hTA.rl hTA.box (by decide) e.symm)];exact hTA.box
 refine ⟨hTA.leads hg2 hown2 hw2,hF2.grown (cB _ _ _) (by simpa using fun e=>hmp e.symm),fH z0 hx2,fH z1 hx2,hb2.set hbx hT1.high,?_⟩
 have:=hg2.size
 simp [World.setCell] at this ⊢
 omega
theorem aRv {nd:Nd} (hT1:bW w1 B tb vn ve vl vs (.map (some mp)) L E F S) (hF1:fD w1 mp M) (hb1:eG B N w w1) (hBs:B≤w1.heap.size) (hmp:mp≠tb) (hm:gX w N vn)
  (hown2:w2.ownsRow B 106 2 v' (L.length+1) (aP (L++[nd]))) (hg2:(w1.alloc o).grownBy w2 vn.ownBlock) :
  bW (w2.setCell ⟨tb,0,none⟩ v') B tb v' ve vl vs (.map (some mp)) (L++[nd]) E F S∧fD (w2.setCell ⟨tb,0,none⟩ v') mp M∧eG B N w (w2.setCell ⟨tb,0,none⟩ v'):=by
 have hal:Below w1.heap.size w1 (w1.alloc o):=(Below.refl _ _).alloc (Nat.le_refl _) o
 have hTA:=hT1.below hal
 have hFA:fD (w1.alloc o) mp M:=hF1.at (hal.block mp hF1.lt)
 have hF2:=hFA.grown hg2 (nZ hTA.rn hFA)
 have hb2:eG B N w w2:=(hb1.below hal hBs).nodes hTA.rn hm hg2 (by simp;omega)
 have hbx:w2.heap[tb]?=some (.cells #[vn,ve,vl,vs,.map (some mp)] 176):=by rw [hg2.block tb hTA.lt (fun e=>dD hTA.rn hTA.box (by decide) e.symm)];exact hTA.box
 exact ⟨hTA.nodes hg2 (by rw [List.length_append];exact hown2),hF2.grown (cB _ _ _) (by simpa using fun e=>hmp e.symm),hb2.set hbx hT1.high⟩
end
set_option maxHeartbeats 4000000 in
theorem aFx (B tb mp:Nat) (vn ve vl vs:Value) (L:List Nd) (F:List Nat) (S:List Int) (M:List Tg) (o:Int) (a:Option Addr) (ca:Nat) (t:List Nd) (w:World)
  (h:bW w B tb vn ve vl vs (.map (some mp)) L (dU L) F S) (hM:M.map Prod.snd=L) (hW:eA L) (hf:fD w mp M) (hlf:F.length=L.length) (hls:S.length=L.length) (hB:B≤w.heap.size) (hmp:mp≠tb) (hmB:B≤mp)
  (ht:aI t 1=true) (hn:dB w a t) (hlow:∀p,a=some p→p.block < B) (hlen:L.length+t.length≤1000000) (ho : -1000≤o∧o≤1000) :
  Calls Tryz.prog 121 #[.pointer (some ⟨tb,0,none⟩),.int .i64 o,.slice a t.length ca] w fun e w'=>∃vn' ve' vl' vs',e=.returned (.int .i64 L.length)∧
   bW w' B tb vn' ve' vl' vs' (.map (some mp)) (L++t) (dU (L++t)) (F++fW M o t t.length) (S++List.replicate t.length 0)∧fD w' mp (M++t.map fun n=>(o,n))∧eG B vn w w'∧gX w vn vn':=by
 have hML:M.length=L.length:=by rw [←hM];simp
 obtain ⟨q0,q1,q2,q3,q4⟩:=h.cells
 have HT:=aA h
 have HF:=aA hf
 have HN:=aA hn
 have HTM:=aA ht
 have HW:=aA hW
 have HM:=aA hM
 have HLF:=aA hlf
 have HLS:=aA hls
 have HLOW:=aA hlow
 have HML:=aA hML
 obtain ⟨an,cn,hvn⟩:=aR h.rn
 subst hvn
 clear h hf hn ht hW hM hlf hls hlow q1 q2 q3 q4 hML
 go_enter Tryz.func121,Tryz.ntmps121
 go_wp2
 clear q0
 go_loopw [19] (fun i wr=>∃(k:Nat) (vn' vl':Value),k≤t.length∧i=.int .i64 k∧bW wr B tb vn' ve vl' vs (.map (some mp)) (L++t.take k) (dU L) (F++fW M o t k) S∧fD wr mp (M++(t.take k).map fun n=>(o,n))∧eG B (.slice an L.length cn) w wr∧gX w (.slice an L.length cn) vn') (fun i _=>t.length - (intOf i).toNat)
 case atStart=>exact ⟨0,_,_,Nat.zero_le _,rfl,by simpa [fW] using HT.out,by simpa using HF.out,eG.refl _ _ _,gX.refl _ _⟩
 case round=>
  obtain ⟨k,vn',vl',hk,rfl,hT,hF,hbw,hmv⟩:=hrel
  by_cases hlt:k < t.length
  ·have hlti:(k:Int) < (t.length:Int):=by omega
   obtain ⟨b,q,rfl,e1,e2⟩:=HN.out.cell k hlt
   have hbb:=HLOW.out _ rfl
   simp only at hbb
   have e1':=(hbw.low.cell (p:=⟨b,q+k * 2,none⟩) hbb).trans e1
   have e2':=(hbw.low.cell (p:=⟨b,q+k * 2+1,none⟩) hbb).trans e2
   have HL1:Hid (F++fW M o t (k+1)=(F++fW M o t k)++[lJ (M++(t.take k).map fun n=>(o,n)) o t[k]]):=aA (by rw [aRn M o t k hlt,List.append_assoc])
   have HG1:=aA (aRo M o t k hlt)
   have HK1:Hid (L++t.take (k+1)=(L++t.take k)++[t[k]]):=aA (by rw [List.take_succ_eq_append_getElem hlt,List.append_assoc])
   have HXB:=aA (aRt HTM.out t[k] (List.getElem_mem _))
   clear e1 e2
   generalize t[k]=nd at *
   obtain ⟨s,x⟩:=nd
   simp only at e1' e2'
   obtain ⟨an',cn',rfl⟩:=aR hT.rn
   obtain ⟨nm,D,hown,hD,hnm⟩:=hF
   have hkl:(t.take k).length=k:=by simp;omega
   have hlk:(L++t.take k).length=(M++(t.take k).map fun n=>(o,n)).length:=by simp [HML.out]
   have hlb:(M++(t.take k).map fun n=>(o,n)).length≤1000000:=by rw [←hlk];simp;omega
   have hxb : -1000000000≤x∧x≤1000000000:=HXB.out
   have hlead:(F++fW M o t k).length≤1000000:=by rw [List.length_append,aFu,HLF.out];omega
   generalize (M++(t.take k).map fun n=>(o,n))=Mk at *
   generalize (F++fW M o t k)=Fk at *
   generalize (L++t.take k)=Lk at *
   clear hkl
   have HMV:=aA hmv
   clear hmv
   have hbA:Below wr.heap.size wr (wr.alloc (.cells #[.string s,.int .i64 x] 106)):=(Below.refl _ _).alloc (Nat.le_refl _) _
   have x0:(wr.alloc (.cells #[.string s,.int .i64 x] 106)).cell? ⟨wr.heap.size,0,none⟩=some (.string s):=by simp
   have x1:(wr.alloc (.cells #[.string s,.int .i64 x] 106)).cell? ⟨wr.heap.size,1,none⟩=some (.int .i64 x):=by simp
   have hT0:=hT.below hbA
   have hown0:=oX hown hbA
   have hbr:=hbw.below hbA (Nat.le_trans hB hbw.low.size)
   have hsz:(wr.alloc (.cells #[.string s,.int .i64 x] 106)).heap.size=wr.heap.size+1:=by simp
   obtain ⟨p0,p1,p2,p3,p4⟩:=hT0.cells
   have p2f:=hT0.soft 2
   have p0f:=hT0.soft 0
   rw [hlk] at p0
   have CL:=aA (fun (wx:World) (hx:∃d,wx=(wr.alloc (.cells #[.string s,.int .i64 x] 106)).drewN d)=>aSa tb mp nm cn' an' D Mk o s x wx (by obtain ⟨d,rfl⟩:=hx;exact p0) (by obtain ⟨d,rfl⟩:=hx;exact p4) (oX hown0 (aJ hx)) hD hnm hlb (by omega) hxb)
   have HT0:=aA hT0
   have HLK:=aA hlk
   clear hlk
   have HBR:=aA hbr
   have HMO:=aA hown0
   have HMD:=aA hD
   have HMW:=aA (aBb hown)
   have HVX:Hid (vl'.ownBlock≠some wr.heap.size∧wr.heap.size≠tb):=aA ⟨pW hT.rl,by have:=hT.lt;omega⟩
   clear hT hT0 hown hown0 hD hbw hbr hbA
   have HTD:=aA (fun d=>HT0.out.below (wx:=(wr.alloc (.cells #[.string s,.int .i64 x] 106)).drewN d) (aJ ⟨d,rfl⟩))
   have htl:=HT0.out.lt
   generalize hW0:wr.alloc (.cells #[.string s,.int .i64 x] 106)=W0 at *
   have HW0:=aA hW0
   have hsz1:wr.heap.size < W0.heap.size:=by omega
   have HRES:=aA (fun (wx w1:World) (hx:∃d,wx=W0.drewN d) (nm':Nat) (D':DataW Unit) (h1:w1.ownsMap Tryz.prog 194 eR mp nm' D') (h2:lK D' (Mk++[(o,(s,x))])) (h3:nm'≤Mk.length+1) (hg:wx.grownBy w1 (some mp))=>
    (show fD w1 mp (Mk++[(o,(s,x))])∧bW w1 B tb (.slice an' Lk.length cn') ve vl' vs (.map (some mp)) Lk (dU L) Fk S∧w1.cell? ⟨tb,2,none⟩=some vl'∧w1.frozen? ⟨tb,2,none⟩=false∧w1.cell? ⟨wr.heap.size,0,none⟩=some (.string s)∧w1.cell? ⟨wr.heap.size,1,none⟩=some (.int .i64 x)∧eG B (.slice an L.length cn) w w1∧W0.heap.size≤w1.heap.size∧vl'.ownBlock≠some tb from by
     obtain ⟨d,rfl⟩:=hx
     have hT:=HT0.out.below (wx:=W0.drewN d) (aJ ⟨d,rfl⟩)
     have hmf:fD (W0.drewN d) mp Mk:=⟨nm,D,oX HMO.out (aJ ⟨d,rfl⟩),HMD.out,hnm⟩
     have ne:∀{v:Value} {e:TypeId} {sz n:Nat} {xs:List Value},(W0.drewN d).ownsRow B e sz v n xs→v.ownBlock=none∨v.ownBlock≠some mp:=fun hr=>Or.inr (nZ hr hmf)
     have hT1:=hT.grown hg (by simpa using hmp) (ne hT.rn) (ne hT.re) (ne hT.rl) (ne hT.rs)
     have hne:wr.heap.size≠mp:=by have:=HMW.out;omega
     exact ⟨⟨nm',D',h1,h2,by simpa using h3⟩,hT1,hT1.cells.2.2.1,hT1.soft 2,hg.cell x0 (by simpa using hne),hg.cell x1 (by simpa using hne),(HBR.out.below (aJ ⟨d,rfl⟩) (Nat.le_trans hB HBR.out.low.size)).grown hg (Nat.le_trans hB HBR.out.low.size) (fun k e=>by simp at e;omega) (fun k cs T fr e hk=>by obtain ⟨_,_,⟨es,clock,hh,_⟩,_⟩:=hmf;simp at e;subst e;rw [hh] at hk;simp at hk),hg.size,dD hT1.rl hT1.box (by decide)⟩))
   have hBW0:B≤W0.heap.size:=Nat.le_trans hB HBR.out.low.size
   go_wp2_with fail
   go_region_law (first
    | (refine aAz (by rfl) 134 _ _ (by rfl) (enters_of Tryz.func134 (by kernel_rfl) rfl) _ (by rfl) (aB CL _ ⟨1,rfl⟩) ?_;rintro e w1 ⟨nm',D',rfl,hown1,hD1,hnm1,hg1⟩;refine ⟨_,rfl,?_⟩;obtain ⟨hF1,hT1,d2,f2,y0,y1,hb1,hs1,hnt⟩:=HRES.out _ w1 ⟨1,rfl⟩ nm' D' hown1 hD1 hnm1 hg1;have hne2:tb < w1.heap.size:=World.block_lt_of_cell? w1 _ d2;have dA:=(fun X=>Below.at' ((Below.refl w1.heap.size w1).alloc (Nat.le_refl _) X) (Nat.le_refl _) d2);have HF1:=aA hF1;have HT1:=aA hT1;have HB1:=aA hb1;clear hown1 hD1 hnm1 hg1 hF1 hT1 hb1)
    | (refine aRl (by rfl) _ _ (by rfl) B _ _ _ (by rfl) (HT1.out.rl.alloc _) HT1.out.nl hlead (by simp;omega) w1.heap.size 1 (lJ Mk o (s,x)) (by rfl) (by simp) ?_;intro v' w2 hown2 hg2 hw2;obtain ⟨va,vc,rfl⟩:=aR hown2;obtain ⟨d3,f3⟩:=HT1.out.stays2 _ hg2))
   all_goals
    obtain ⟨hT3,hF3,z0,z1,hb3,hs3⟩:=aRu HT1.out HF1.out HB1.out (by omega) hmp y0 y1 HVX.out.1 HVX.out.2 hown2 hg2 hw2
    clear hown2 hg2 hw2 d3 f3 dA d2 f2 y0 y1 hne2 hnt
    generalize w2.setCell ⟨tb,2,none⟩ (.slice va (Fk.length+1) vc)=w3 at *
    generalize hvl:(Value.slice va (Fk.length+1) vc)=vl3 at *
    clear hvl HT1 HF1 HB1
    obtain ⟨r0,r1,r2,r3,r4⟩:=hT3.cells
    have r0f:=hT3.soft 0
    have htb3:=hT3.lt
    have HT3:=aA hT3
    have HF3:=aA hF3
    have HB3:=aA hb3
    clear r1 r2 r3 r4 hT3 hF3 hb3
    have hlk2:Lk.length≤1000000:=by rw [HLK.out];exact hlb
    have HT4:=aA (HT3.out.below (wx:=w3.drew) (aJ ⟨1,rfl⟩))
    have hnw3:∀X,(w3.alloc X).cell? ⟨tb,0,none⟩=some (.slice an' Lk.length cn'):=fun X=>Below.at' ((Below.refl w3.heap.size w3).alloc (Nat.le_refl _) X) (Nat.le_refl _) r0
    have hBw3:B≤w3.heap.size:=by omega
    have HB4:=aA (HB3.out.below (aJ (w1:=w3.drew) ⟨1,rfl⟩) hBw3)
    have hw03:=HB3.out.low.size
    have HF4:=aA (HF3.out.at (w':=w3.drew) rfl)
    go_wp2_with fail
    go_region_law (refine aRs (by rfl) _ _ (by rfl) B _ Lk (by rfl) (HT4.out.rn.alloc _) hlk2 (by simp;omega) w3.heap.size 1 (s,x) (by rfl) (by simp) (by simp) ?_;intro v4 w4 hown4 hg4 hm4;obtain ⟨va4,vc4,rfl⟩:=aR hown4;obtain ⟨d4,f4⟩:=HT4.out.stays0 _ hg4)
    all_goals
     obtain ⟨hT5,hF5,hb5⟩:=aRv HT4.out HF4.out HB4.out (by simp;omega) hmp HMV.out hown4 hg4
     have HMV4:=aA (HMV.out.trans hm4 (by simp;omega))
     have HT5:=aA hT5
     have HF5:=aA hF5
     have HB5:=aA hb5
     clear hT5 hF5 hb5 hown4 hg4 hm4 d4 f4
     go_wp2
     go_roundw
     case rel=>exact ⟨k+1,_,_,by omega,by go_num,by rw [HK1.out,HL1.out];exact HT5.out,by rw [←HG1.out];exact HF5.out,HB5.out,HMV4.out⟩
     case measure=>simp [intOf];omega
  ·have hke:k=t.length:=by omega
   subst hke
   have hlti:¬((t.length:Int) < (t.length:Int)):=by omega
   rw [List.take_length] at hT hF
   have hpos:0 < t.length:=by
    rcases Nat.eq_zero_or_pos t.length with e | e
    ·have:=List.eq_nil_of_length_eq_zero e
     rw [this] at HTM
     have:=HTM.out
     simp [aI] at this
    ·exact e
   have hBr:B≤wr.heap.size:=Nat.le_trans hB hbw.low.size
   have HMV:=aA hmv
   clear hmv
   obtain ⟨an',cn',rfl⟩:=aR hT.rn
   have hel:(dU L).length=L.length:=fM L
   obtain ⟨v8,w8,hr8,ho8,hg8,hw8⟩:=aG5 wr 31 B ve (dU L).length t.length _ hT.re hT.ne hpos (by omega) hBr
   obtain ⟨va8,vc8,rfl⟩:=aR ho8
   have hb8:=xC (by rw [hg8.block tb hT.lt (fun e=>dD hT.re hT.box (by decide) e.symm)];exact hT.box)
   have hT8:=hT.ends hg8 ho8 hw8
   have hF8:=(hF.grown hg8 (nZ hT.re hF)).grown (cB w8 ⟨tb,1,none⟩ (.slice va8 ((dU L).length+t.length) vc8)) (by simpa using fun e=>hmp e.symm)
   have hbw8:=(hbw.ints hT.re hg8 hBr).set (tb:=tb) (j:=1) (v:=.slice va8 ((dU L).length+t.length) vc8) (by rw [hg8.block tb hT.lt (fun e=>dD hT.re hT.box (by decide) e.symm)];exact hT.box) hT.high
   have hBr8:B≤(w8.setCell ⟨tb,1,none⟩ (.slice va8 ((dU L).length+t.length) vc8)).heap.size:=Nat.le_trans hB hbw8.low.size
   obtain ⟨p0,p1,p2,p3,p4⟩:=hT.cells
   have HT8:=aA hT8
   have HF8:=aA hF8
   have HB8:=aA hbw8
   have e8:=hb8.2.1
   have f8:=hb8.2.2.2.2 1
   generalize hw8g:w8.setCell ⟨tb,1,none⟩ (.slice va8 ((dU L).length+t.length) vc8)=W8 at *
   obtain ⟨v9,w9,hr9,ho9,hg9,hw9⟩:=aG5 W8 31 B vs S.length t.length _ hT8.rs hT8.ns hpos (by rw [HLS.out];omega) hBr8
   obtain ⟨va9,vc9,rfl⟩:=aR ho9
   have hb9:=xC (by rw [hg9.block tb hT8.lt (fun e=>dD hT8.rs hT8.box (by decide) e.symm)];exact hT8.box)
   have hT9:=hT8.sizes hg9 ho9 hw9
   have hF9:=(hF8.grown hg9 (nZ hT8.rs hF8)).grown (cB w9 ⟨tb,3,none⟩ (.slice va9 (S.length+t.length) vc9)) (by simpa using fun e=>hmp e.symm)
   have hbw9:=(hbw8.ints hT8.rs hg9 hBr8).set (tb:=tb) (j:=3) (v:=.slice va9 (S.length+t.length) vc9) (by rw [hg9.block tb hT8.lt (fun e=>dD hT8.rs hT8.box (by decide) e.symm)];exact hT8.box) hT.high
   have r3:=hT8.cells.2.2.2.1
   have e9:=hb9.2.2.2.1
   have f9:=hb9.2.2.2.2 3
   have s0:=hT9.cells.1
   rw [List.length_append] at s0
   rw [←aRp] at hT9
   have HT9:=aA hT9
   have HF9:=aA hF9
   have HB9:=aA hbw9
   have HR8:=aA hr8
   have HR9:=aA hr9
   clear hT hF hbw hg8 ho8 hw8 hb8 hT8 hF8 hbw8 hg9 ho9 hw9 hb9 hT9 hF9 hbw9 hr8 hr9 p0 p2 p3 p4 hel
   go_wp2_with (first
    | (at_builtin;refine Go.Lib.wpList_append_run _ rfl _ _ _ _ rfl _ _ rfl rfl _ _ (aB HR8) ?_)
    | (at_builtin;refine Go.Lib.wpList_append_run _ rfl _ _ _ _ rfl _ _ rfl rfl _ _ (aB HR9) ?_)
    | go_in)
   clear s0 e8 f8 e9 f9 r3 p1
   generalize w9.setCell ⟨tb,3,none⟩ (.slice va9 (S.length+t.length) vc9)=W9 at *
   clear HT8 HF8 HB8 HR8 HR9
   generalize (.slice va9 (S.length+t.length) vc9:Value)=vs9 at *
   go_loopw [10] (fun i wi=>∃j:Nat,j≤t.length∧i=.int .i64 ((L.length:Int)+j - 1)∧bW wi B tb (.slice an' (L++t).length cn') (.slice va8 ((dU L).length+t.length) vc8) vl' vs9 (.map (some mp)) (L++t) (eL L t j) (F++fW M o t t.length) (S++List.replicate t.length 0)∧fD wi mp (M++t.map fun n=>(o,n))∧eG B (.slice an L.length cn) w wi) (fun i _=>(intOf i+1 - L.length).toNat)
   case atStart=>exact ⟨t.length,Nat.le_refl _,rfl,HT9.out,HF9.out,HB9.out⟩
   case round=>
    obtain ⟨j,hj,rfl,hT,hF,hb⟩:=hrel
    cases j with
    | zero=>
     generalize hA:((L.length:Int)+((0:Nat):Int) - 1)=A at *
     have hA1:A < (L.length:Int):=by omega
     have HT10:=aA hT
     have HF10:=aA hF
     have HB10:=aA hb
     clear hA hT hF hb
     go_wp2
     go_ret
     exact ⟨_,_,_,_,rfl,by rw [←aRq HW.out];exact HT10.out,HF10.out,HB10.out,HMV.out⟩
    | succ q=>
     rename World=>wi
     have hql:q < t.length:=by omega
     obtain ⟨P,hP⟩ : ∃P,P=L.length+q:=⟨_,rfl⟩
     have hsl:(L.length:Int)+((q+1:Nat):Int) - 1=(P:Int):=by omega
     rw [hsl]
     have hnd:(L++t)[P]?=some t[q]:=by rw [hP,List.getElem?_append_right (by omega)];simp [hql]
     have hPN:(P:Int) < ((L++t).length:Int):=by simp;omega
     have hPL:(L.length:Int)≤(P:Int):=by omega
     have hP1:(P:Int)≤1000000:=by omega
     obtain ⟨ax,cx,ex,hcx⟩:=aEk hT.rn
     simp at ex
     obtain ⟨rfl,rfl⟩:=ex
     obtain ⟨gn,rfl,n0,n1⟩:=hcx P _ hnd
     obtain ⟨s0,s1,s2,s3,s4⟩:=hT.cells
     have hfull:=(uI HTM.out) q t[q] (List.getElem?_eq_getElem hql)
     have hendq:aF (t.drop q) 1=1+aF (t.drop (q+1)) (aX t[q]):=by
      rw [List.drop_eq_getElem_cons hql];simp [aF]
     have HSET:=aA (aRr L t q hql)
     rw [hendq] at HSET
     have hnok:=xD HTM.out t[q] (List.getElem_mem _)
     have hw5:aX t[q]≤1000000:=by have:=aFv hnok;omega
     have CP:=aA (fun wx=>aAe t[q].1 t[q].2 wx)
     rw [(aFv hnok).1] at CP
     have HFU:=aA hfull
     have HEN:=aA (xA L t (q+1))
     have hlt2:=qA (t.drop (q+1)) (aX t[q])
     rw [List.length_drop] at hlt2
     have HHP:=aA hP
     have HFT:=aA (fun (i:Nat) (hi:i < aX t[q])=>aFw hfull hi)
     generalize aX t[q]=m at *
     generalize t[q]=nd at *
     obtain ⟨ns,nx⟩:=nd
     simp only at n0 n1 CP
     have HT10:=aA hT
     have HF10:=aA hF
     have HB10:=aA hb
     have hBi:B≤wi.heap.size:=Nat.le_trans hB hb.low.size
     have hlN:(L++t).length≤1000000:=by simp;omega
     generalize (L++t).length=N at *
     clear hT hF hb hP hnd hfull hendq hnok hsl hcx s1 s2 s3 s4
     go_wp2_with (first
      | (go_at_call 78;refine (aB CP _).mono ?_;rintro e w11 ⟨rfl,hb11⟩;have hT11:=HT10.out.below hb11;have HT11:=aA hT11;have HF11:=aA (HF10.out.at (hb11.block mp HF10.out.lt));have HB11:=aA (HB10.out.below hb11 hBi);clear hb11 hT11)
      | go_in)
     go_loopw [11,88] (fun e i wx=>∃k:Nat,k≤m∧i=.int .i64 k∧e=.int .i64 ((L.length+(q+1+aF (t.drop (q+1)) k):Nat):Int)∧wx=w11) (fun _ i _=>m - (intOf i).toNat)
     case atStart=>exact ⟨0,Nat.zero_le _,rfl,by simp [HHP.out];omega,rfl⟩
     case round=>
      obtain ⟨k,hkm,rfl,rfl,rfl⟩:=hrel
      by_cases hlt:k < m
      ·have hlti:(k:Int) < (m:Int):=by omega
       obtain ⟨fs1,fs2⟩:=HFT.out k hlt
       rw [List.length_drop] at fs1
       rw [List.drop_drop] at fs2
       have he:=HEN.out (q+1+aF (t.drop (q+1)) k) (by omega) (by omega)
       obtain ⟨ge,rfl,h1,h2,h3⟩:=HT11.out.endOf he
       obtain ⟨t0,t1,t2,t3,t4⟩:=HT11.out.cells
       have hX:(L.length+(q+1+aF (t.drop (q+1)) k):Nat) < (dU L).length+t.length:=by rw [fM];omega
       have HNX:Hid (L.length+(q+1+aF (t.drop (q+1)) k+aF (t.drop (q+1+aF (t.drop (q+1)) k)) 1)=L.length+(q+1+aF (t.drop (q+1)) (k+1))):=aA (by omega)
       generalize L.length+(q+1+aF (t.drop (q+1)) k+aF (t.drop (q+1+aF (t.drop (q+1)) k)) 1)=Y at *
       generalize L.length+(q+1+aF (t.drop (q+1)) k)=X at *
       have hXi:(X:Int) < ((dU L).length:Int)+(t.length:Int):=by omega
       clear fs1 fs2 he h2 h3 t0 t2 t3 t4 hX
       go_wp2
       go_roundw
       case rel=>exact ⟨k+1,by omega,by go_num,by rw [←HNX.out],by first | rfl | trivial⟩
       case measure=>simp [intOf];omega
      ·have hke:k=m:=by omega
       subst hke
       have hlti:¬((k:Int) < (k:Int)):=by omega
       obtain ⟨ge,rfl,h1,h2,h3⟩:=HT11.out.endOf (aB1 L t (q+1) P (by have:=HHP.out;omega) (by have:=HHP.out;omega))
       obtain ⟨t0,t1,t2,t3,t4⟩:=HT11.out.cells
       have hS:=HT11.out.endAt P (L.length+(q+(1+aF (t.drop (q+1)) k)))
       rw [show (eL L t (q+1)).set P=(eL L t (q+1)).set (L.length+q) by rw [HHP.out],HSET.out] at hS
       have hXe:L.length+(q+1+aF (t.drop (q+1)) k)=L.length+(q+(1+aF (t.drop (q+1)) k)):=by omega
       rw [hXe]
       clear hXe
       have hPE:P < (dU L).length+t.length:=by rw [fM];have:=HHP.out;omega
       have HF12:=aA (HF11.out.grown (cB _ ⟨ge,P,none⟩ (.int .i64 ((L.length+(q+(1+aF (t.drop (q+1)) k)):Nat):Int))) (by
        have:=nZ HT11.out.re HF11.out
        simpa [Value.ownBlock] using this))
       have HB12:=aA (HB11.out.ints HT11.out.re (cB _ ⟨ge,P,none⟩ (.int .i64 ((L.length+(q+(1+aF (t.drop (q+1)) k)):Nat):Int))) (Nat.le_trans hB HB11.out.low.size))
       generalize L.length+(q+(1+aF (t.drop (q+1)) k))=X at *
       have HT12:=aA hS
       have hPEi:(P:Int) < ((dU L).length:Int)+(t.length:Int):=by omega
       clear hS h3 t0 t2 t3 t4 hPE
       go_wp2
       go_roundw
       case rel=>exact ⟨q,by omega,by have:=HHP.out;go_num,HT12.out,HF12.out,HB12.out⟩
       case measure=>have:=HHP.out;simp [intOf];omega
def iJ (L:List Nd) (rt:Nat→Nat):Prop:=∀p,(aE L).named p→(aE L).named (rt p)
def jU (L:List Nd) (rt rt':Nat→Nat) (a b:Nat) (ok:Bool):Prop:=
 ∀(Bs Q:Nat→Nat→Prop),(∀i j,rt i=rt j→Cl (aE L) Bs i j)→Cl (aE L) Bs a b→dE (aE L) (fun i j=>rt i=rt j) (rA Q a b)→
  (ok=true→rt' a=rt' b∧(∀i j,rt' i=rt' j→Cl (aE L) Bs i j)∧dE (aE L) (fun i j=>rt' i=rt' j) Q)∧(ok=false→¬jS (aE L) (Cl (aE L) Bs))
structure aRw (w:World) (B tb:Nat) (vn ve vl vs vm:Value) (L:List Nd) (F:List Nat) (S:List Int) (rt:Nat→Nat) (a b:Nat) (ok:Bool) (w':World) (F':List Nat) (rt' d':Nat→Nat):Prop where
 tm:bA w' B tb vn ve vl vs vm L F' S
 forest:eZ F' rt' d'
 named:iJ L rt'
 fewer:lD F'≤lD F
 far:w.grownBy w' vl.ownBlock
 mono:∀i j,rt i=rt j→rt' i=rt' j
 sem:jU L rt rt' a b ok
section
variable {L:List Nd} {rt:Nat→Nat} {a b:Nat}
theorem jU.same (h:rt a=rt b):jU L rt rt a b true:=fun Bs Q hs hab hc=>⟨fun _=>⟨h,hs,hc.same h⟩,fun e=>by cases e⟩
theorem aRx {u v:Nat} (hu:u=rt a) (hv:v=rt b):lE (fun i j=>rt i=rt j) (fun i j=>eS rt u v i=eS rt u v j) a b:=by
 subst hu
 subst hv
 intro p q
 exact aEq p q
theorem aB2 {u v:Nat} (hu:u=rt b) (hv:v=rt a):lE (fun i j=>rt i=rt j) (fun i j=>eS rt u v i=eS rt u v j) a b:=by
 subst hu
 subst hv
 intro p q
 show eS rt (rt b) (rt a) p=eS rt (rt b) (rt a) q↔_
 rw [aEq]
 constructor
 ·rintro (e | e | e)
  ·exact Or.inl e
  ·exact Or.inr (Or.inr e)
  ·exact Or.inr (Or.inl e)
 ·rintro (e | e | e)
  ·exact Or.inl e
  ·exact Or.inr (Or.inr e)
  ·exact Or.inr (Or.inl e)
theorem lE.sound {E E' C:Nat→Nat→Prop} (h:lE E E' a b) (hs:∀i j,E i j→C i j) (h1:∀i j,C i j→C j i) (h2:∀i j k,C i j→C j k→C i k) (hab:C a b):∀i j,E' i j→C i j:=by
 intro i j e
 rcases (h i j).1 e with e | ⟨e1,e2⟩ | ⟨e1,e2⟩
 ·exact hs _ _ e
 ·exact h2 _ _ _ (hs _ _ e1) (h2 _ _ _ hab (h1 _ _ (hs _ _ e2)))
 ·exact h2 _ _ _ (hs _ _ e1) (h2 _ _ _ (h1 _ _ hab) (h1 _ _ (hs _ _ e2)))
theorem jU.var {rt':Nat→Nat} (hm:lE (fun i j=>rt i=rt j) (fun i j=>rt' i=rt' j) a b) (hv:(∀p,rt p=rt a→¬(aE L).named p)∨∀p,rt p=rt b→¬(aE L).named p):jU L rt rt' a b true:=fun Bs Q hs hab hc=>
 ⟨fun _=>⟨hm.ab (oR rt),hm.sound hs (fun _ _=>Cl.symm) (fun _ _ _=>Cl.trans) hab,hc.var (oR rt) hm hv⟩,fun e=>by cases e⟩
theorem jU.clash {rt':Nat→Nat} (hr:∀p,rt (rt p)=rt p) (n1:(aE L).named (rt a)) (n2:(aE L).named (rt b)) (hl:(aE L).lab (rt a)≠(aE L).lab (rt b)):jU L rt rt' a b false:=fun Bs Q hs hab hc=>
 ⟨fun e=>(by cases e),fun _ n=>hl (n (rt a) (rt b) ((hs _ _ (hr a)).trans (hab.trans (hs _ _ (hr b).symm))) n1 n2)⟩
theorem iJ.var (h:iJ L rt) {r:Nat} (hr:¬(aE L).named r):∀p,rt p=r→¬(aE L).named p:=by
 rintro p rfl hp
 exact hr (h p hp)
theorem iJ.join (h:iJ L rt) {u v:Nat} (hn:(aE L).named u→(aE L).named v):iJ L (eS rt u v):=by
 intro p hp
 have:=h p hp
 unfold eS
 split
 ·rename_i e;rw [e] at this;exact hn this
 ·exact this
theorem uJ (rt:Nat→Nat) (u v:Nat):∀i j,rt i=rt j→eS rt u v i=eS rt u v j:=by
 intro i j e
 unfold eS
 rw [e]
end
theorem aB3 (tb a:Nat) (w:World) :
  Calls Tryz.prog 145 #[.pointer (some ⟨tb,0,none⟩),.int .i64 a] w fun e w'=>e=.returned (.func (.func 149) #[] #[.pointer (some ⟨w.heap.size+1,0,none⟩),.pointer (some ⟨w.heap.size,0,none⟩)])∧
   w'=(w.alloc (.cells #[.pointer (some ⟨tb,0,none⟩)] 162)).alloc (.cells #[.int .i64 a] 3):=by
 go_enter Tryz.func145,Tryz.ntmps145
 go_wp2
 go_ret
 exact ⟨rfl,rfl⟩
end Go.Proofs.YtbddofieljiihaaGreatDoor
