/- A region that draws its order, whose stores come last: a load may be taken first if the store that hits its cell waits for it. -/
import Derived.Deep.RegionHeld
namespace Go.Proofs.YtbddofieljiihaaGreatDoor
open Go
section
variable {P:Program} {ops:Array Oper} {Q:Exit→Act→World→Prop} {md:Region.Mode} {k:Nat} {C D:World→Prop}
def iP (k:Nat) (C D:World→Prop) (L:Array Bool) (w:World):Prop:=(L.getD k true=false→C w)∧D w
def lP (P:Program) (md:Region.Mode) (ops:Array Oper) (Q:Exit→Act→World→Prop) (k:Nat) (C D:World→Prop):Nat→Array Bool→Act→World→Prop
 | 0,listed,a,w=>Region.ready md ops listed=[]∧Q .normal a w
 | fuel+1,listed,a,w=>
  (Region.ready md ops listed=[]→Q .normal a w)∧
  ∀i∈Region.ready md ops listed,wpOp P ops Q i (fun a' w'=>iP k C D (listed.setIfInBounds i true) w'∧lP P md ops Q k C D fuel (listed.setIfInBounds i true) a' w') a w
theorem aI2:∀(fuel:Nat) (listed:Array Bool) (a:Act) (w:World),lP P md ops Q k C D fuel listed a w→wpAny P md ops Q fuel listed a w
 | 0,_,_,_,h=>h
 | fuel+1,_,_,_,h=>⟨h.1,fun i hi=>wpOp_mono (fun a' w' h'=>aI2 fuel _ a' w' h'.2) (h.2 i hi)⟩
theorem iP.set {L:Array Bool} {w:World} (i:Nat) (h:iP k C D L w):iP k C D (L.setIfInBounds i true) w:=by
 refine ⟨fun hk=>h.1 ?_,h.2⟩
 by_cases e:i=k
 ·subst e
  rcases Nat.lt_or_ge i L.size with h' | h'
  ·simp [h'] at hk
  ·simp [h'] at hk
 ·rwa [getD_set_ne true e] at hk
theorem iP.unset {L:Array Bool} {w:World} {i:Nat} (hi:i≠k) (h:iP k C D (L.setIfInBounds i true) w):iP k C D L w:=
 ⟨fun hk=>h.1 (by rwa [getD_set_ne true hi]),h.2⟩
def rP (md:Region.Mode) (ops:Array Oper) (k i:Nat):Bool:=match ops[k]? with
 | none=>false
 | some o=>o.after.any fun e=>Region.binds md e && e.on == i
theorem aV8 {i:Nat} (h:rP md ops k i=true):∃o e,ops[k]?=some o∧e∈o.after∧Region.binds md e=true∧e.on=i:=by
 unfold rP at h
 split at h
 ·cases h
 ·rename_i o ho
  simp only [Array.any_eq_true',Bool.and_eq_true,beq_iff_eq] at h
  obtain ⟨e,he,hb,hi⟩:=h
  exact ⟨o,e,ho,he,hb,hi⟩
theorem aI3 {i:Nat} {oi:Oper} {v:Value} {S0:World→Prop} (hi:ops[i]?=some oi) (hik:i≠k) (hsel:∀(j:Nat) (o:Oper) cs b,ops[j]?=some o→o.op≠.select cs b)
  (hQ:∀c a w,Q (.panic c) (a.put oi.dst v) w→Q (.panic c) a w) (hS0:(∀w,D w→S0 w)∨((∀w,C w→D w→S0 w)∧rP md ops k i=true)) :
  ∀(fuel:Nat) (listed:Array Bool) (a:Act) (w:World),
   (∀j oj,ops[j]?=some oj→j≠i→listed.getD j true=false→(∀e∈oj.after,Region.binds md e=true→e.on≠i)→oi.apart ops oj=true)→
   i∈Region.ready md ops listed→YieldsIf P ops S0 oi v a→iP k C D listed w→(rP md ops k i=true→listed.getD k true=false)→
   lP P md ops Q k C D fuel (listed.setIfInBounds i true) (a.put oi.dst v) w→lP P md ops Q k C D (fuel+1) listed a w:=by
 have hat:∀(L:Array Bool) (w:World),iP k C D L w→(rP md ops k i=true→L.getD k true=false)→S0 w:=fun L w hT hw=>by
  rcases hS0 with h | ⟨h,h'⟩
  ·exact h w hT.2
  ·exact h w (hT.1 (hw h')) hT.2
 intro fuel
 induction fuel with
 | zero=>
  intro listed a w _ hr hy hT hk H
  refine ⟨fun h=>(by rw [h] at hr;cases hr),fun j hj=>?_⟩
  by_cases hji:j=i
  ·subst hji;exact hy.wpOp hi (hat _ _ hT hk) ⟨hT.set _,H⟩
  ·have:=ready_mono hj hji
   rw [H.1] at this
   cases this
 | succ fuel ih=>
  intro listed a w hfree hr hy hT hk H
  refine ⟨fun h=>(by rw [h] at hr;cases hr),fun j hj=>?_⟩
  by_cases hji:j=i
  ·subst hji;exact hy.wpOp hi (hat _ _ hT hk) ⟨hT.set _,H⟩
  ·have h1:=H.2 j (ready_mono hj hji)
   obtain ⟨hjun,oj,hoj,hall⟩:=mem_ready.1 hj
   have hnot:∀e∈oj.after,Region.binds md e=true→e.on≠i:=fun e he hb heq=>by
    have h1:=hall e he hb
    have h0:=(mem_ready.1 hr).1
    rw [heq] at h1
    rcases Nat.lt_or_ge i listed.size with h' | h'
    ·simp [h'] at h0 h1;rw [h0] at h1;cases h1
    ·simp [Array.getElem?_eq_none h'] at h1
   have h2:=wpOp_putIf hoj (hfree j oj hoj hji hjun hnot) (fun cs b=>hsel i oi cs b hi) (fun cs b=>hsel j oj cs b hoj) hQ hy h1
   have hfree':∀k ok,ops[k]?=some ok→k≠i→(listed.setIfInBounds j true).getD k true=false→
     (∀e∈ok.after,Region.binds md e=true→e.on≠i)→oi.apart ops ok=true:=fun k ok hk hki hun hno=>by
    refine hfree k ok hk hki ?_ hno
    by_cases hjk:j=k
    ·subst hjk;exact hjun
    ·rw [getD_set_ne true hjk] at hun;exact hun
   have hk':rP md ops k i=true→(listed.setIfInBounds j true).getD k true=false:=fun hw=>by
    obtain ⟨o,e,ho,he,hb,hon⟩:=aV8 hw
    have hjk:j≠k:=fun hjk=>by
     subst hjk
     rw [hoj] at ho
     cases ho
     exact hnot e he hb hon
    rw [getD_set_ne true hjk]
    exact hk hw
   refine wpOp_mono (fun a' w' h3=>?_) h2
   have hT':iP k C D (listed.setIfInBounds j true) w':=by
    have:=h3.2.1
    rw [Array.setIfInBounds_comm _ _ (Ne.symm hji)] at this
    exact this.unset hik
   refine ⟨hT',ih (listed.setIfInBounds j true) a' w' hfree' (ready_mono hr (Ne.symm hji)) h3.1 hT' hk' ?_⟩
   rw [Array.setIfInBounds_comm _ _ hji]
   exact h3.2.2
theorem aBx {i:Nat} {oi:Oper} {d:Option Tmp} {v:Value} {fuel:Nat} {listed:Array Bool} {a:Act} {w:World} (hi:ops[i]?=some oi) (hd:oi.dst=d) (hw:(rP md ops k i && (i != k) && !(listed.getD k true))=true)
  (hs:Region.noSelect ops=true) (hf:Region.free md ops listed i=true) (hr:(Region.ready md ops listed).contains i=true)
  (hQ:∀c a w,Q (.panic c) (a.put d v) w→Q (.panic c) a w) (hy:YieldsIf P ops (fun w=>C w∧D w) oi v a) (hT:iP k C D listed w)
  (h:iP k C D (listed.setIfInBounds i true) w→lP P md ops Q k C D fuel (listed.setIfInBounds i true) (a.put d v) w):lP P md ops Q k C D (fuel+1) listed a w:=by
 subst hd
 simp only [Bool.and_eq_true,bne_iff_ne,ne_eq,Bool.not_eq_true'] at hw
 exact aI3 hi hw.1.2 (Region.noSelect_spec hs) hQ (Or.inr ⟨fun w h1 h2=>⟨h1,h2⟩,hw.1.1⟩) fuel listed a w (Region.free_spec hi hf) (by simpa using hr) hy hT (fun _=>hw.2) (h (hT.set _))
theorem pG {i:Nat} {oi:Oper} {d:Option Tmp} {v:Value} {fuel:Nat} {listed:Array Bool} {a:Act} {w:World} (hi:ops[i]?=some oi) (hd:oi.dst=d) (hw:((i != k) && !(listed.getD k true))=true)
  (hs:Region.noSelect ops=true) (hf:Region.free md ops listed i=true) (hr:(Region.ready md ops listed).contains i=true)
  (hQ:∀c a w,Q (.panic c) (a.put d v) w→Q (.panic c) a w) (hy:YieldsIf P ops D oi v a) (hT:iP k C D listed w)
  (h:iP k C D (listed.setIfInBounds i true) w→lP P md ops Q k C D fuel (listed.setIfInBounds i true) (a.put d v) w):lP P md ops Q k C D (fuel+1) listed a w:=by
 subst hd
 simp only [Bool.and_eq_true,bne_iff_ne,ne_eq,Bool.not_eq_true'] at hw
 exact aI3 hi hw.1 (Region.noSelect_spec hs) hQ (Or.inl (fun _ h=>h)) fuel listed a w (Region.free_spec hi hf) (by simpa using hr) hy hT (fun _=>hw.2) (h (hT.set _))
def bI (P:Program) (md:Region.Mode) (ops:Array Oper) (Q:Exit→Act→World→Prop) (k:Nat) (C D:World→Prop) (fuel:Nat) (listed:Array Bool) (a:Act) (w:World) (rs:List Nat):Prop:=
 ∀i∈rs,wpOp P ops Q i (fun a' w'=>iP k C D (listed.setIfInBounds i true) w'∧lP P md ops Q k C D fuel (listed.setIfInBounds i true) a' w') a w
theorem bI.nil {fuel:Nat} {listed:Array Bool} {a:Act} {w:World}:bI P md ops Q k C D fuel listed a w []:=fun _ h=>by cases h
theorem bI.cons {fuel:Nat} {listed:Array Bool} {a:Act} {w:World} {i:Nat} {o:Oper} {rs:List Nat} (ho:ops[i]?=some o)
  (h:∀K':Act→World→Prop,Shut (∀a w,iP k C D (listed.setIfInBounds i true) w→lP P md ops Q k C D fuel (listed.setIfInBounds i true) a w→K' a w)→if Region.wanted o (yielded ops a.tmps)=true then Oper.wp P o a w K' Q else K' (a.put o.dst undef) w)
  (hs:bI P md ops Q k C D fuel listed a w rs):bI P md ops Q k C D fuel listed a w (i :: rs):=fun j hj=>by
 rcases List.mem_cons.1 hj with rfl | hj
 ·exact wpOp_step ho (fun K' hK=>h K' (fun a w hS hW=>hK a w ⟨hS,hW⟩))
 ·exact hs j hj
theorem eN {rs:List Nat} {fuel:Nat} {listed:Array Bool} {a:Act} {w:World} (hr:Region.ready md ops listed=rs) (hne:rs≠[])
 (h:bI P md ops Q k C D fuel listed a w rs):lP P md ops Q k C D (fuel+1) listed a w:=⟨fun h0=>absurd (hr▸h0) hne,hr▸h⟩
theorem aBy {listed:Array Bool} {a:Act} {w:World} (hr:Region.ready md ops listed=[]) (h:Q .normal a w):∀fuel,lP P md ops Q k C D fuel listed a w
 | 0=>⟨hr,h⟩
 | _+1=>⟨fun _=>h,by rw [hr];simp⟩
theorem aV9 {id:Nat} {a:Act} {w:World} (k:Nat) (C D:World→Prop) (hm:P.follows .mixedOrders=true) (hC:C w.drew) (hD:D w.drew)
  (h:iP k C D (Array.replicate ops.size false) w.drew→lP P .any ops Q k C D ops.size (Array.replicate ops.size false) a w.drew):(Code.region id ops true).wp P Q a w:=
 wp_region_any hm (aI2 _ _ _ _ (h ⟨fun _=>hC,hD⟩))
end
end Go.Proofs.YtbddofieljiihaaGreatDoor
