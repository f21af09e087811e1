import Derived.Deep.RegionHeld
open Array renaming setIfInBounds_comm→zx,replicate→zr
open Bool renaming and_eq_true→zw,not_eq_true'→zu
namespace Go.Proofs.YtcldkjcpofjmhaaGreatDoor
open Region renaming ready→zz,binds→zy,noSelect_spec→zv,free_spec→zt,noSelect→zs
open Go
variable{a:Act}{fuel i:Nat}{oi:Oper}{v:Value}{w:World}
section
variable {P:Program}{ops:Array Oper}{Q:Exit->Act->World->Prop}{md:Region.Mode}{k:Nat}{C D:World->Prop}
def jX(k:Nat)(C D:World->Prop)(L:Array Bool)(w:World):Prop:=(L.getD k true=false->C w)/\D w
def mU(P:Program)(md:Region.Mode)(ops:Array Oper)(Q:Exit->Act->World->Prop)(k:Nat)(C D:World->Prop):Nat->Array Bool->Act->World->Prop
 | 0,listed,a,w=>zz md ops listed=[]/\Q .normal a w
 | fuel+1,listed,a,w=>
  (zz md ops listed=[]->Q .normal a w)/\
  ∀i∈zz md ops listed,wpOp P ops Q i (λa' w'=>jX k C D (listed.setIfInBounds i true) w'/\mU P md ops Q k C D fuel (listed.setIfInBounds i true) a' w') a w
theorem aLf:∀(fuel:Nat) (listed:Array Bool) (a:Act) (w:World),mU P md ops Q k C D fuel listed a w->wpAny P md ops Q fuel listed a w
 | 0,_,_,_,h=>h
 | fuel+1,_,_,_,h=>⟨h.1,λi hi=>wpOp_mono (λa' w' h'=>aLf fuel _ a' w' h'.2) (h.2 i hi)⟩
theorem jX.set{L:Array Bool}(i:Nat)(h:jX k C D L w):jX k C D (L.setIfInBounds i true) w:=by
 refine ⟨λhk=>h.1 ?_,h.2⟩;by_cases e:i=k
 ·subst e;rcases Nat.lt_or_ge i L.size with h' | h'
  ·simp [h'] at hk
  ·simp [h'] at hk
 ·rwa [getD_set_ne true e] at hk
theorem jX.unset{L:Array Bool}(hi:i≠k)(h:jX k C D (L.setIfInBounds i true) w):jX k C D L w:=
 ⟨λhk=>h.1 (by rwa [getD_set_ne true hi]),h.2⟩
def uL(md:Region.Mode)(ops:Array Oper)(k i:Nat):Bool:=match ops[k]? with
 | none=>false
 | some o=>o.after.any λe=>zy md e && e.on == i
theorem aZi(h:uL md ops k i=true):∃o e,ops[k]?=some o/\e∈o.after/\zy md e=true/\e.on=i:=by
 unfold uL at h;split at h
 ·cases h
 ·rename_i o ho;simp only [Array.any_eq_true',zw,beq_iff_eq] at h;obtain ⟨e,he,hb,hi⟩:=h;exact ⟨o,e,ho,he,hb,hi⟩
theorem aLg{S0:World->Prop}(hi:ops[i]?=some oi)(hik:i≠k)(hsel:∀(j:Nat) (o:Oper) cs b,ops[j]?=some o->o.op≠.select cs b)
  (hQ:∀c a w,Q (.panic c) (a.put oi.dst v) w->Q (.panic c) a w) (hS0:(∀w,D w->S0 w)\/((∀w,C w->D w->S0 w)/\uL md ops k i=true)) :
  ∀(fuel:Nat) (listed:Array Bool) (a:Act) (w:World),
   (∀j oj,ops[j]?=some oj->j≠i->listed.getD j true=false->(∀e∈oj.after,zy md e=true->e.on≠i)->oi.apart ops oj=true)->
   i∈zz md ops listed->YieldsIf P ops S0 oi v a->jX k C D listed w->(uL md ops k i=true->listed.getD k true=false)->
   mU P md ops Q k C D fuel (listed.setIfInBounds i true) (a.put oi.dst v) w->mU P md ops Q k C D (fuel+1) listed a w:=by
 have hat:∀(L:Array Bool) (w:World),jX k C D L w->(uL md ops k i=true->L.getD k true=false)->S0 w:=λL w hT hw=>by
  rcases hS0 with h | ⟨h,h'⟩
  ·exact h w hT.2
  ·exact h w (hT.1 (hw h')) hT.2
 intro fuel;induction fuel with
 | zero=>
  intro listed a w _ hr hy hT hk H;refine ⟨λh=>(by rw [h] at hr;cases hr),λj hj=>?_⟩;by_cases hji:j=i
  ·subst hji;exact hy.wpOp hi (hat _ _ hT hk) ⟨hT.set _,H⟩
  ·have:=ready_mono hj hji;rw [H.1] at this;cases this
 | succ fuel ih=>
  intro listed a w hfree hr hy hT hk H;refine ⟨λh=>(by rw [h] at hr;cases hr),λj hj=>?_⟩;by_cases hji:j=i
  ·subst hji;exact hy.wpOp hi (hat _ _ hT hk) ⟨hT.set _,H⟩
  ·have h1:=H.2 j (ready_mono hj hji);obtain ⟨hjun,oj,hoj,hall⟩:=mem_ready.1 hj;have hnot:∀e∈oj.after,zy md e=true->e.on≠i:=λe he hb heq=>by
    have h1:=hall e he hb;have h0:=(mem_ready.1 hr).1;rw [heq] at h1;rcases Nat.lt_or_ge i listed.size with h' | h'
    ·simp [h'] at h0 h1;rw [h0] at h1;cases h1
    ·simp [Array.getElem?_eq_none h'] at h1
   have h2:=wpOp_putIf hoj (hfree j oj hoj hji hjun hnot) (λcs b=>hsel i oi cs b hi) (λcs b=>hsel j oj cs b hoj) hQ hy h1;have hfree':∀k ok,ops[k]?=some ok->k≠i->(listed.setIfInBounds j true).getD k true=false->
     (∀e∈ok.after,zy md e=true->e.on≠i)->oi.apart ops ok=true:=λk ok hk hki hun hno=>by
    refine hfree k ok hk hki ?_ hno;by_cases hjk:j=k
    ·subst hjk;exact hjun
    ·rw [getD_set_ne true hjk] at hun;exact hun
   have hk':uL md ops k i=true->(listed.setIfInBounds j true).getD k true=false:=λhw=>by
    obtain ⟨o,e,ho,he,hb,hon⟩:=aZi hw;have hjk:j≠k:=λhjk=>by
     subst hjk;rw [hoj] at ho;cases ho;exact hnot e he hb hon
    rw [getD_set_ne true hjk];exact hk hw
   refine wpOp_mono (λa' w' h3=>?_) h2;have hT':jX k C D (listed.setIfInBounds j true) w':=by have:=h3.2.1;rw [zx _ _ (Ne.symm hji)] at this;exact this.unset hik
   refine ⟨hT',ih (listed.setIfInBounds j true) a' w' hfree' (ready_mono hr (Ne.symm hji)) h3.1 hT' hk' ?_⟩;rw [zx _ _ hji];exact h3.2.2
theorem aE5{d:Option Tmp}{listed:Array Bool}(hi:ops[i]?=some oi)(hd:oi.dst=d)(hw:(uL md ops k i && (i != k) && !(listed.getD k true))=true)
  (hs:zs ops=true) (hf:Region.free md ops listed i=true) (hr:(zz md ops listed).contains i=true)
  (hQ:∀c a w,Q (.panic c) (a.put d v) w->Q (.panic c) a w) (hy:YieldsIf P ops (λw=>C w/\D w) oi v a) (hT:jX k C D listed w)
  (h:jX k C D (listed.setIfInBounds i true) w->mU P md ops Q k C D fuel (listed.setIfInBounds i true) (a.put d v) w):mU P md ops Q k C D (fuel+1) listed a w:=by
 subst hd;simp only [zw,bne_iff_ne,ne_eq,zu] at hw;exact aLg hi hw.1.2 (zv hs) hQ (Or.inr ⟨λw h1 h2=>⟨h1,h2⟩,hw.1.1⟩) fuel listed a w (zt hi hf) (by simpa using hr) hy hT (λ_=>hw.2) (h (hT.set _))
theorem rL{d:Option Tmp}{listed:Array Bool}(hi:ops[i]?=some oi)(hd:oi.dst=d)(hw:((i != k) && !(listed.getD k true))=true)
  (hs:zs ops=true) (hf:Region.free md ops listed i=true) (hr:(zz md ops listed).contains i=true)
  (hQ:∀c a w,Q (.panic c) (a.put d v) w->Q (.panic c) a w) (hy:YieldsIf P ops D oi v a) (hT:jX k C D listed w)
  (h:jX k C D (listed.setIfInBounds i true) w->mU P md ops Q k C D fuel (listed.setIfInBounds i true) (a.put d v) w):mU P md ops Q k C D (fuel+1) listed a w:=by
 subst hd;simp only [zw,bne_iff_ne,ne_eq,zu] at hw;exact aLg hi hw.1 (zv hs) hQ (Or.inl (λ_ h=>h)) fuel listed a w (zt hi hf) (by simpa using hr) hy hT (λ_=>hw.2) (h (hT.set _))
def bP(P:Program)(md:Region.Mode)(ops:Array Oper)(Q:Exit->Act->World->Prop)(k:Nat)(C D:World->Prop)(fuel:Nat)(listed:Array Bool)(a:Act)(w:World)(rs:List Nat):Prop:=
 ∀i∈rs,wpOp P ops Q i (λa' w'=>jX k C D (listed.setIfInBounds i true) w'/\mU P md ops Q k C D fuel (listed.setIfInBounds i true) a' w') a w
theorem bP.nil{listed:Array Bool}:bP P md ops Q k C D fuel listed a w []:=λ_ h=>by cases h
theorem bP.cons{fuel:Nat}{listed:Array Bool}{a:Act}{w:World}{i:Nat}{o:Oper}{rs:List Nat}(ho:ops[i]?=some o)
  (h:∀K':Act->World->Prop,Shut (∀a w,jX k C D (listed.setIfInBounds i true) w->mU P md ops Q k C D fuel (listed.setIfInBounds i true) a w->K' a w)->if Region.wanted o (yielded ops a.tmps)=true then Oper.wp P o a w K' Q else K' (a.put o.dst undef) w)
  (hs:bP P md ops Q k C D fuel listed a w rs):bP P md ops Q k C D fuel listed a w (i :: rs):=λj hj=>by
 rcases List.mem_cons.1 hj with rfl | hj
 ·exact wpOp_step ho (λK' hK=>h K' (λa w hS hW=>hK a w ⟨hS,hW⟩))
 ·exact hs j hj
theorem fI{rs:List Nat}{listed:Array Bool}(hr:zz md ops listed=rs)(hne:rs≠[])
 (h:bP P md ops Q k C D fuel listed a w rs):mU P md ops Q k C D (fuel+1) listed a w:=⟨λh0=>absurd (hr▸h0) hne,hr▸h⟩
theorem aE6{listed:Array Bool}(hr:zz md ops listed=[])(h:Q .normal a w):∀fuel,mU P md ops Q k C D fuel listed a w
 | 0=>⟨hr,h⟩
 | _+1=>⟨λ_=>h,by rw [hr];simp⟩
theorem aZj{id:Nat}(k:Nat)(C D:World->Prop)(hm:P.follows .mixedOrders=true)(hC:C w.drew)(hD:D w.drew)
  (h:jX k C D (zr ops.size false) w.drew->mU P .any ops Q k C D ops.size (zr ops.size false) a w.drew):(Code.region id ops true).wp P Q a w:=
 wp_region_any hm (aLf _ _ _ _ (h ⟨λ_=>hC,hD⟩))
end
end Go.Proofs.YtcldkjcpofjmhaaGreatDoor
