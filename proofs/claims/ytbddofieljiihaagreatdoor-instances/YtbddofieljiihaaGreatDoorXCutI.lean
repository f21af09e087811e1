/- A region that draws its order: what only reads is gone through once, ahead of what waits for all of it. -/
import Derived.Sort.QuietIn
namespace Go.Proofs.YtbddofieljiihaaGreatDoor
open Go Go.RowKit
section
variable {F:Fence} {n:Nat} {P:Program} {md:Region.Mode} {Q:Exit→Act→World→Prop} {l1 l2:List Oper} {C:World→Prop} {Q1:Act→Prop}
def uV (md:Region.Mode) (ops:List Oper):Nat→Nat→Nat→Bool
 | 0,_,_=>false
 | f+1,j,i=>match ops[j]? with
  | none=>false
  | some o=>o.after.any fun e=>Region.binds md e && (e.on == i || uV md ops f e.on i)
def qF (md:Region.Mode) (l1 l2:List Oper):Bool:=
 ((List.range l1.length).all fun j=>match l1[j]? with
  | none=>true
  | some o=>(o.after.all fun e=>!Region.binds md e || decide (e.on < j)) && (match o.guard with | none=>true | some g=>decide (g.1 < l1.length))) &&
 ((List.range l2.length).all fun t=>(List.range l1.length).all fun i=>uV md (l1++l2) (l1.length+l2.length) (l1.length+t) i)
theorem aBl (h:qF md l1 l2=true) {j:Nat} {o:Oper} (ho:l1[j]?=some o):(∀e∈o.after,Region.binds md e=true→e.on < j)∧∀g,o.guard=some g→g.1 < l1.length:=by
 have hj:=(List.getElem?_eq_some_iff.1 ho).1
 simp only [qF,Bool.and_eq_true,List.all_eq_true,List.mem_range] at h
 have:=h.1 j hj
 rw [ho] at this
 simp only [Bool.and_eq_true] at this
 refine ⟨fun e he hb=>?_,fun g hg=>?_⟩
 ·have h1:=this.1
  rw [Array.all_eq_true_iff_forall_mem] at h1
  have:=h1 e he
  simpa [hb] using this
 ·have h1:=this.2
  rw [hg] at h1
  simpa using h1
theorem aTv (h:qF md l1 l2=true) {j i:Nat} (hj:l1.length≤j) (hj2:j < l1.length+l2.length) (hi:i < l1.length):uV md (l1++l2) (l1.length+l2.length) j i=true:=by
 simp only [qF,Bool.and_eq_true,List.all_eq_true,List.mem_range] at h
 have:=h.2 (j - l1.length) (by omega) i hi
 rwa [show l1.length+(j - l1.length)=j by omega] at this
def aH3 (md:Region.Mode) (ops:List Oper) (L:Array Bool):Prop:=∀j o,ops[j]?=some o→L.getD j false=true→∀e∈o.after,Region.binds md e=true→L.getD e.on false=true
theorem aH4 {ops:List Oper} {L:Array Bool} (hL:aH3 md ops L):∀(f j i:Nat),uV md ops f j i=true→(∀o,ops[j]?=some o→∀e∈o.after,Region.binds md e=true→L.getD e.on false=true)→L.getD i false=true
 | 0,_,_,h,_=>by cases h
 | f+1,j,i,h,hd=>by
  unfold uV at h
  cases ho:ops[j]? with
  | none=>rw [ho] at h;cases h
  | some o=>
   rw [ho] at h
   simp only [Array.any_eq_true',Bool.and_eq_true,Bool.or_eq_true,beq_iff_eq] at h
   obtain ⟨e,he,hb,hr⟩:=h
   have hl:=hd o ho e he hb
   rcases hr with rfl | hr
   ·exact hl
   ·exact aH4 hL f e.on i hr (fun o' ho'=>hL e.on o' ho' hl)
structure pC (md:Region.Mode) (l1 l2:List Oper) (L' L:Array Bool):Prop where
 s1:L'.size=l1.length
 s2:L.size=l1.length+l2.length
 same:∀j (h1:j < L'.size) (h2:j < L.size),L[j]=L'[j]
 rest:∀j (h:j < L.size),l1.length≤j→L[j]=false
 closed:aH3 md (l1++l2) L
theorem sP {L:Array Bool} {j:Nat} (h:j < L.size) (b:Bool):L.getD j b=L[j]:=by simp [h]
theorem pC.get {L' L:Array Bool} (h:pC md l1 l2 L' L) {j:Nat} (hj:j < l1.length) (b:Bool):L.getD j b=L'.getD j b:=by
 rw [sP (by rw [h.s2];omega),sP (by rw [h.s1];omega)]
 exact h.same j _ _
theorem aBm {j:Nat} (hj:j < l1.length):(l1++l2)[j]?=l1[j]?:=List.getElem?_append_left hj
theorem aH5 {ops:Array Oper}:∀(f:Nat) (L:Array Bool) (a:Act) (w:World),wpAnyIn F n P md ops Q f L a w→wpAnyIn F n P md ops Q (f+1) L a w
 | 0,_,_,_,h=>⟨fun _=>h.2,fun i hi=>by rw [h.1] at hi;cases hi⟩
 | f+1,_,_,_,h=>⟨h.1,fun i hi=>wpOpIn_mono (fun a w hh=>aH5 f _ a w hh) (h.2 i hi)⟩
theorem aH6 {ops:Array Oper} {f:Nat} {L:Array Bool} {a:Act} {w:World} (h:wpAnyIn F n P md ops Q f L a w):∀k,wpAnyIn F n P md ops Q (k+f) L a w
 | 0=>by rw [Nat.zero_add];exact h
 | k+1=>by rw [Nat.add_right_comm];exact aH5 _ _ _ _ (aH6 h k)
theorem aTw (h:qF md l1 l2=true) {j:Nat} {o:Oper} (ho:l1[j]?=some o) (tmps:Array Value):Region.wanted o (yielded (l1++l2).toArray tmps)=Region.wanted o (yielded l1.toArray tmps):=by
 have hg:=(aBl h ho).2
 unfold Region.wanted
 cases hq:o.guard with
 | none=>rfl
 | some g=>
  obtain ⟨k,b⟩:=g
  have hk:k < l1.length:=hg _ hq
  simp only [yielded,List.getElem?_toArray,aBm (l2:=l2) hk]
theorem pC.set {L' L:Array Bool} (h:pC md l1 l2 L' L) {i:Nat} (hi:i < l1.length) (hr:i∈Region.ready md (l1++l2).toArray L):pC md l1 l2 (L'.setIfInBounds i true) (L.setIfInBounds i true):=by
 refine ⟨by simpa using h.s1,by simpa using h.s2,fun j h1 h2=>?_,fun j hj hle=>?_,fun j o ho hj e he hb=>?_⟩
 ·have h1':j < L'.size:=by simpa using h1
  have h2':j < L.size:=by simpa using h2
  rw [Array.getElem_setIfInBounds (by simpa using h2),Array.getElem_setIfInBounds (by simpa using h1)]
  split
  ·rfl
  ·exact h.same j h1' h2'
 ·have hj':j < L.size:=by simpa using hj
  rw [Array.getElem_setIfInBounds (by simpa using hj),if_neg (by omega)]
  exact h.rest j hj' hle
 ·refine getD_set_true ?_
  by_cases e1:i=j
  ·subst e1
   obtain ⟨_,o',ho',hall⟩:=mem_ready.1 hr
   simp only [List.getElem?_toArray] at ho'
   rw [ho] at ho'
   cases ho'
   exact hall e he hb
  ·rw [getD_set_ne false e1] at hj
   exact h.closed j o ho hj e he hb
theorem aTx {o:Oper} {a:Act} {K:Act→Prop} {K':Act→World→Prop} {Q':Exit→Act→World→Prop} {w:World} (hs:o.semAt F.round a.eval=execOp a.eval o) (hw:C w) (h:∀a w',C w'→K a→K' a w')
  (ha:o.askedIn F P a C) (hh:o.quietIn F n P a C K):o.wpIn F n P a w K' Q':=by
 obtain ⟨v,h1,h2⟩:=hh
 have h3:=h1 w hw
 unfold Oper.quietAtIn at h3
 refine ⟨ha w hw,?_⟩
 rw [hs]
 revert h3
 generalize (execOp a.eval o).run P w=r
 intro h3
 match r,h3 with
 | .ok (.value u) w',h3=>
  obtain ⟨rfl,rfl⟩:=h3
  exact h _ _ hw h2
 | .ok .skip w',h3=>
  obtain ⟨rfl,rfl⟩:=h3
  exact h _ _ hw h2
 | .ok (.enter f args) w',h3=>
  obtain ⟨rfl,hd,hc⟩:=h3
  exact ⟨hd,hc.mono fun e w'' he=>by
   obtain ⟨rfl,hw''⟩:=he
   exact h _ _ hw'' h2⟩
theorem aTy (hro:∀o∈l1,∀ρ,o.semAt F.round ρ=execOp ρ o) (hc:qF md l1 l2=true)
  (h2:∀a w,C w→Q1 a→wpAnyIn F n P md (l1++l2).toArray Q l2.length ((List.replicate l1.length true++List.replicate l2.length false).toArray) a w) :
  ∀(fuel:Nat) (L' L:Array Bool) (a:Act) (w:World),pC md l1 l2 L' L→C w→wpAnyQIn F n P md l1.toArray C Q1 fuel L' a→wpAnyIn F n P md (l1++l2).toArray Q (fuel+l2.length) L a w:=by
 have hall:∀(L' L:Array Bool),pC md l1 l2 L' L→Region.ready md l1.toArray L'=[]→∀j,j < l1.length→L'.getD j true=true:=by
  intro L' L hR hn j
  induction j using Nat.strongRecOn with
  | _ j ih=>
   intro hj
   cases hx:L'.getD j true with
   | true=>rfl
   | false=>
    have:j∈Region.ready md l1.toArray L':=by
     refine mem_ready.2 ⟨hx,l1[j],by simp [hj],fun e he hb=>?_⟩
     have hlt:=(aBl hc (List.getElem?_eq_getElem hj)).1 e he hb
     have:=ih e.on hlt (by omega)
     rw [sP (by rw [hR.s1];omega)] at this ⊢
     exact this
    rw [hn] at this
    cases this
 have hfin:∀(L' L:Array Bool),pC md l1 l2 L' L→Region.ready md l1.toArray L'=[]→L=(List.replicate l1.length true++List.replicate l2.length false).toArray:=by
  intro L' L hR hn
  refine Array.ext (by simp [hR.s2]) (fun j h1 _=>?_)
  by_cases hj:j < l1.length
  ·have:=hall L' L hR hn j hj
   rw [sP (by rw [hR.s1];omega)] at this
   rw [hR.same j (by rw [hR.s1];omega) h1,this]
   simp [hj]
  ·rw [hR.rest j h1 (by omega)]
   simp [List.getElem_append,hj]
 have hsub:∀(L' L:Array Bool),pC md l1 l2 L' L→∀i,i < l1.length→(i∈Region.ready md (l1++l2).toArray L↔i∈Region.ready md l1.toArray L'):=by
  intro L' L hR i hi
  rw [mem_ready,mem_ready,hR.get hi true]
  simp only [List.getElem?_toArray,aBm (l2:=l2) hi]
  refine and_congr Iff.rfl (exists_congr fun o=>and_congr_right fun ho=>forall_congr' fun e=>forall_congr' fun he=>forall_congr' fun hb=>?_)
  rw [hR.get (by have:=(aBl hc ho).1 e he hb;omega) false]
 intro fuel
 induction fuel with
 | zero=>
  intro L' L a w hR hC hq
  rw [Nat.zero_add,hfin L' L hR hq.1]
  exact h2 a w hC hq.2
 | succ fuel ih=>
  intro L' L a w hR hC hq
  by_cases hn:Region.ready md l1.toArray L'=[]
  ·rw [hfin L' L hR hn]
   exact aH6 (h2 a w hC (hq.1 hn)) _
  ·obtain ⟨i0,hi0⟩:=List.exists_mem_of_ne_nil _ hn
   have hl0:i0 < l1.length:=by
    obtain ⟨_,o,ho,_⟩:=mem_ready.1 hi0
    simpa using (Array.getElem?_eq_some_iff.1 ho).1
   rw [Nat.add_right_comm]
   refine ⟨fun h=>?_,fun i hi=>?_⟩
   ·have:=(hsub L' L hR i0 hl0).2 hi0
    rw [h] at this
    cases this
   ·by_cases hil:i < l1.length
    ·have hi':=(hsub L' L hR i hil).1 hi
     have hop:=hq.2 i hi'
     have hR':=hR.set hil hi
     unfold qOpIn at hop
     unfold wpOpIn
     simp only [List.getElem?_toArray,aBm (l2:=l2) hil] at hop ⊢
     rw [List.getElem?_eq_getElem hil] at hop ⊢
     simp only at hop ⊢
     rw [aTw hc (List.getElem?_eq_getElem hil)]
     obtain ⟨ha,hop⟩:=hop
     split
     ·rename_i hw
      simp only [hw,if_true] at hop
      exact aTx (hro _ (List.getElem_mem hil) _) hC (fun a' w' hC' hK=>ih _ _ a' w' hR' hC' hK) ha hop
     ·rename_i hw
      simp only [hw] at hop
      exact ⟨ha w hC,ih _ _ _ w hR' hC hop⟩
    ·exfalso
     obtain ⟨_,o,ho,hdeps⟩:=mem_ready.1 hi
     have hilt:i < l1.length+l2.length:=by simpa using (Array.getElem?_eq_some_iff.1 ho).1
     have:=aH4 hR.closed _ i i0 (aTv hc (by omega) hilt hl0) (fun o' ho'=>by
      simp only [List.getElem?_toArray] at ho
      rw [ho] at ho'
      cases ho'
      exact hdeps)
     rw [hR.get hl0 false] at this
     have hun:=(mem_ready.1 hi0).1
     rw [sP (by rw [hR.s1];omega)] at this hun
     rw [this] at hun
     cases hun
theorem aTz (N j:Nat):(Array.replicate N false).getD j false=false:=by
 unfold Array.getD
 split <;> simp
theorem aBn {id:Nat} {a:Act} {w:World} {ops:Array Oper} (l1 l2:List Oper) (ho:ops=(l1++l2).toArray) (hro:∀o∈l1,∀ρ,o.semAt F.round ρ=execOp ρ o) (hm:P.follows .mixedOrders=true) (hc:qF .any l1 l2=true) (hB:Region.lexB .any l1.toArray=true)
  (h:wpQuietIn F n P l1.toArray (fun w'=>∃n,w'=w.drewN n) (fun a'=>∀w',(∃n,w'=w.drewN n)→wpAnyIn F n P .any (l1++l2).toArray Q l2.length ((List.replicate l1.length true++List.replicate l2.length false).toArray) a' w') l1 a) :
  (Code.region id ops true).wpIn F n P Q a w:=by
 subst ho
 refine wpIn_region_any hm ?_
 simp only [Region.lexB,Bool.and_eq_true] at hB
 have hq:=wpAnyQIn_lex (F:=F) (n:=n) (P:=P) (C:=fun w'=>∃n,w'=w.drewN n) (md:=.any) hB.1 l1 0 (Array.replicate l1.toArray.size false) a (by simp) (by simpa using hB.2) h
 have:=aTy (l2:=l2) hro hc (fun a' w' hC hQ=>hQ w' hC) l1.length (Array.replicate l1.toArray.size false) (Array.replicate (l1++l2).toArray.size false) a (w.drewN 1) ⟨by simp,by simp,by simp,by simp,fun j o _ hj=>by rw [aTz] at hj;cases hj⟩ ⟨1,rfl⟩ hq
 simp only [List.size_toArray,List.length_append] at this ⊢
 exact this
theorem aH7 (h:F.round=none):∀o∈l1,∀ρ,o.semAt F.round ρ=execOp ρ o:=fun o _ ρ=>by rw [h,Oper.semAt_none]
def aH8 (l:List Oper):Bool:=l.all fun o=>match o.op with | .defer _=>false | _=>true
theorem aU0 (h:aH8 l1=true):∀o∈l1,∀ρ,o.semAt F.round ρ=execOp ρ o:=fun o ho ρ=>Oper.semAt_eq _ _ _ (fun c hc=>by
 have:=List.all_eq_true.1 h o ho
 rw [hc] at this
 cases this)
theorem uW {id:Nat} {a:Act} {w:World} {ops:Array Oper} (l1:List Oper) (ho:ops=l1.toArray) (hro:aH8 l1=true) (hm:P.follows .mixedOrders=true) (hc:qF .any l1 []=true) (hB:Region.lexB .any l1.toArray=true)
  (h:wpQuietIn F n P l1.toArray (fun w'=>∃n,w'=w.drewN n) (fun a'=>∀w',(∃n,w'=w.drewN n)→Q .normal a' w') l1 a) :
  (Code.region id ops true).wpIn F n P Q a w:=by
 refine aBn l1 [] (by rw [ho,List.append_nil]) (aU0 hro) hm hc hB ?_
 have hr:Region.ready .any (l1++[]).toArray ((List.replicate l1.length true++List.replicate ([]:List Oper).length false).toArray)=[]:=by
  refine List.eq_nil_iff_forall_not_mem.2 (fun j hj=>?_)
  obtain ⟨h1,o,ho,_⟩:=mem_ready.1 hj
  have hlt:j < l1.length:=by simpa using (Array.getElem?_eq_some_iff.1 ho).1
  rw [sP (by simpa using hlt)] at h1
  simp at h1
 have key:∀(l:List Oper) (a:Act),wpQuietIn F n P l1.toArray (fun w'=>∃n,w'=w.drewN n) (fun a'=>∀w',(∃n,w'=w.drewN n)→Q .normal a' w') l a→wpQuietIn F n P l1.toArray (fun w'=>∃n,w'=w.drewN n) (fun a'=>∀w',(∃n,w'=w.drewN n)→wpAnyIn F n P .any (l1++[]).toArray Q ([]:List Oper).length ((List.replicate l1.length true++List.replicate ([]:List Oper).length false).toArray) a' w') l a:=by
  intro l
  induction l with
  | nil=>exact fun a h w' hw=>wpAnyIn_done hr (h w' hw) _
  | cons o l ih=>
   intro a h
   refine ⟨h.1,?_⟩
   have h2:=h.2
   split at h2
   ·rename_i hw
    rw [if_pos hw]
    exact Oper.quietIn_mono ih h2
   ·rename_i hw
    rw [if_neg hw]
    exact ih _ h2
 exact key l1 a h
end
end Go.Proofs.YtbddofieljiihaaGreatDoor
