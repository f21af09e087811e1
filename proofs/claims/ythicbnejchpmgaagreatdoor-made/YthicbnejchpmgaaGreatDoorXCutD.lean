/- A region that draws its order: what only reads is gone through once, ahead of what waits for all of it. The program: the pairs of places of two clauses whose atoms have the same name, gone through by an iterator. The program: is a clause idle? -/
import Derived.Sort.QuietIn
import Derived.Test.YthicbnejchpmgaaGreatDoorVClMD
import Derived.Shelf.RegionOpen
import Derived.OwnWalkIn
import Derived.TacticsInMore
import Derived.LoopNIn
import Derived.LoopIn
namespace Go.Proofs.YthicbnejchpmgaaGreatDoor
open Go Go.RowKit
section
variable {F:Fence} {n:Nat} {P:Program} {md:Region.Mode} {Q:Exit→Act→World→Prop} {l1 l2:List Oper} {C:World→Prop} {Q1:Act→Prop}
def uZ (md:Region.Mode) (ops:List Oper):Nat→Nat→Nat→Bool
 | 0,_,_=>false
 | f+1,j,i=>match ops[j]? with
  | none=>false
  | some o=>o.after.any fun e=>Region.binds md e && (e.on == i || uZ md ops f e.on i)
def qQ (md:Region.Mode) (l1 l2:List Oper):Bool:=
 ((List.range l1.length).all fun j=>match l1[j]? with
  | none=>true
  | some o=>(o.after.all fun e=>!Region.binds md e || decide (e.on < j)) && (match o.guard with | none=>true | some g=>decide (g.1 < l1.length))) &&
 ((List.range l2.length).all fun t=>(List.range l1.length).all fun i=>uZ md (l1++l2) (l1.length+l2.length) (l1.length+t) i)
theorem aBi (h:qQ md l1 l2=true) {j:Nat} {o:Oper} (ho:l1[j]?=some o):(∀e∈o.after,Region.binds md e=true→e.on < j)∧∀g,o.guard=some g→g.1 < l1.length:=by
 have hj:=(List.getElem?_eq_some_iff.1 ho).1
 simp only [qQ,Bool.and_eq_true,List.all_eq_true,List.mem_range] at h
 have:=h.1 j hj
 rw [ho] at this
 simp only [Bool.and_eq_true] at this
 refine ⟨fun e he hb=>?_,fun g hg=>?_⟩
 ·have h1:=this.1
  rw [Array.all_eq_true_iff_forall_mem] at h1
  have:=h1 e he
  simpa [hb] using this
 ·have h1:=this.2
  rw [hg] at h1
  simpa using h1
theorem aT5 (h:qQ md l1 l2=true) {j i:Nat} (hj:l1.length≤j) (hj2:j < l1.length+l2.length) (hi:i < l1.length):uZ md (l1++l2) (l1.length+l2.length) j i=true:=by
 simp only [qQ,Bool.and_eq_true,List.all_eq_true,List.mem_range] at h
 have:=h.2 (j - l1.length) (by omega) i hi
 rwa [show l1.length+(j - l1.length)=j by omega] at this
def aHc (md:Region.Mode) (ops:List Oper) (L:Array Bool):Prop:=∀j o,ops[j]?=some o→L.getD j false=true→∀e∈o.after,Region.binds md e=true→L.getD e.on false=true
theorem aHd {ops:List Oper} {L:Array Bool} (hL:aHc md ops L):∀(f j i:Nat),uZ md ops f j i=true→(∀o,ops[j]?=some o→∀e∈o.after,Region.binds md e=true→L.getD e.on false=true)→L.getD i false=true
 | 0,_,_,h,_=>by cases h
 | f+1,j,i,h,hd=>by
  unfold uZ at h
  cases ho:ops[j]? with
  | none=>rw [ho] at h;cases h
  | some o=>
   rw [ho] at h
   simp only [Array.any_eq_true',Bool.and_eq_true,Bool.or_eq_true,beq_iff_eq] at h
   obtain ⟨e,he,hb,hr⟩:=h
   have hl:=hd o ho e he hb
   rcases hr with rfl | hr
   ·exact hl
   ·exact aHd hL f e.on i hr (fun o' ho'=>hL e.on o' ho' hl)
structure pO (md:Region.Mode) (l1 l2:List Oper) (L' L:Array Bool):Prop where
 s1:L'.size=l1.length
 s2:L.size=l1.length+l2.length
 same:∀j (h1:j < L'.size) (h2:j < L.size),L[j]=L'[j]
 rest:∀j (h:j < L.size),l1.length≤j→L[j]=false
 closed:aHc md (l1++l2) L
theorem tE {L:Array Bool} {j:Nat} (h:j < L.size) (b:Bool):L.getD j b=L[j]:=by simp [h]
theorem pO.get {L' L:Array Bool} (h:pO md l1 l2 L' L) {j:Nat} (hj:j < l1.length) (b:Bool):L.getD j b=L'.getD j b:=by
 rw [tE (by rw [h.s2];omega),tE (by rw [h.s1];omega)]
 exact h.same j _ _
theorem aBj {j:Nat} (hj:j < l1.length):(l1++l2)[j]?=l1[j]?:=List.getElem?_append_left hj
theorem aHe {ops:Array Oper}:∀(f:Nat) (L:Array Bool) (a:Act) (w:World),wpAnyIn F n P md ops Q f L a w→wpAnyIn F n P md ops Q (f+1) L a w
 | 0,_,_,_,h=>⟨fun _=>h.2,fun i hi=>by rw [h.1] at hi;cases hi⟩
 | f+1,_,_,_,h=>⟨h.1,fun i hi=>wpOpIn_mono (fun a w hh=>aHe f _ a w hh) (h.2 i hi)⟩
theorem aHf {ops:Array Oper} {f:Nat} {L:Array Bool} {a:Act} {w:World} (h:wpAnyIn F n P md ops Q f L a w):∀k,wpAnyIn F n P md ops Q (k+f) L a w
 | 0=>by rw [Nat.zero_add];exact h
 | k+1=>by rw [Nat.add_right_comm];exact aHe _ _ _ _ (aHf h k)
theorem aT6 (h:qQ md l1 l2=true) {j:Nat} {o:Oper} (ho:l1[j]?=some o) (tmps:Array Value):Region.wanted o (yielded (l1++l2).toArray tmps)=Region.wanted o (yielded l1.toArray tmps):=by
 have hg:=(aBi h ho).2
 unfold Region.wanted
 cases hq:o.guard with
 | none=>rfl
 | some g=>
  obtain ⟨k,b⟩:=g
  have hk:k < l1.length:=hg _ hq
  simp only [yielded,List.getElem?_toArray,aBj (l2:=l2) hk]
theorem pO.set {L' L:Array Bool} (h:pO md l1 l2 L' L) {i:Nat} (hi:i < l1.length) (hr:i∈Region.ready md (l1++l2).toArray L):pO md l1 l2 (L'.setIfInBounds i true) (L.setIfInBounds i true):=by
 refine ⟨by simpa using h.s1,by simpa using h.s2,fun j h1 h2=>?_,fun j hj hle=>?_,fun j o ho hj e he hb=>?_⟩
 ·have h1':j < L'.size:=by simpa using h1
  have h2':j < L.size:=by simpa using h2
  rw [Array.getElem_setIfInBounds (by simpa using h2),Array.getElem_setIfInBounds (by simpa using h1)]
  split
  ·rfl
  ·exact h.same j h1' h2'
 ·have hj':j < L.size:=by simpa using hj
  rw [Array.getElem_setIfInBounds (by simpa using hj),if_neg (by omega)]
  exact h.rest j hj' hle
 ·refine getD_set_true ?_
  by_cases e1:i=j
  ·subst e1
   obtain ⟨_,o',ho',hall⟩:=mem_ready.1 hr
   simp only [List.getElem?_toArray] at ho'
   rw [ho] at ho'
   cases ho'
   exact hall e he hb
  ·rw [getD_set_ne false e1] at hj
   exact h.closed j o ho hj e he hb
theorem aT7 {o:Oper} {a:Act} {K:Act→Prop} {K':Act→World→Prop} {Q':Exit→Act→World→Prop} {w:World} (hs:o.semAt F.round a.eval=execOp a.eval o) (hw:C w) (h:∀a w',C w'→K a→K' a w')
  (ha:o.askedIn F P a C) (hh:o.quietIn F n P a C K):o.wpIn F n P a w K' Q':=by
 obtain ⟨v,h1,h2⟩:=hh
 have h3:=h1 w hw
 unfold Oper.quietAtIn at h3
 refine ⟨ha w hw,?_⟩
 rw [hs]
 revert h3
 generalize (execOp a.eval o).run P w=r
 intro h3
 match r,h3 with
 | .ok (.value u) w',h3=>
  obtain ⟨rfl,rfl⟩:=h3
  exact h _ _ hw h2
 | .ok .skip w',h3=>
  obtain ⟨rfl,rfl⟩:=h3
  exact h _ _ hw h2
 | .ok (.enter f args) w',h3=>
  obtain ⟨rfl,hd,hc⟩:=h3
  exact ⟨hd,hc.mono fun e w'' he=>by
   obtain ⟨rfl,hw''⟩:=he
   exact h _ _ hw'' h2⟩
theorem aT8 (hro:∀o∈l1,∀ρ,o.semAt F.round ρ=execOp ρ o) (hc:qQ md l1 l2=true)
  (h2:∀a w,C w→Q1 a→wpAnyIn F n P md (l1++l2).toArray Q l2.length ((List.replicate l1.length true++List.replicate l2.length false).toArray) a w) :
  ∀(fuel:Nat) (L' L:Array Bool) (a:Act) (w:World),pO md l1 l2 L' L→C w→wpAnyQIn F n P md l1.toArray C Q1 fuel L' a→wpAnyIn F n P md (l1++l2).toArray Q (fuel+l2.length) L a w:=by
 have hall:∀(L' L:Array Bool),pO md l1 l2 L' L→Region.ready md l1.toArray L'=[]→∀j,j < l1.length→L'.getD j true=true:=by
  intro L' L hR hn j
  induction j using Nat.strongRecOn with
  | _ j ih=>
   intro hj
   cases hx:L'.getD j true with
   | true=>rfl
   | false=>
    have:j∈Region.ready md l1.toArray L':=by
     refine mem_ready.2 ⟨hx,l1[j],by simp [hj],fun e he hb=>?_⟩
     have hlt:=(aBi hc (List.getElem?_eq_getElem hj)).1 e he hb
     have:=ih e.on hlt (by omega)
     rw [tE (by rw [hR.s1];omega)] at this ⊢
     exact this
    rw [hn] at this
    cases this
 have hfin:∀(L' L:Array Bool),pO md l1 l2 L' L→Region.ready md l1.toArray L'=[]→L=(List.replicate l1.length true++List.replicate l2.length false).toArray:=by
  intro L' L hR hn
  refine Array.ext (by simp [hR.s2]) (fun j h1 _=>?_)
  by_cases hj:j < l1.length
  ·have:=hall L' L hR hn j hj
   rw [tE (by rw [hR.s1];omega)] at this
   rw [hR.same j (by rw [hR.s1];omega) h1,this]
   simp [hj]
  ·rw [hR.rest j h1 (by omega)]
   simp [List.getElem_append,hj]
 have hsub:∀(L' L:Array Bool),pO md l1 l2 L' L→∀i,i < l1.length→(i∈Region.ready md (l1++l2).toArray L↔i∈Region.ready md l1.toArray L'):=by
  intro L' L hR i hi
  rw [mem_ready,mem_ready,hR.get hi true]
  simp only [List.getElem?_toArray,aBj (l2:=l2) hi]
  refine and_congr Iff.rfl (exists_congr fun o=>and_congr_right fun ho=>forall_congr' fun e=>forall_congr' fun he=>forall_congr' fun hb=>?_)
  rw [hR.get (by have:=(aBi hc ho).1 e he hb;omega) false]
 intro fuel
 induction fuel with
 | zero=>
  intro L' L a w hR hC hq
  rw [Nat.zero_add,hfin L' L hR hq.1]
  exact h2 a w hC hq.2
 | succ fuel ih=>
  intro L' L a w hR hC hq
  by_cases hn:Region.ready md l1.toArray L'=[]
  ·rw [hfin L' L hR hn]
   exact aHf (h2 a w hC (hq.1 hn)) _
  ·obtain ⟨i0,hi0⟩:=List.exists_mem_of_ne_nil _ hn
   have hl0:i0 < l1.length:=by
    obtain ⟨_,o,ho,_⟩:=mem_ready.1 hi0
    simpa using (Array.getElem?_eq_some_iff.1 ho).1
   rw [Nat.add_right_comm]
   refine ⟨fun h=>?_,fun i hi=>?_⟩
   ·have:=(hsub L' L hR i0 hl0).2 hi0
    rw [h] at this
    cases this
   ·by_cases hil:i < l1.length
    ·have hi':=(hsub L' L hR i hil).1 hi
     have hop:=hq.2 i hi'
     have hR':=hR.set hil hi
     unfold qOpIn at hop
     unfold wpOpIn
     simp only [List.getElem?_toArray,aBj (l2:=l2) hil] at hop ⊢
     rw [List.getElem?_eq_getElem hil] at hop ⊢
     simp only at hop ⊢
     rw [aT6 hc (List.getElem?_eq_getElem hil)]
     obtain ⟨ha,hop⟩:=hop
     split
     ·rename_i hw
      simp only [hw,if_true] at hop
      exact aT7 (hro _ (List.getElem_mem hil) _) hC (fun a' w' hC' hK=>ih _ _ a' w' hR' hC' hK) ha hop
     ·rename_i hw
      simp only [hw] at hop
      exact ⟨ha w hC,ih _ _ _ w hR' hC hop⟩
    ·exfalso
     obtain ⟨_,o,ho,hdeps⟩:=mem_ready.1 hi
     have hilt:i < l1.length+l2.length:=by simpa using (Array.getElem?_eq_some_iff.1 ho).1
     have:=aHd hR.closed _ i i0 (aT5 hc (by omega) hilt hl0) (fun o' ho'=>by
      simp only [List.getElem?_toArray] at ho
      rw [ho] at ho'
      cases ho'
      exact hdeps)
     rw [hR.get hl0 false] at this
     have hun:=(mem_ready.1 hi0).1
     rw [tE (by rw [hR.s1];omega)] at this hun
     rw [this] at hun
     cases hun
theorem aT9 (N j:Nat):(Array.replicate N false).getD j false=false:=by
 unfold Array.getD
 split <;> simp
theorem aBk {id:Nat} {a:Act} {w:World} {ops:Array Oper} (l1 l2:List Oper) (ho:ops=(l1++l2).toArray) (hro:∀o∈l1,∀ρ,o.semAt F.round ρ=execOp ρ o) (hm:P.follows .mixedOrders=true) (hc:qQ .any l1 l2=true) (hB:Region.lexB .any l1.toArray=true)
  (h:wpQuietIn F n P l1.toArray (fun w'=>∃n,w'=w.drewN n) (fun a'=>∀w',(∃n,w'=w.drewN n)→wpAnyIn F n P .any (l1++l2).toArray Q l2.length ((List.replicate l1.length true++List.replicate l2.length false).toArray) a' w') l1 a) :
  (Code.region id ops true).wpIn F n P Q a w:=by
 subst ho
 refine wpIn_region_any hm ?_
 simp only [Region.lexB,Bool.and_eq_true] at hB
 have hq:=wpAnyQIn_lex (F:=F) (n:=n) (P:=P) (C:=fun w'=>∃n,w'=w.drewN n) (md:=.any) hB.1 l1 0 (Array.replicate l1.toArray.size false) a (by simp) (by simpa using hB.2) h
 have:=aT8 (l2:=l2) hro hc (fun a' w' hC hQ=>hQ w' hC) l1.length (Array.replicate l1.toArray.size false) (Array.replicate (l1++l2).toArray.size false) a (w.drewN 1) ⟨by simp,by simp,by simp,by simp,fun j o _ hj=>by rw [aT9] at hj;cases hj⟩ ⟨1,rfl⟩ hq
 simp only [List.size_toArray,List.length_append] at this ⊢
 exact this
theorem aHg (h:F.round=none):∀o∈l1,∀ρ,o.semAt F.round ρ=execOp ρ o:=fun o _ ρ=>by rw [h,Oper.semAt_none]
def aHh (l:List Oper):Bool:=l.all fun o=>match o.op with | .defer _=>false | _=>true
theorem aTa (h:aHh l1=true):∀o∈l1,∀ρ,o.semAt F.round ρ=execOp ρ o:=fun o ho ρ=>Oper.semAt_eq _ _ _ (fun c hc=>by
 have:=List.all_eq_true.1 h o ho
 rw [hc] at this
 cases this)
theorem vA {id:Nat} {a:Act} {w:World} {ops:Array Oper} (l1:List Oper) (ho:ops=l1.toArray) (hro:aHh l1=true) (hm:P.follows .mixedOrders=true) (hc:qQ .any l1 []=true) (hB:Region.lexB .any l1.toArray=true)
  (h:wpQuietIn F n P l1.toArray (fun w'=>∃n,w'=w.drewN n) (fun a'=>∀w',(∃n,w'=w.drewN n)→Q .normal a' w') l1 a) :
  (Code.region id ops true).wpIn F n P Q a w:=by
 refine aBk l1 [] (by rw [ho,List.append_nil]) (aTa hro) hm hc hB ?_
 have hr:Region.ready .any (l1++[]).toArray ((List.replicate l1.length true++List.replicate ([]:List Oper).length false).toArray)=[]:=by
  refine List.eq_nil_iff_forall_not_mem.2 (fun j hj=>?_)
  obtain ⟨h1,o,ho,_⟩:=mem_ready.1 hj
  have hlt:j < l1.length:=by simpa using (Array.getElem?_eq_some_iff.1 ho).1
  rw [tE (by simpa using hlt)] at h1
  simp at h1
 have key:∀(l:List Oper) (a:Act),wpQuietIn F n P l1.toArray (fun w'=>∃n,w'=w.drewN n) (fun a'=>∀w',(∃n,w'=w.drewN n)→Q .normal a' w') l a→wpQuietIn F n P l1.toArray (fun w'=>∃n,w'=w.drewN n) (fun a'=>∀w',(∃n,w'=w.drewN n)→wpAnyIn F n P .any (l1++[]).toArray Q ([]:List Oper).length ((List.replicate l1.length true++List.replicate ([]:List Oper).length false).toArray) a' w') l a:=by
  intro l
  induction l with
  | nil=>exact fun a h w' hw=>wpAnyIn_done hr (h w' hw) _
  | cons o l ih=>
   intro a h
   refine ⟨h.1,?_⟩
   have h2:=h.2
   split at h2
   ·rename_i hw
    rw [if_pos hw]
    exact Oper.quietIn_mono ih h2
   ·rename_i hw
    rw [if_neg hw]
    exact ih _ h2
 exact key l1 a h
end
end Go.Proofs.YthicbnejchpmgaaGreatDoor
namespace Go.Proofs.YthicbnejchpmgaaGreatDoor
open Go.RowKit Go.Shelf Go.WideMaps
set_option maxRecDepth 100000
attribute [local go_sem] Oper.semAt_some
def iY (c:List Lt) (i:Nat):Option Nd:=(c[i]?).bind fun x=>x.2[0]?
def kU (c d:List Lt) (i m:Nat):List (Nat×Nat):=((List.range m).filter fun j=>decide (iY c i=iY d j)).map fun j=>(i,j)
def lT (c d:List Lt) (m:Nat):List (Nat×Nat):=(List.range m).flatMap fun i=>kU c d i d.length
def fT (c d:List Lt):List (Nat×Nat):=lT c d c.length
theorem aBl (c d:List Lt) (m:Nat):lT c d (m+1)=lT c d m++kU c d m d.length:=by simp [lT,List.range_succ]
theorem xX (c d:List Lt) (i m:Nat):kU c d i (m+1)=kU c d i m++if iY c i=iY d m then [(i,m)] else []:=by
 unfold kU
 rw [List.range_succ,List.filter_append,List.map_append]
 congr 1
 by_cases h:iY c i=iY d m <;> simp [h]
theorem aTb (c d:List Lt) {m n:Nat} (h:m≤n):lT c d m <+: lT c d n:=by
 obtain ⟨k,rfl⟩ : ∃k,n=m+k:=⟨n - m,by omega⟩
 clear h
 induction k with
 | zero=>exact List.prefix_refl _
 | succ k ih=>rw [←Nat.add_assoc,aBl];exact ih.trans (List.prefix_append _ _)
theorem aTc (c d:List Lt) (i:Nat) {m n:Nat} (h:m≤n):kU c d i m <+: kU c d i n:=by
 obtain ⟨k,rfl⟩ : ∃k,n=m+k:=⟨n - m,by omega⟩
 clear h
 induction k with
 | zero=>exact List.prefix_refl _
 | succ k ih=>rw [←Nat.add_assoc,xX];exact ih.trans (List.prefix_append _ _)
theorem aTd {c d:List Lt} {i j:Nat} (hi:i < c.length) (hj:j < d.length) (h:iY c i=iY d j):(fT c d)[(lT c d i++kU c d i j).length]?=some (i,j):=by
 have h1:kU c d i (j+1) <+: kU c d i d.length:=aTc c d i (by omega)
 have h2:lT c d (i+1) <+: fT c d:=aTb c d (by omega)
 rw [xX,if_pos h] at h1
 rw [aBl] at h2
 obtain ⟨t1,e1⟩:=h1
 obtain ⟨t2,e2⟩:=h2
 rw [←e2,←e1]
 simp
def bM:List TypeId:=[89,115,86]
structure nS (B:Nat) (W:World) (b1 b2:Nat) (v1 v2:Value) (c d:List Lt):Prop where
 x1:Boxed W b1 52 v1
 x2:Boxed W b2 52 v2
 m1:bK B W v1 c
 m2:bK B W v2 d
theorem nS.kept {B:Nat} {W W':World} {b1 b2:Nat} {v1 v2:Value} {c d:List Lt} (h:nS B W b1 b2 v1 v2 c d) (k:cI bM W W'):nS B W' b1 b2 v1 v2 c d:=
 ⟨k.boxed h.x1 (by decide),k.boxed h.x2 (by decide),k.clause h.m1 (by decide) (by decide),k.clause h.m2 (by decide) (by decide)⟩
theorem nS.drawn {B:Nat} {W:World} {b1 b2:Nat} {v1 v2:Value} {c d:List Lt} (h:nS B W b1 b2 v1 v2 c d) (k:Nat):nS B (W.drewN k) b1 b2 v1 v2 c d:=
 h.kept (Mv.of_below (S:=bM) (B:=0) (aN ⟨k,rfl⟩)).kps
theorem aHi {J:Nat→World→Prop} {N:Nat} (h:OwnFrom N J) {s:Nat} {w:World} (hJ:J s w) (d:Nat):J s (w.drewN d):=
 h s w _ none hJ ⟨rfl,rfl,rfl,Nat.le_refl _,fun _ _ _=>rfl⟩ (fun r e=>by cases e)
theorem aHj {c:List Lt} {i:Nat} (hi:i < c.length) (h:0 < c[i].2.length):iY c i=some c[i].2[0]:=by
 unfold iY
 rw [List.getElem?_eq_getElem hi]
 simp [List.getElem?_eq_getElem h]
set_option maxHeartbeats 4000000 in
theorem aHk (n b1 b2 B:Nat) (v1 v2:Value) (c d:List Lt) (hn:1≤n) (nc:jK c) (nd:jK d) (W:World) (hW:nS B W b1 b2 v1 v2 c d) :
  rR Fence.wide n Tryz.prog 122 #[.pointer (some ⟨b1,0,none⟩),.pointer (some ⟨b2,0,none⟩)] (fun (x:Nat×Nat) args _=>args=#[.int .i64 x.1,.int .i64 x.2]) bM (fT c d) W:=by
 intro l J Jx hJ hJx hY h0
 have hc8:=nc.len
 have hd8:=nd.len
 have HY:=aA hY
 have HJ:=aA hJ
 clear hY hJ
 refine callsIn_of_wp Tryz.func122 rfl trivial ?_
 simp only [Tryz.ntmps122,List.size_toArray,List.length_cons,List.length_nil,Nat.reduceAdd,Nat.reduceSub,Array.replicate_succ,Array.replicate_zero,List.push_toArray,List.append_toArray,List.nil_append,List.cons_append]
 obtain ⟨a1,c1,rfl,_,L1,_⟩:=hW.m1.lits nc
 obtain ⟨a2,c2,rfl,_,L2,_⟩:=hW.m2.lits nd
 have e1:=hW.x1.cell
 have HW:=aA hW
 clear hW L1 L2
 gi_wp2
 clear e1
 gi_loopw [8] (fun p wr=>∃i:Nat,i≤c.length∧p=.int .i64 i∧nS B wr b1 b2 (.slice a1 c.length c1) (.slice a2 d.length c2) c d∧J (lT c d i).length wr) (fun p _=>c.length - (intOf p).toNat)
 case atStart=>exact ⟨0,Nat.zero_le _,by go_num,HW.out,by simpa [lT] using h0⟩
 case round=>
  obtain ⟨i,hi,rfl,hI,hJs⟩:=hrel
  have f2:=hI.x2.cell
  have HI:=aA hI
  have HJS:=aA hJs
  clear hI hJs
  by_cases hlt:i < c.length
  ·have hlti:(i:Int) < (c.length:Int):=by omega
   gi_wp2
   clear f2
   gi_loopw [13] (fun p wr=>∃j:Nat,j≤d.length∧p=.int .i64 j∧nS B wr b1 b2 (.slice a1 c.length c1) (.slice a2 d.length c2) c d∧J (lT c d i++kU c d i j).length wr) (fun p _=>d.length - (intOf p).toNat)
   case atStart=>exact ⟨0,Nat.zero_le _,by go_num,HI.out,by simpa [kU] using HJS.out⟩
   case round=>
    obtain ⟨j,hj,rfl,hI,hJs⟩:=hrel
    by_cases hltj:j < d.length
    ·have hltji:(j:Int) < (d.length:Int):=by omega
     obtain ⟨a1',c1',ea,_,L1,_⟩:=hI.m1.lits nc
     obtain ⟨a2',c2',eb,_,L2,_⟩:=hI.m2.lits nd
     cases ea
     cases eb
     obtain ⟨g1,o1,aa,ac,rfl,k1,k2,k3⟩:=L1.cell i hlt
     obtain ⟨g2,o2,ba,bc,rfl,q1,q2,q3⟩:=L2.cell j hltj
     have hx0:=(nc.nodes (List.getElem_mem hlt)).2.1
     have hy0:=(nd.nodes (List.getElem_mem hltj)).2.1
     obtain ⟨g3,o3,rfl,s1,s2⟩:=k3.cell 0 hx0
     obtain ⟨g4,o4,rfl,t1,t2⟩:=q3.cell 0 hy0
     have hx1:=aHj hlt hx0
     have hy1:=aHj hltj hy0
     have e1:=hI.x1.cell
     have e2:=hI.x2.cell
     generalize hxe:c[i].2[0]=xe at *
     generalize hye:d[j].2[0]=ye at *
     obtain ⟨xs,xn⟩:=xe
     obtain ⟨ys,yn⟩:=ye
     simp only [Nat.zero_mul,Nat.add_zero] at s1 s2 t1 t2
     have hm1:(0:Int) < (c[i].2.length:Int):=by omega
     have hm2:(0:Int) < (d[j].2.length:Int):=by omega
     clear hxe hye hx0 hy0 k3 q3 L1 L2
     generalize c[i].2.length=m1 at *
     generalize d[j].2.length=m2 at *
     have hqn:=qW xs ys xn yn
     have hqg:=qU
     have hnbq:=qV (xs,xn) (ys,yn)
     simp only at hnbq
     have HI:=aA hI
     have HJS:=aA hJs
     clear hI hJs k1 q1
     by_cases hll:(xs,xn)=(ys,yn)
     ·rw [decide_eq_true hll] at hnbq
      have hmix:Tryz.prog.follows .mixedOrders=true:=by kernel_rfl
      have hhd:iY c i=iY d j:=by rw [hx1,hy1,hll]
      gi_wp2
      refine aBk [_,_,_,_,_,_,_,_,_,_,_,_,_,_,_,_,_,_,_] [_,_,_] rfl (aHg rfl) hmix (by kernel_rfl) (by kernel_rfl) ?_
      repeat (gi_big_quiet_step (fail))
      refine wpQuietIn_nil ?_
      rintro _ ⟨nq,rfl⟩
      obtain ⟨fn,tmps,assign,body,hy,hR⟩:=HY.out _ (i,j) #[.int .i64 i,.int .i64 j] (wr.drewN nq) (aTd hlt hltj hhd) (aHi HJ.out HJS.out nq) rfl
      refine wpAnyIn_ready (rs:=[19]) (by kernel_rfl) (by simp) ?_
      refine AllReadyIn.cons rfl (fun K hK=>?_) AllReadyIn.nil
      go_simp
      refine hR.mono ?_
      rintro e W3 (⟨rfl,hJ3,hk3⟩ | ⟨rfl,hJx3,_⟩)
      ·refine hK _ _ ?_
       clear hK K
       refine wpAnyIn_ready (rs:=[20]) (by kernel_rfl) (by simp) ?_
       refine AllReadyIn.cons rfl (fun K hK=>?_) AllReadyIn.nil
       go_simp
       refine hK _ _ ?_
       clear hK K
       refine wpAnyIn_ready (rs:=[21]) (by kernel_rfl) (by simp) ?_
       refine AllReadyIn.cons rfl (fun K hK=>?_) AllReadyIn.nil
       go_simp
       refine hK _ _ ?_
       clear hK K
       refine wpAnyIn_done (by kernel_rfl) ?_ _
       gi_wp2
       go_roundw
       case rel=>exact ⟨j+1,by omega,by go_num,(HI.out.drawn nq).kept hk3.1,by rw [xX,if_pos hhd,←List.append_assoc,List.length_append];exact hJ3⟩
       case measure=>simp [intOf];omega
      ·refine hK _ _ ?_
       clear hK K
       refine wpAnyIn_ready (rs:=[20]) (by kernel_rfl) (by simp) ?_
       refine AllReadyIn.cons rfl (fun K hK=>?_) AllReadyIn.nil
       go_simp
       refine hK _ _ ?_
       clear hK K
       refine wpAnyIn_ready (rs:=[21]) (by kernel_rfl) (by simp) ?_
       refine AllReadyIn.cons rfl (fun K hK=>?_) AllReadyIn.nil
       go_simp
       refine hK _ _ ?_
       clear hK K
       refine wpAnyIn_done (by kernel_rfl) ?_ _
       gi_wp2
       refine bodyPost_ret (results_none rfl _ _ _) rfl ?_
       exact ⟨⟨_,rfl⟩,.inr ⟨_,hJx3⟩⟩
     ·rw [decide_eq_false hll] at hnbq
      have hmix:Tryz.prog.follows .mixedOrders=true:=by kernel_rfl
      gi_wp2
      refine aBk [_,_,_,_,_,_,_,_,_,_,_,_,_,_,_,_,_,_,_] [_,_,_] rfl (aHg rfl) hmix (by kernel_rfl) (by kernel_rfl) ?_
      repeat (gi_big_quiet_step (fail))
      refine wpQuietIn_nil ?_
      rintro _ ⟨nq,rfl⟩
      refine wpAnyIn_ready (rs:=[19]) (by kernel_rfl) (by simp) ?_
      refine AllReadyIn.cons rfl (fun K hK=>?_) AllReadyIn.nil
      go_simp
      refine ⟨fun _ _=>trivial,hK _ _ ?_⟩
      clear hK K
      refine wpAnyIn_ready (rs:=[20]) (by kernel_rfl) (by simp) ?_
      refine AllReadyIn.cons rfl (fun K hK=>?_) AllReadyIn.nil
      go_simp
      refine hK _ _ ?_
      clear hK K
      refine wpAnyIn_ready (rs:=[21]) (by kernel_rfl) (by simp) ?_
      refine AllReadyIn.cons rfl (fun K hK=>?_) AllReadyIn.nil
      go_simp
      refine hK _ _ ?_
      clear hK K
      refine wpAnyIn_done (by kernel_rfl) ?_ _
      gi_wp2
      go_roundw
      case rel=>exact ⟨j+1,by omega,by go_num,HI.out.drawn nq,by rw [xX,if_neg (by rw [hx1,hy1];intro e;exact hll (Option.some.inj e)),List.append_nil];exact aHi HJ.out HJS.out nq⟩
      case measure=>simp [intOf];omega
    ·have hltji:¬(j:Int) < (d.length:Int):=by omega
     have hjd:j=d.length:=by omega
     have HI:=aA hI
     have HJS:=aA hJs
     clear hI hJs
     gi_wp2
     go_roundw
     case rel=>exact ⟨i+1,by omega,by go_num,HI.out,by rw [aBl,←hjd];exact HJS.out⟩
     case measure=>simp [intOf];omega
  ·have hlti:¬(i:Int) < (c.length:Int):=by omega
   have hic:i=c.length:=by omega
   gi_wp2
   go_end0
   exact ⟨⟨_,rfl⟩,.inl (by unfold fT;rw [←hic];exact HJS.out)⟩
end Go.Proofs.YthicbnejchpmgaaGreatDoor
namespace Go.Proofs.YthicbnejchpmgaaGreatDoor
open Go.RowKit Go.Shelf
set_option maxRecDepth 100000
theorem aTe (xb yb:Bool) (a1 a2:Option Addr) (c1 c2 g:Nat) (xl yl:List Nd) (w:World) (h1:bQ w a1 xl) (h2:bQ w a2 yl) (g0:w.cell? ⟨g,0,none⟩=some (.bool yb)) (g1:w.cell? ⟨g,1,none⟩=some (.slice a2 yl.length c2)) :
  Calls Tryz.prog 85 #[.agg #[.bool xb,.slice a1 xl.length c1],.pointer (some ⟨g,0,none⟩)] w fun e w'=>e=.returned (.bool (kH (xb,xl) (yb,yl)))∧Below w.heap.size w w':=by
 have hb0:Below w.heap.size w (w.alloc (.cells #[.bool xb,.slice a1 xl.length c1] 66)):=(Below.refl _ _).alloc (Nat.le_refl _) _
 have CS:=aA (zY xb yb a1 a2 c1 c2 xl yl _ (h1.below hb0 (Nat.le_refl _)) (h2.below hb0 (Nat.le_refl _)))
 have q0:=Below.at' hb0 (Nat.le_refl _) g0
 have q1:=Below.at' hb0 (Nat.le_refl _) g1
 have HB0:=aA hb0
 clear hb0 h1 h2
 go_enter Tryz.func85,Tryz.ntmps85
 go_wp2_with (go_at_call 43;refine (aB CS).mono ?_;rintro e w1 ⟨rfl,hb⟩;have HB1:=aA (HB0.out.trans (hb.mono (by simp)));clear hb)
 go_ret
 exact ⟨rfl,HB1.out⟩
set_option maxHeartbeats 1000000 in
theorem aTf (a a2:Option Addr) (cap c2 g:Nat) (P:List (Lt×Value)) (yb:Bool) (yl:List Nd) (w:World) (hf:P.length≤4398046511104)
  (hc:∀k (h:k < P.length),∃g',a=some ⟨g',0,none⟩∧w.cell? ⟨g',k * 2,none⟩=some (.bool P[k].1.1)∧w.cell? ⟨g',k * 2+1,none⟩=some P[k].2)
  (hA:∀p∈P,jV w p.2 p.1.2) (h2:bQ w a2 yl) (g0:w.cell? ⟨g,0,none⟩=some (.bool yb)) (g1:w.cell? ⟨g,1,none⟩=some (.slice a2 yl.length c2)) :
  Calls Tryz.prog 101 #[.slice a P.length cap,.func (Fn.func 85) #[] #[.pointer (some ⟨g,0,none⟩)]] w fun e w'=>∃r:Int,e=.returned (.int .i64 r)∧decide (0≤r)=eR (P.map Prod.fst) (yb,yl)∧Below w.heap.size w w':=by
 have HC:=aA hc
 have HA:=aA hA
 have H2:=aA h2
 clear hc hA h2
 go_enter Tryz.func101,Tryz.ntmps101
 go_wp2
 go_loopw [8] (fun i wr=>∃k:Nat,k≤P.length∧i=.int .i64 k∧eR ((P.map Prod.fst).take k) (yb,yl)=false∧Below w.heap.size w wr) (fun i _=>P.length - (intOf i).toNat)
 case atStart=>exact ⟨0,Nat.zero_le _,rfl,rfl,Below.refl _ _⟩
 case round=>
  obtain ⟨k,hk,rfl,hm,hb⟩:=hrel
  have HM:=aA hm
  clear hm
  by_cases hlt:k < P.length
  ·obtain ⟨g',rfl,e1,f1⟩:=HC.out k hlt
   obtain ⟨pa,pcp,hpv,hpn⟩:=HA.out P[k] (List.getElem_mem _)
   rw [hpv] at f1
   have hmt:=aEd P (yb,yl) k hlt
   rw [HM.out,Bool.false_or] at hmt
   have hmx:=aEe P (yb,yl) (k+1)
   rw [hmt] at hmx
   generalize P[k].1=x at *
   obtain ⟨xb,xl⟩:=x
   simp only at e1 f1 hpn
   have e2:=Below.at' hb (Nat.le_refl _) e1
   have f2:=Below.at' hb (Nat.le_refl _) f1
   have CL:=aA (aTe xb yb pa a2 pcp c2 g xl yl wr (hpn.below hb (Nat.le_refl _)) (H2.out.below hb (Nat.le_refl _)) (Below.at' hb (Nat.le_refl _) g0) (Below.at' hb (Nat.le_refl _) g1))
   have HMT:=aA hmt
   have HMX:=aA hmx
   have HB:=aA hb
   have hbs:=hb.size
   clear hmt hmx hb hpv hpn e1 f1
   cases hl:kH (xb,xl) (yb,yl)
   ·rw [hl] at CL HMT
    clear hl
    go_wp2_with (go_at_call 85;refine (aB CL).mono ?_;rintro e w1 ⟨rfl,hb1⟩;have HB1:=aA (HB.out.trans (hb1.mono hbs));clear hb1)
    go_roundw
    case rel=>exact ⟨k+1,by omega,by go_num,HMT.out,HB1.out⟩
    case measure=>simp [intOf];omega
   ·rw [hl] at CL HMX
    clear hl
    go_wp2_with (go_at_call 85;refine (aB CL).mono ?_;rintro e w1 ⟨rfl,hb1⟩;have HB1:=aA (HB.out.trans (hb1.mono hbs));clear hb1)
    go_ret
    exact ⟨_,rfl,by rw [HMX.out (by first | rfl | trivial)];simp,HB1.out⟩
  ·have hk1:(P.map Prod.fst).take k=P.map Prod.fst:=List.take_of_length_le (by simp;omega)
   rw [hk1] at HM
   have HB:=aA hb
   clear hk1 hb
   go_wp2
   go_ret
   exact ⟨_,rfl,by rw [HM.out];rfl,HB.out⟩
theorem aTg (a a2:Option Addr) (cap c2 g:Nat) (P:List (Lt×Value)) (yb:Bool) (yl:List Nd) (w:World) (hf:P.length≤4398046511104)
  (hc:∀k (h:k < P.length),∃g',a=some ⟨g',0,none⟩∧w.cell? ⟨g',k * 2,none⟩=some (.bool P[k].1.1)∧w.cell? ⟨g',k * 2+1,none⟩=some P[k].2)
  (hA:∀p∈P,jV w p.2 p.1.2) (h2:bQ w a2 yl) (g0:w.cell? ⟨g,0,none⟩=some (.bool yb)) (g1:w.cell? ⟨g,1,none⟩=some (.slice a2 yl.length c2)) :
  Calls Tryz.prog 73 #[.slice a P.length cap,.func (Fn.func 85) #[] #[.pointer (some ⟨g,0,none⟩)]] w fun e w'=>e=.returned (.bool (eR (P.map Prod.fst) (yb,yl)))∧Below w.heap.size w w':=by
 have CI:=aA (aTf a a2 cap c2 g P yb yl w hf hc hA h2 g0 g1)
 clear hc hA h2 g0 g1
 go_enter Tryz.func73,Tryz.ntmps73
 go_wp2_with (go_at_call 101;refine (aB CI).mono ?_;rintro e w1 ⟨r,rfl,hr,hb⟩;have HR:=aA hr;have HB:=aA hb;clear hr hb)
 go_ret
 exact ⟨cS HR.out,HB.out⟩
def pP (c:List Lt) (k:Nat):Bool:=(List.range k).any fun i=>eR (c.take i) (!(c.getD i default).1,(c.getD i default).2)
def oI (c:List Lt):Bool:=pP c c.length
theorem aTh (c:List Lt) (k:Nat) (h:k < c.length):pP c (k+1)=(pP c k || eR (c.take k) (!c[k].1,c[k].2)):=by
 unfold pP
 rw [List.range_succ,List.any_append]
 simp [h]
theorem aTi (c:List Lt) {k:Nat} (hk:k≤c.length) (h:pP c k=true):oI c=true:=by
 unfold oI pP at *
 rw [List.any_eq_true] at *
 obtain ⟨i,hi,h2⟩:=h
 exact ⟨i,List.mem_range.2 (Nat.lt_of_lt_of_le (List.mem_range.1 hi) hk),h2⟩
set_option maxHeartbeats 2000000 in
theorem aHl (a:Option Addr) (cap:Nat) (P:List (Lt×Value)) (w:World) (hf:P.length≤100000) (hcap:P.length≤cap)
  (hc:∀k (h:k < P.length),∃g',a=some ⟨g',0,none⟩∧w.cell? ⟨g',k * 2,none⟩=some (.bool P[k].1.1)∧w.cell? ⟨g',k * 2+1,none⟩=some P[k].2)
  (hA:∀p∈P,jV w p.2 p.1.2) :
  Calls Tryz.prog 54 #[.slice a P.length cap] w fun e w'=>e=.returned (.bool (oI (P.map Prod.fst)))∧Below w.heap.size w w':=by
 have HC:=aA hc
 have HA:=aA hA
 clear hc hA
 go_enter Tryz.func54,Tryz.ntmps54
 go_wp2
 go_loopw [8] (fun i wr=>∃k:Nat,k≤P.length∧i=.int .i64 k∧pP (P.map Prod.fst) k=false∧Below w.heap.size w wr) (fun i _=>P.length - (intOf i).toNat)
 case atStart=>exact ⟨0,Nat.zero_le _,rfl,rfl,Below.refl _ _⟩
 case round=>
  obtain ⟨k,hk,rfl,hm,hb⟩:=hrel
  have HM:=aA hm
  clear hm
  by_cases hlt:k < P.length
  ·obtain ⟨g',rfl,e1,f1⟩:=HC.out k hlt
   obtain ⟨pa,pcp,hpv,hpn⟩:=HA.out P[k] (List.getElem_mem _)
   rw [hpv] at f1
   have hst:=aTh (P.map Prod.fst) k (by simpa using hlt)
   rw [HM.out,Bool.false_or] at hst
   have hst2:pP (P.map Prod.fst) (k+1)=eR ((P.map Prod.fst).take k) (!P[k].1.1,P[k].1.2):=by simpa using hst
   generalize P[k].1=x at *
   obtain ⟨xb,xl⟩:=x
   simp only at e1 f1 hpn hst2
   have e2:=Below.at' hb (Nat.le_refl _) e1
   have f2:=Below.at' hb (Nat.le_refl _) f1
   have hbs:=hb.size
   have hki:(k:Int) < (P.length:Int):=by omega
   have hkc:(k:Int)≤(cap:Int):=by omega
   have hbx:Below w.heap.size w ((wr.alloc (.cells #[.bool xb,.slice pa xl.length pcp] 66)).alloc (.cells #[.bool !xb,.slice pa xl.length pcp] 66)):=(hb.alloc hbs _).alloc (by simp;omega) _
   have hnb:((wr.alloc (.cells #[.bool xb,.slice pa xl.length pcp] 66)).alloc (.cells #[.bool !xb,.slice pa xl.length pcp] 66)).heap[wr.heap.size+1]?=some (.cells #[.bool !xb,.slice pa xl.length pcp] 66):=by
    have:=World.alloc_heap_new (wr.alloc (.cells #[.bool xb,.slice pa xl.length pcp] 66)) (.cells #[.bool !xb,.slice pa xl.length pcp] 66)
    rwa [World.size_alloc] at this
   have htl:(P.take k).length=k:=by simp;omega
   have CC:=aA (aTg (some ⟨g',0,none⟩) pa cap pcp (wr.heap.size+1) (P.take k) (!xb) xl ((wr.alloc (.cells #[.bool xb,.slice pa xl.length pcp] 66)).alloc (.cells #[.bool !xb,.slice pa xl.length pcp] 66)) (by omega)
    (fun j hj=>by
     obtain ⟨g2,h1,h2,h3⟩:=HC.out j (by omega)
     rw [List.getElem_take]
     exact ⟨g2,h1,Below.at' hbx (Nat.le_refl _) h2,Below.at' hbx (Nat.le_refl _) h3⟩)
    (fun p hp=>(HA.out p (List.mem_of_mem_take hp)).below hbx (Nat.le_refl _)) (hpn.below hbx (Nat.le_refl _)) (aEx hnb).1 (aEx hnb).2)
   rw [htl,List.map_take,←hst2] at CC
   have HB:=aA hbx
   have HK:=aA (aTi (P.map Prod.fst) (k:=k+1) (by simp;omega))
   clear hst hst2 hbx hnb htl e1 f1 hpn hpv hb
   cases hi:pP (P.map Prod.fst) (k+1)
   ·rw [hi] at CC
    have HI:=aA hi
    clear hi
    go_wp2_with (first
     | (go_at_call 73;refine (aB CC).mono ?_;rintro e w1 ⟨rfl,hb1⟩;have HB1:=aA (HB.out.trans (hb1.mono (by have:=HB.out.size;simpa using this)));clear hb1)
     | go_in)
    go_roundw
    case rel=>exact ⟨k+1,by omega,by go_num,HI.out,HB1.out⟩
    case measure=>simp [intOf];omega
   ·have HID:=aA (HK.out hi)
    rw [hi] at CC
    clear hi HK
    go_wp2_with (first
     | (go_at_call 73;refine (aB CC).mono ?_;rintro e w1 ⟨rfl,hb1⟩;have HB1:=aA (HB.out.trans (hb1.mono (by have:=HB.out.size;simpa using this)));clear hb1)
     | go_in)
    go_ret
    exact ⟨by rw [HID.out];rfl,HB1.out⟩
  ·have hke:k=(P.map Prod.fst).length:=by simp;omega
   have HB:=aA hb
   clear hb
   go_wp2
   go_ret
   have hid:oI (P.map Prod.fst)=false:=by
    have hm:=HM.out
    rw [hke] at hm
    exact hm
   exact ⟨by rw [hid];rfl,HB.out⟩
end Go.Proofs.YthicbnejchpmgaaGreatDoor
