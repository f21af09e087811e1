/- A range over an iterator that itself goes through iterators: what such an iterator promises, and the caller's law. The search's memory: what stays, by the kinds of blocks. The heap's memory: things that wait; which is lighter; two change their places. The program: the pairs of places of two clauses whose atoms have the same name, gone through by an iterator. The program: is a clause idle? -/
import Derived.Test.YtbddofieljiihaaGreatDoorONumberI
import Derived.Test.YtbddofieljiihaaGreatDoorText0I
import Derived.Handy
import Derived.Deep.RegionHeld3
import Derived.Test.YtbddofieljiihaaGreatDoorXCutI
import Derived.Shelf.RegionOpen
import Derived.OwnWalkIn
import Derived.TacticsInMore
import Derived.LoopNIn
import Derived.LoopIn
namespace Go.Proofs.YtbddofieljiihaaGreatDoor
open Go Go.RowKit
structure cG (S:List TypeId) (W W':World):Prop where
 size:W.heap.size≤W'.heap.size
 kc:∀(k:Nat) (cs:Array Value) (T:TypeId),W.heap[k]?=some (Obj.cells cs T (0,0))→T∉S→W'.heap[k]?=some (Obj.cells cs T (0,0))
theorem cG.refl (S:List TypeId) (W:World):cG S W W:=⟨Nat.le_refl _,fun _ _ _ h _=>h⟩
theorem cG.trans {S:List TypeId} {A B C:World} (h:cG S A B) (k:cG S B C):cG S A C:=⟨Nat.le_trans h.size k.size,fun i cs T hi ht=>k.kc i cs T (h.kc i cs T hi ht) ht⟩
theorem cG.put {S:List TypeId} (W:World) (l:Nat) (o o':Obj) (hl:W.heap[l]?=some o) (ho:o.isCells=false):cG S W (W.putObj l o'):=
 ⟨by simp,fun k cs T hk _=>(World.putObj_heap_other (by rintro rfl;rw [hl] at hk;cases hk;cases ho)).trans hk⟩
theorem cG.grown {S:List TypeId} {U V:World} {row:Option Nat} (h:U.grownBy V row) (hr:∀r,row=some r→∃o:Obj,U.heap[r]?=some o∧o.isCells=false):cG S U V:=
 ⟨h.size,fun i cs T hi _=>(h.block i (Array.getElem?_eq_some_iff.1 hi).1 (by
  intro e
  obtain ⟨o,h1,h2⟩:=hr i e.symm
  rw [h1] at hi
  cases hi
  cases h2)).trans hi⟩
def kN (S:List TypeId) (N:Nat) (W W':World):Prop:=cG S W W'∧KeepsFrom N W W'
theorem iQ {B B':Nat} {W W':World} (h:KeepsFrom B W W') (hB:B≤B'):KeepsFrom B' W W':=⟨h.size,fun k o hk h1 h2=>h.same k o (Nat.le_trans hB hk) h1 h2⟩
theorem kN.trans {S:List TypeId} {N:Nat} {A B C:World} (h:kN S N A B) (k:kN S N B C):kN S N A C:=⟨h.1.trans k.1,⟨Nat.le_trans h.2.size k.2.size,fun i o hi h1 h2=>k.2.same i o hi (h.2.same i o hi h1 h2) h2⟩⟩
theorem kO {N:Nat} {A B C:World} (h:KeepsFrom N A B) (k:KeepsFrom N B C):KeepsFrom N A C:=⟨Nat.le_trans h.size k.size,fun i o hi h1 h2=>k.same i o hi (h.same i o hi h1 h2) h2⟩
theorem kN.put {S:List TypeId} {N:Nat} (W:World) (l:Nat) (o o':Obj) (hl:W.heap[l]?=some o) (ho:o.isCells=false) (hN:l < N):kN S N W (W.putObj l o'):=
 ⟨cG.put W l o o' hl ho,⟨by simp,fun k _ hk h1 _=>(World.putObj_heap_other (by omega)).trans h1⟩⟩
def rQ {α:Type} (F:Fence) (n:Nat) (P:Program) (g:Nat) (lb:Array Value) (Enc:α→Array Value→World→Prop) (S:List TypeId) (L:List α) (W:World):Prop:=
 ∀(l:Nat) (J Jx:Nat→World→Prop),OwnFrom W.heap.size J→OwnFrom W.heap.size Jx→
  (∀k x args W1,L[k]?=some x→J k W1→Enc x args W1→YieldAt F (n - 1) P l args W1 fun e W'=>
   (e=.returned (.bool true)∧J (k+1) W'∧kN S W.heap.size W1 W')∨(e=.returned (.bool false)∧Jx k W'∧KeepsFrom W.heap.size W1 W'))→
  J 0 W→
  CallsIn F n P g (#[.func (.yield l) #[] #[]]++lb) W fun e W'=>(∃v,e=.returned v)∧(J L.length W'∨∃k,Jx k W')
def xQ (B:Nat) (S:List TypeId) (I:Nat→World→Prop) (Ix:Code→Nat→World→Prop) (k:Nat) (W:World):Exit→Act→World→Prop
 | .normal,_,W'=>KeepsFrom B W W'∧cG S W W'∧I (k+1) W'
 | .ret,_,W'=>KeepsFrom B W W'∧Ix .ret k W'
 | .exit i,_,W'=>KeepsFrom B W W'∧Ix (.exit i) k W'
 | .goto t,_,W'=>KeepsFrom B W W'∧Ix (.goto t) k W'
 | .panic _,_,_=>False
 | .outgrown,_,_=>False
theorem qI {β:Type} {B B':Nat} {I:β→World→Prop} (h:OwnFrom B I) (hB:B≤B'):OwnFrom B' I:=
 fun s X Y row hs hg hr=>h s X Y row hs hg (fun r e=>⟨Nat.le_trans hB (hr r e).1,(hr r e).2⟩)
def gT (fn:FuncId) (tmps:Array Value) (ps:Array Tmp) (assign body:Code) (d:Nat) (s:LoopState) (p:Option Code):Loop:=
 {state:=s,pending:=p,fn:=fn,tmps:=tmps,params:=ps,assign:=assign,body:=body,defers:=d}
structure lQ (D:Nat) (r:Loop) (W:World):Prop where
 k:W.heap[D]?=some (.deferred (some []))
 l:W.heap[D+1]?=some (.loop r)
theorem lQ.own {B D:Nat} {r:Loop} (hB:D+1 < B):OwnFrom B (fun (_:Nat) W=>lQ D r W):=fun _ X Y row hs hg hr=>by
 refine ⟨(hg.block _ (Array.getElem?_eq_some_iff.1 hs.k).1 ?_).trans hs.k,(hg.block _ (Array.getElem?_eq_some_iff.1 hs.l).1 ?_).trans hs.l⟩
 all_goals
  intro e
  have:=(hr _ e.symm).1
  omega
theorem lQ.put {D:Nat} {r:Loop} {W:World} (h:lQ D r W) (r':Loop):lQ D r' (W.putObj (D+1) (.loop r')):=
 ⟨(World.putObj_heap_other (by omega)).trans h.k,World.putObj_heap_same (Array.getElem?_eq_some_iff.1 h.l).1⟩
theorem lQ.keep {B D:Nat} {r:Loop} {W W':World} (h:lQ D r W) (hB:B≤D) (hk:KeepsFrom B W W'):lQ D r W':=
 ⟨hk.same _ _ hB h.k rfl,hk.same _ _ (by omega) h.l rfl⟩
theorem xR {α:Type} {F:Fence} {n:Nat} {P:Program} {g:Operand} {ps:Array Tmp} {assign body:Code} {Q:Exit→Act→World→Prop} {a:Act} {w:World}
  (hro:F.round=none) (h1:1≤n) {gf:Nat} {lb:Array Value} (hg:a.eval g=.func (.func gf) #[] lb) (hFg:F.fn gf) (eg:∀args w,(callFunc gf args).run P w=.ok (.enter gf args) w)
  {Enc:α→Array Value→World→Prop} {S:List TypeId} {L:List α}
  (hseq:∀o o',rQ F (n - 1) P gf lb Enc S L ((w.alloc o).alloc o'))
  (hps:∀x args W,Enc x args W→args.size=ps.size)
  (I:Nat→World→Prop) (Ix:Code→Nat→World→Prop) (hI:OwnFrom w.heap.size I) (hIx:∀c,OwnFrom w.heap.size (Ix c)) (h0:I 0 w)
  (Ax:α→Act→World→Prop) (hAx:∀x a',OwnFrom w.heap.size (fun (_:Unit) W=>Ax x a' W))
  (hassign:∀(l k:Nat) (x:α) (args:Array Value) (W:World) (K:Act→World→Prop),L[k]?=some x→I k W→Enc x args W→(∀a' W',KeepsFrom w.heap.size W W'→cG S W W'→I k W'→Ax x a' W'→K a' W')→
   assign.wpIn (F.inRound l) (n - 1 - 1) P (Exit.then K (fun _ _ _=>False)) {tmps:=(ps.zip args).foldl (fun t (p,v)=>t.setIfInBounds p v) a.tmps,defers:=[]} W)
  (hbody:∀(l k:Nat) (x:α) (a':Act) (W:World),w.heap.size≤l→L[k]?=some x→I k W→Ax x a' W→
   body.wpIn (F.inRound l) (n - 1 - 1) P (xQ w.heap.size S I Ix k W) a' W)
  (hdone:∀(W:World),I L.length W→W.heap[w.heap.size]?=some (.deferred (some []))→Q .normal {a with defers:={target:=.collected w.heap.size,args:=#[]} :: a.defers} W)
  (hstop:∀(c:Code) (k:Nat) (W:World),Ix c k W→W.heap[w.heap.size]?=some (.deferred (some []))→c.wpIn F n P Q {a with defers:={target:=.collected w.heap.size,args:=#[]} :: a.defers} W) :
  (Code.rangeFunc g ps assign body).wpIn F n P Q a w:=by
 refine wpIn_rangeFunc fun fn hfn=>?_
 have hL1:lQ w.heap.size (gT fn a.tmps ps assign body w.heap.size .ready none) ((w.alloc (.deferred (some []))).alloc (.loop (gT fn a.tmps ps assign body w.heap.size .ready none))):=by
  refine ⟨(Below.heap_alloc _ _ _ (by simp)).trans (World.alloc_heap_new w _),?_⟩
  have:=World.alloc_heap_new (w.alloc (.deferred (some []))) (.loop (gT fn a.tmps ps assign body w.heap.size .ready none))
  rwa [World.size_alloc] at this
 have hz:((w.alloc (.deferred (some []))).alloc (.loop (gT fn a.tmps ps assign body w.heap.size .ready none))).heap.size=w.heap.size+1+1:=by simp
 rw [hro]
 have henter:=run_enterLoop_outer (P:=P) (w:=w) fn a.tmps ps assign body
 refine ⟨w.heap.size+1,[{target:=.collected w.heap.size,args:=#[]}],(w.alloc (.deferred (some []))).alloc (.loop (gT fn a.tmps ps assign body w.heap.size .ready none)),{target:=.fn (.func gf) lb,args:=#[.func (.yield (w.heap.size+1)) #[] #[]]},
  (w.alloc (.deferred (some []))).alloc (.loop (gT fn a.tmps ps assign body w.heap.size .ready none)),gf,#[.func (.yield (w.heap.size+1)) #[] #[]]++lb,(w.alloc (.deferred (some []))).alloc (.loop (gT fn a.tmps ps assign body w.heap.size .ready none)),henter,?_,?_,?_,fun _=>h1,?_⟩
 ·simp only [resolve,hg]
  simp [go_sem]
 ·intro f' hf'
  simp [Target.leads] at hf'
  subst hf'
  exact hFg
 ·simp [invoke,go_sem,eg]
 refine (hseq _ _ (w.heap.size+1) (fun k W=>I k W∧lQ w.heap.size (gT fn a.tmps ps assign body w.heap.size .ready none) W)
  (fun k W=>∃c,Ix c k W∧lQ w.heap.size (gT fn a.tmps ps assign body w.heap.size .done (some c)) W) ?o1 ?o2 ?round ⟨hI.alloc _ (hI.alloc _ h0),hL1⟩).mono ?behind
 case o1=>exact (qI hI (by simp;omega)).and (lQ.own (by simp))
 case o2=>
  rintro s X Y row ⟨c,h,h'⟩ hg' hr
  exact ⟨c,qI (hIx c) (by simp;omega) s X Y row h hg' hr,lQ.own (by simp) s X Y row h' hg' hr⟩
 case round=>
  rintro k x args W hx ⟨hi,hl⟩ he
  refine ⟨fn,_,assign,body,run_yield (P:=P) (args:=args) hl.l (hps x args W he),roundIn_of_wpIn hfn (hassign _ k x args W _ hx hi he ?_)⟩
  intro a' Wa hkf hkp hia hax
  have hla:=hl.keep (Nat.le_refl _) hkf
  refine ⟨_,run_beginRound hla.l rfl,?_⟩
  have hl2:=hla.put (gT fn a.tmps ps assign body w.heap.size .busy none)
  have hi2:=hI.putObj (.loop (gT fn a.tmps ps assign body w.heap.size .busy none)) hia (Nat.le_succ _) hla.l rfl
  have ha2:=(hAx x a').putObj (s:=()) (.loop (gT fn a.tmps ps assign body w.heap.size .busy none)) hax (Nat.le_succ _) hla.l rfl
  have hk2:kN S (w.heap.size+1+1) W _:=kN.trans ⟨hkp,iQ hkf (by omega)⟩ (kN.put Wa _ _ (.loop (gT fn a.tmps ps assign body w.heap.size .busy none)) hla.l rfl (Nat.lt_succ_self _))
  refine wpIn_mono (hbody _ k x a' _ (Nat.le_succ _) hx hi2 ha2) ?_
  rintro e a3 W3 hp
  cases e with
  | normal=>
   obtain ⟨hk3,hkp3,hi3⟩:=hp
   have hl3:=hl2.keep (Nat.le_refl _) hk3
   have hl4:=hl3.put (gT fn a.tmps ps assign body w.heap.size .ready none)
   exact ⟨_,_,run_endRound none hl3.l,.inl ⟨rfl,⟨hI.putObj _ hi3 (Nat.le_succ _) hl3.l rfl,hl4⟩,by rw [hz];exact (hk2.trans ⟨hkp3,iQ hk3 (by omega)⟩).trans (kN.put _ _ _ _ hl3.l rfl (Nat.lt_succ_self _))⟩⟩
  | ret=>
   obtain ⟨hk3,hi3⟩:=hp
   have hl3:=hl2.keep (Nat.le_refl _) hk3
   exact ⟨_,_,run_endRound (some .ret) hl3.l,.inr ⟨rfl,⟨.ret,(hIx _).putObj _ hi3 (Nat.le_succ _) hl3.l rfl,hl3.put (gT fn a.tmps ps assign body w.heap.size .done (some .ret))⟩,by rw [hz];exact (kO (kO hk2.2 (iQ hk3 (by omega))) (kN.put (S:=S) _ _ _ _ hl3.l rfl (Nat.lt_succ_self _)).2)⟩⟩
  | exit i=>
   obtain ⟨hk3,hi3⟩:=hp
   have hl3:=hl2.keep (Nat.le_refl _) hk3
   exact ⟨_,_,run_endRound (some (.exit i)) hl3.l,.inr ⟨rfl,⟨.exit i,(hIx _).putObj _ hi3 (Nat.le_succ _) hl3.l rfl,hl3.put (gT fn a.tmps ps assign body w.heap.size .done (some (.exit i)))⟩,by rw [hz];exact (kO (kO hk2.2 (iQ hk3 (by omega))) (kN.put (S:=S) _ _ _ _ hl3.l rfl (Nat.lt_succ_self _)).2)⟩⟩
  | goto t=>
   obtain ⟨hk3,hi3⟩:=hp
   have hl3:=hl2.keep (Nat.le_refl _) hk3
   exact ⟨_,_,run_endRound (some (.goto t)) hl3.l,.inr ⟨rfl,⟨.goto t,(hIx _).putObj _ hi3 (Nat.le_succ _) hl3.l rfl,hl3.put (gT fn a.tmps ps assign body w.heap.size .done (some (.goto t)))⟩,by rw [hz];exact (kO (kO hk2.2 (iQ hk3 (by omega))) (kN.put (S:=S) _ _ _ _ hl3.l rfl (Nat.lt_succ_self _)).2)⟩⟩
  | panic ch=>exact hp.elim
  | outgrown=>exact hp.elim
 case behind=>
  rintro e W2 ⟨⟨v,rfl⟩,(⟨hi,hl⟩ | ⟨k,c,hi,hl⟩)⟩
  ·exact ⟨none,_,run_endLoop hl.l (by simp [gT]),hdone _ (hI.putObj _ hi (Nat.le_succ _) hl.l rfl) ((World.putObj_heap_other (by omega)).trans hl.k)⟩
  ·exact ⟨some c,_,run_endLoop hl.l (by simp [gT]),hstop c k _ ((hIx c).putObj _ hi (Nat.le_succ _) hl.l rfl) ((World.putObj_heap_other (by omega)).trans hl.k)⟩
theorem aI4 {α:Type} {F:Fence} {n:Nat} {P:Program} {g:Operand} {ps:Array Tmp} {assign body:Code} {Q:Exit→Act→World→Prop} {a:Act} {w:World}
  (hro:F.round=none) (h1:1≤n) {gf:Nat} {lb:Array Value} (hg:a.eval g=.func (.func gf) #[] lb) (hFg:F.fn gf) (eg:∀args w,(callFunc gf args).run P w=.ok (.enter gf args) w)
  {Enc:α→Array Value→World→Prop} {S:List TypeId} {L:List α}
  (hseq:∀o o',rQ F (n - 1) P gf lb Enc S L ((w.alloc o).alloc o'))
  (hps:∀x args W,Enc x args W→args.size=ps.size)
  (I:Nat→World→Prop) (Ix:Code→Nat→World→Prop) (hI:OwnFrom w.heap.size I) (hIx:∀c,OwnFrom w.heap.size (Ix c)) (h0:I 0 w)
  (A:α→Act)
  (hassign:∀(l:Nat) (x:α) (args:Array Value) (W:World) (K:Act→World→Prop),Enc x args W→K (A x) W→
   assign.wpIn (F.inRound l) (n - 1 - 1) P (Exit.then K (fun _ _ _=>False)) {tmps:=(ps.zip args).foldl (fun t (p,v)=>t.setIfInBounds p v) a.tmps,defers:=[]} W)
  (hbody:∀(l k:Nat) (x:α) (W:World),w.heap.size≤l→L[k]?=some x→I k W→
   body.wpIn (F.inRound l) (n - 1 - 1) P (xQ w.heap.size S I Ix k W) (A x) W)
  (hdone:∀(W:World),I L.length W→W.heap[w.heap.size]?=some (.deferred (some []))→Q .normal {a with defers:={target:=.collected w.heap.size,args:=#[]} :: a.defers} W)
  (hstop:∀(c:Code) (k:Nat) (W:World),Ix c k W→W.heap[w.heap.size]?=some (.deferred (some []))→c.wpIn F n P Q {a with defers:={target:=.collected w.heap.size,args:=#[]} :: a.defers} W) :
  (Code.rangeFunc g ps assign body).wpIn F n P Q a w:=
 xR hro h1 hg hFg eg hseq hps I Ix hI hIx h0 (fun x a' _=>a'=A x) (fun _ _ _ _ _ _ h _ _=>h)
  (fun l k x args W K _ hi he hK=>hassign l x args W K he (hK _ _ (KeepsFrom.refl _ _) (cG.refl _ _) hi rfl))
  (fun l k x a' W hl hx hi ha=>by subst ha;exact hbody l k x W hl hx hi) hdone hstop
end Go.Proofs.YtbddofieljiihaaGreatDoor
namespace Go.Proofs.YtbddofieljiihaaGreatDoor
open Go.RowKit
set_option maxRecDepth 100000
structure Mv (S:List TypeId) (B:Nat) (W W':World):Prop where
 os:W'.os=W.os
 tape:W'.tape=W.tape
 output:W'.output=W.output
 size:W.heap.size≤W'.heap.size
 keep:∀k o,W.heap[k]?=some o→(k < B∨∀cs T,o=.cells cs T (0,0)→T∉S)→W'.heap[k]?=some o
theorem Mv.refl (S:List TypeId) (B:Nat) (W:World):Mv S B W W:=⟨rfl,rfl,rfl,Nat.le_refl _,fun _ _ h _=>h⟩
theorem Mv.trans {S:List TypeId} {B:Nat} {U V W:World} (h:Mv S B U V) (k:Mv S B V W):Mv S B U W:=
 ⟨k.os.trans h.os,k.tape.trans h.tape,k.output.trans h.output,Nat.le_trans h.size k.size,fun i o hi ho=>k.keep i o (h.keep i o hi ho) ho⟩
theorem Mv.mono {S S':List TypeId} {B B':Nat} {U V:World} (h:Mv S B U V) (hS:∀t∈S,t∈S') (hB:B'≤B):Mv S' B' U V:=
 ⟨h.os,h.tape,h.output,h.size,fun i o hi ho=>h.keep i o hi (by
  rcases ho with ho | ho
  ·exact Or.inl (by omega)
  ·exact Or.inr (fun cs T e hm=>ho cs T e (hS _ hm)))⟩
theorem Mv.of_below {S:List TypeId} {B:Nat} {U V:World} (h:Below U.heap.size U V):Mv S B U V:=
 ⟨h.os,h.tape,h.output,h.size,fun i _ hi _=>(h.block i (Array.getElem?_eq_some_iff.1 hi).1).trans hi⟩
theorem Mv.of_grown {S:List TypeId} {B:Nat} {U V:World} {row:Option Nat} (h:U.grownBy V row) (hr:∀k,row=some k→B≤k∧∃cs T,U.heap[k]?=some (.cells cs T (0,0))∧T∈S):Mv S B U V:=
 ⟨h.os,h.tape,h.output,h.size,fun i o hi ho=>(h.block i (Array.getElem?_eq_some_iff.1 hi).1 (by
  intro e
  obtain ⟨h1,cs,T,h2,h3⟩:=hr i e.symm
  rw [h2] at hi
  cases hi
  rcases ho with ho | ho
  ·omega
  ·exact ho cs T rfl h3)).trans hi⟩
theorem Mv.cells {S:List TypeId} {B:Nat} {U V:World} (h:Mv S B U V) {k:Nat} {cs:Array Value} {T:TypeId} (hk:U.heap[k]?=some (.cells cs T (0,0))) (hT:T∉S):V.heap[k]?=some (.cells cs T (0,0)):=
 h.keep k _ hk (Or.inr (fun cs' T' e=>by cases e;exact hT))
theorem Mv.below {S:List TypeId} {B:Nat} {U V:World} (h:Mv S B U V) (hB:B≤U.heap.size):Below B U V:=
 ⟨h.os,h.tape,h.output,h.size,fun k hk=>by
  obtain ⟨o,ho⟩ : ∃o,U.heap[k]?=some o:=⟨_,Array.getElem?_eq_getElem (by omega)⟩
  rw [h.keep k o ho (Or.inl hk),ho]⟩
theorem Mv.keepsFrom {S:List TypeId} {B B':Nat} {U V:World} (h:Mv S B U V):KeepsFrom B' U V:=
 ⟨h.size,fun k o _ hk ho=>h.keep k o hk (Or.inr (fun cs T e=>by subst e;cases ho))⟩
theorem Mv.row {S:List TypeId} {B B':Nat} {U V:World} (h:Mv S B U V) {e:TypeId} {z:Nat} {v:Value} {n:Nat} {xs:List Value} (hr:U.ownsRow B' e z v n xs) (he:e∉S):V.ownsRow B' e z v n xs:=by
 obtain ⟨h1,⟨rfl,h2⟩ | ⟨g,cap,cur,rfl,hb,hh,hx⟩⟩:=hr
 ·exact ⟨h1,Or.inl ⟨rfl,h2⟩⟩
 ·exact ⟨h1,Or.inr ⟨g,cap,cur,rfl,hb,h.cells hh he,hx⟩⟩
theorem Mv.clause {S:List TypeId} {B B':Nat} {U V:World} (h:Mv S B U V) {v:Value} {c:List Lt} (hc:bK B' U v c) (h1:74∉S) (h2:106∉S):bK B' V v c:=by
 obtain ⟨Q,q1,q2,q3,q4⟩:=hc
 exact ⟨Q,q1,h.row q2 h1,fun q hq=>h.row (q3 q hq) h2,q4⟩
theorem Mv.boxed {S:List TypeId} {B:Nat} {U V:World} (h:Mv S B U V) {k:Nat} {T:TypeId} {v:Value} (hb:Boxed U k T v) (hT:T∉S):Boxed V k T v:=h.cells hb hT
theorem Mv.kps {S:List TypeId} {B:Nat} {U V:World} (h:Mv S B U V):cG S U V:=⟨h.size,fun _ _ _ hk ht=>h.cells hk ht⟩
theorem cG.row {S:List TypeId} {B':Nat} {U V:World} (h:cG S U V) {e:TypeId} {z:Nat} {v:Value} {n:Nat} {xs:List Value} (hr:U.ownsRow B' e z v n xs) (he:e∉S):V.ownsRow B' e z v n xs:=by
 obtain ⟨h1,⟨rfl,h2⟩ | ⟨g,cap,cur,rfl,hb,hh,hx⟩⟩:=hr
 ·exact ⟨h1,Or.inl ⟨rfl,h2⟩⟩
 ·exact ⟨h1,Or.inr ⟨g,cap,cur,rfl,hb,h.kc _ _ _ hh he,hx⟩⟩
theorem cG.clause {S:List TypeId} {B':Nat} {U V:World} (h:cG S U V) {v:Value} {c:List Lt} (hc:bK B' U v c) (h1:74∉S) (h2:106∉S):bK B' V v c:=by
 obtain ⟨Q,q1,q2,q3,q4⟩:=hc
 exact ⟨Q,q1,h.row q2 h1,fun q hq=>h.row (q3 q hq) h2,q4⟩
theorem cG.boxed {S:List TypeId} {U V:World} (h:cG S U V) {k:Nat} {T:TypeId} {v:Value} (hb:Boxed U k T v) (hT:T∉S):Boxed V k T v:=h.kc _ _ _ hb hT
structure jH (c:List Lt):Prop where
 len:c.length≤8
 term:∀x∈c,aI x.2 1=true∧x.2.length≤60
theorem aI5 {n:Nd} (h:dG n=true):n.1.size≤80:=by
 unfold dG at h
 split at h
 ·rename_i h'
  have:n.1.size=0:=by
   simp [aH] at h'
   have:=congrArg List.length h'
   rw [ByteArray.toList_eq] at this
   simpa using this
  omega
 ·simp at h
  exact (aFt _ h.1).2
theorem aBz:∀(l:List Nd) (q:Nat),aI l q=true→∀n∈l,dG n=true
 | [],_,_,n,hn=>by simp at hn
 | x :: r,q,h,n,hn=>by
  unfold aI at h
  split at h
  ·cases h
  ·split at h
   ·rename_i hx
    rcases List.mem_cons.1 hn with rfl | hn
    ·exact hx
    ·exact aBz r _ h n hn
   ·cases h
theorem jH.nodes {c:List Lt} (h:jH c) {x:Lt} (hx:x∈c):x.2.length≤60∧0 < x.2.length∧∀k (h:k < x.2.length),x.2[k].1.size≤80:=by
 obtain ⟨h1,h2⟩:=h.term x hx
 refine ⟨h2,?_,fun k hk=>aI5 (aBz _ _ h1 _ (List.getElem_mem hk))⟩
 cases hl:x.2 with
 | nil=>rw [hl] at h1;simp [aI] at h1
 | cons=>simp
theorem jI {c:List Lt} (h:bG c=true):jH c:=by
 simp only [bG,Bool.and_eq_true,dQ,decide_eq_true_eq,List.all_eq_true] at h
 exact ⟨h.1.1.1,fun x hx=>aFb (h.1.2 x hx)⟩
theorem bK.lits {B:Nat} {w:World} {v:Value} {c:List Lt} (h:bK B w v c) (hn:jH c):∃a cap,v=.slice a c.length cap∧c.length≤cap∧bP w a c∧mF w a c:=by
 obtain ⟨Q,q1,q2,q3,q4⟩:=h
 subst q1
 obtain ⟨a,cap,rfl⟩:=aR q2
 refine ⟨a,cap,by simp,?_,aA9 (P:=Q) (by simpa using q2) rfl (fun q hq=>?_) (by have:=hn.len;omega),?_⟩
 ·obtain ⟨_,⟨e,e'⟩ | ⟨g,cap',cur,e,_,_,hc,_⟩⟩:=q2
  ·simp [e']
  ·simp at e
   obtain ⟨_,rfl⟩:=e
   simpa using hc
 ·obtain ⟨h1,h2,h3⟩:=hn.nodes (x:=q.1) (by simp;exact ⟨_,hq⟩)
  obtain ⟨aa,cp,e,hx⟩:=tD (q3 q hq) (by omega) (fun k hk=>by have:=h3 k hk;omega)
  exact ⟨aa,cp,e,hx⟩
 ·intro k hk b o aa n cp ea hcell
  have hk':k < Q.length:=by simpa using hk
  obtain ⟨a',cap',e,hc⟩:=rT q2
  simp at e
  obtain ⟨rfl,rfl⟩:=e
  obtain ⟨g,e1,_,e3⟩:=hc k hk'
  rw [ea] at e1
  simp at e1
  obtain ⟨rfl,rfl⟩:=e1
  rw [Nat.zero_add] at hcell
  rw [hcell] at e3
  obtain ⟨_,⟨e,_⟩ | ⟨g',cap',cur,e,_,_,hcc,_⟩⟩:=q3 Q[k] (List.getElem_mem _)
  ·rw [e] at e3
   cases e3
   omega
  ·rw [e] at e3
   cases e3
   exact hcc
structure Cd where
 r:Int
 a:Int
 b:Int
 i:Int
 j:Int
 ad:Option Addr
 ln:Nat
 cp:Nat
 wt:Int
 nm:Int
 c:List Lt
def Cd.cells (x:Cd):List Value:=[.int .i64 x.r,.int .i64 x.a,.int .i64 x.b,.int .i64 x.i,.int .i64 x.j,.slice x.ad x.ln x.cp,.int .i64 x.wt,.int .i64 x.nm]
def Cd.agg (x:Cd):Value:=.agg #[.int .i64 x.r,.int .i64 x.a,.int .i64 x.b,.int .i64 x.i,.int .i64 x.j,.slice x.ad x.ln x.cp,.int .i64 x.wt,.int .i64 x.nm]
def fJ (L:List Cd):List Value:=L.flatMap Cd.cells
theorem aVa:(Tryz.prog.info? 82).map (fun i=>(i.zero,i.size,i.bytes))=some (some (.agg #[.int .i64 0,.int .i64 0,.int .i64 0,.int .i64 0,.int .i64 0,.slice none 0 0,.int .i64 0,.int .i64 0]),8,80):=by kernel_rfl
theorem aI6 (L:List Cd):(fJ L).length=L.length * 8:=by
 induction L with
 | nil=>rfl
 | cons x r ih=>simp [fJ,Cd.cells] at ih ⊢;omega
theorem sS (x:Cd) (L:List Cd):fJ (x :: L)=x.cells++fJ L:=rfl
theorem aVb (L M:List Cd):fJ (L++M)=fJ L++fJ M:=by simp [fJ]
theorem xS (x:Cd):x.cells.length=8:=rfl
theorem pH:∀(L:List Cd) (k:Nat) (h:k < L.length) (t:Nat),t < 8→(fJ L)[k * 8+t]?=(L[k]).cells[t]?
 | [],k,h,_,_=>by simp at h
 | x :: L,0,_,t,ht=>by rw [sS,List.getElem?_append_left (by rw [xS];omega)];simp
 | x :: L,k+1,h,t,ht=>by
  have:=pH L k (by simpa using h) t ht
  rw [sS,List.getElem?_append_right (by rw [xS];omega),xS,show (k+1) * 8+t - 8=k * 8+t by omega,this]
  simp
def xT (X:List Value) (o:Nat) (x:Cd):List Value:=(((((((X.set o (.int .i64 x.r)).set (o+1) (.int .i64 x.a)).set (o+2) (.int .i64 x.b)).set (o+3) (.int .i64 x.i)).set (o+4) (.int .i64 x.j)).set (o+5) (.slice x.ad x.ln x.cp)).set (o+6) (.int .i64 x.wt)).set (o+7) (.int .i64 x.nm)
theorem aI7:∀(L:List Cd) (k:Nat) (x:Cd),k < L.length→xT (fJ L) (k * 8) x=fJ (L.set k x)
 | [],k,_,h=>by simp at h
 | y :: L,0,x,_=>by simp [xT,fJ,Cd.cells]
 | y :: L,k+1,x,h=>by
  have:=aI7 L k x (by simpa using h)
  rw [List.set_cons_succ,sS,sS,←this]
  have e0:(k+1) * 8=k * 8+8:=by omega
  simp only [xT,e0]
  simp [Cd.cells]
theorem pI {w:World} {B g:Nat} {e:TypeId} {z n cap:Nat} {xs:List Value} (h:w.ownsRow B e z (.slice (some ⟨g,0,none⟩) n cap) n xs) (k:Nat) (u:Value):(w.setCell ⟨g,k,none⟩ u).ownsRow B e z (.slice (some ⟨g,0,none⟩) n cap) n (xs.set k u):=by
 obtain ⟨h1,⟨e1,_⟩ | ⟨g',cap',cur,e1,hb,hh,hc,hm,hz,ht⟩⟩:=h
 ·cases e1
 ·simp at e1
  obtain ⟨rfl,rfl⟩:=e1
  refine ⟨by simpa using h1,Or.inr ⟨g,cap,cur.setIfInBounds k u,rfl,hb,?_,hc,hm,by simpa using hz,?_⟩⟩
  ·have hlt:=(Array.getElem?_eq_some_iff.1 hh).1
   show (w.heap.modify g _)[g]?=_
   rw [Array.getElem?_eq_getElem (by rw [Array.size_modify];exact hlt),Array.getElem_modify_self]
   rw [(Array.getElem?_eq_some_iff.1 hh).2]
   rfl
  ·rw [←ht]
   simp [List.take_set]
structure bT (B:Nat) (w:World) (hp:Nat) (v:Value) (L:List Cd):Prop where
 box:w.heap[hp]?=some (.cells #[v,.func (.func 34) #[] #[]] 112 (0,0))
 row:w.ownsRow B 82 8 v L.length (fJ L)
 base:B≤hp
theorem bT.c0 {B:Nat} {w:World} {hp:Nat} {v:Value} {L:List Cd} (h:bT B w hp v L):w.cell? ⟨hp,0,none⟩=some v∧w.cell? ⟨hp,1,none⟩=some (.func (.func 34) #[] #[]):=⟨by simp [World.cell?,h.box],by simp [World.cell?,h.box]⟩
theorem bT.cells {B:Nat} {w:World} {hp:Nat} {v:Value} {L:List Cd} (h:bT B w hp v L) {k:Nat} (hk:k < L.length) :
  ∃g cap,v=.slice (some ⟨g,0,none⟩) L.length cap∧w.cell? ⟨g,k * 8,none⟩=some (.int .i64 L[k].r)∧w.cell? ⟨g,k * 8+1,none⟩=some (.int .i64 L[k].a)∧w.cell? ⟨g,k * 8+2,none⟩=some (.int .i64 L[k].b)∧w.cell? ⟨g,k * 8+3,none⟩=some (.int .i64 L[k].i)∧
   w.cell? ⟨g,k * 8+4,none⟩=some (.int .i64 L[k].j)∧w.cell? ⟨g,k * 8+5,none⟩=some (.slice L[k].ad L[k].ln L[k].cp)∧w.cell? ⟨g,k * 8+6,none⟩=some (.int .i64 L[k].wt)∧w.cell? ⟨g,k * 8+7,none⟩=some (.int .i64 L[k].nm):=by
 obtain ⟨h1,⟨_,e⟩ | ⟨g,cap,cur,rfl,hb,hh,hr⟩⟩:=h.row
 ·omega
 ·have ho:=h.row
  have hl:=aI6 L
  refine ⟨g,cap,rfl,?_,?_,?_,?_,?_,?_,?_,?_⟩
  ·rw [ho.cellAt (k * 8) (by omega)];exact pH L k hk 0 (by omega)
  ·rw [ho.cellAt (k * 8+1) (by omega)];exact pH L k hk 1 (by omega)
  ·rw [ho.cellAt (k * 8+2) (by omega)];exact pH L k hk 2 (by omega)
  ·rw [ho.cellAt (k * 8+3) (by omega)];exact pH L k hk 3 (by omega)
  ·rw [ho.cellAt (k * 8+4) (by omega)];exact pH L k hk 4 (by omega)
  ·rw [ho.cellAt (k * 8+5) (by omega)];exact pH L k hk 5 (by omega)
  ·rw [ho.cellAt (k * 8+6) (by omega)];exact pH L k hk 6 (by omega)
  ·rw [ho.cellAt (k * 8+7) (by omega)];exact pH L k hk 7 (by omega)
def fE (w:World) (g o:Nat) (x:Cd):World:=(((((((w.setCell ⟨g,o,none⟩ (.int .i64 x.r)).setCell ⟨g,o+1,none⟩ (.int .i64 x.a)).setCell ⟨g,o+2,none⟩ (.int .i64 x.b)).setCell ⟨g,o+3,none⟩ (.int .i64 x.i)).setCell ⟨g,o+4,none⟩ (.int .i64 x.j)).setCell ⟨g,o+5,none⟩ (.slice x.ad x.ln x.cp)).setCell ⟨g,o+6,none⟩ (.int .i64 x.wt)).setCell ⟨g,o+7,none⟩ (.int .i64 x.nm)
theorem aVc {w:World} {B g n cap k:Nat} {e:TypeId} {L:List Cd} {x:Cd} (h:w.ownsRow B e 8 (.slice (some ⟨g,0,none⟩) n cap) n (fJ L)) (hk:k < L.length):(fE w g (k * 8) x).ownsRow B e 8 (.slice (some ⟨g,0,none⟩) n cap) n (fJ (L.set k x)):=by
 rw [←aI7 L k x hk]
 unfold fE xT
 exact pI (pI (pI (pI (pI (pI (pI (pI h _ _) _ _) _ _) _ _) _ _) _ _) _ _) _ _
theorem aI8 (w:World) (g o:Nat) (x:Cd):w.grownBy (fE w g o x) (some g):=by
 unfold fE
 have h:∀(u:World) (k:Nat) (v:Value),w.grownBy u (some g)→w.grownBy (u.setCell ⟨g,k,none⟩ v) (some g):=fun u k v hu=>by
  have h2:=cB u ⟨g,k,none⟩ v
  exact ⟨h2.os.trans hu.os,h2.tape.trans hu.tape,h2.output.trans hu.output,Nat.le_trans hu.size h2.size,fun j hj hne=>(h2.block j (Nat.lt_of_lt_of_le hj hu.size) hne).trans (hu.block j hj hne)⟩
 refine h _ _ _ (h _ _ _ (h _ _ _ (h _ _ _ (h _ _ _ (h _ _ _ (h _ _ _ (h _ _ _ ?_)))))))
 exact ⟨rfl,rfl,rfl,Nat.le_refl _,fun _ _ _=>rfl⟩
theorem aVd (w:World) (g o q:Nat) (x:Cd) (h:q < o∨o+8≤q):(fE w g o x).cell? ⟨g,q,none⟩=w.cell? ⟨g,q,none⟩:=by
 unfold fE
 iterate 8 rw [World.cell?_setCell_other _ _ _ _ (by intro h;simp only [Addr.mk.injEq] at h;omega)]
theorem bT.frozen {B:Nat} {w:World} {hp g n cap:Nat} {L:List Cd} (h:bT B w hp (.slice (some ⟨g,0,none⟩) n cap) L) (q:Nat):w.frozen? ⟨g,q,none⟩=false:=by
 obtain ⟨_,⟨e,_⟩ | ⟨g',cap',cur,e,hb,hh,_⟩⟩:=h.row
 ·cases e
 ·simp at e
  obtain ⟨rfl,_⟩:=e
  simp [World.frozen?,hh]
def jJ (x y:Cd):Bool:=if x.wt=y.wt then decide (x.nm < y.nm) else decide (x.wt < y.wt)
theorem aI9 (x y:Cd) (w:World):Calls Tryz.prog 34 #[x.agg,y.agg] w fun e w'=>e=.returned (.bool (jJ x y))∧Below w.heap.size w w':=by
 unfold Cd.agg
 go_enter Tryz.func34,Tryz.ntmps34
 go_wp2
 ·have hne:x.wt≠y.wt:=by simpa using ‹(x.wt != y.wt)=true›
  go_ret
  exact ⟨by simp [jJ,hne],((Below.refl _ w).alloc (Nat.le_refl _) _).alloc (by simp) _⟩
 ·have heq:x.wt=y.wt:=by simpa using ‹(x.wt != y.wt)=false›
  go_ret
  exact ⟨by simp [jJ,heq],((Below.refl _ w).alloc (Nat.le_refl _) _).alloc (by simp) _⟩
theorem bT.below {B:Nat} {w w':World} {hp:Nat} {v:Value} {L:List Cd} (h:bT B w hp v L) (hb:Below w.heap.size w w'):bT B w' hp v L:=
 ⟨(hb.block _ (Array.getElem?_eq_some_iff.1 h.box).1).trans h.box,aZ h.row hb (Nat.le_refl _),h.base⟩
theorem bT.put {B:Nat} {w:World} {hp g n cap k:Nat} {L:List Cd} {x:Cd} (h:bT B w hp (.slice (some ⟨g,0,none⟩) n cap) L) (hn:n=L.length) (hk:k < L.length):bT B (fE w g (k * 8) x) hp (.slice (some ⟨g,0,none⟩) n cap) (L.set k x)∧w.grownBy (fE w g (k * 8) x) (some g):=by
 subst hn
 obtain ⟨_,⟨e,_⟩ | ⟨g',cap',cur,e,_,hh,_⟩⟩:=h.row
 ·cases e
 ·simp at e
  obtain ⟨rfl,rfl⟩:=e
  have hgr:=aI8 w g (k * 8) x
  refine ⟨⟨?_,?_,h.base⟩,hgr⟩
  ·rw [hgr.block hp (Array.getElem?_eq_some_iff.1 h.box).1 (by
    intro e
    cases e
    rw [h.box] at hh
    cases hh)]
   exact h.box
  ·have:=aVc (x:=x) h.row hk
   simpa using this
theorem jK {a b c:World} {r:Option Nat} (h:a.grownBy b r) (k:b.grownBy c r):a.grownBy c r:=
 ⟨k.os.trans h.os,k.tape.trans h.tape,k.output.trans h.output,Nat.le_trans h.size k.size,fun j hj hne=>(k.block j (Nat.lt_of_lt_of_le hj h.size) hne).trans (h.block j hj hne)⟩
theorem bT.mv {B:Nat} {w w':World} {hp:Nat} {v:Value} {L:List Cd} (h:bT B w hp v L) (hg:w.grownBy w' v.ownBlock):Mv [82] B w w':=by
 refine Mv.of_grown hg (fun k hk=>?_)
 obtain ⟨_,⟨rfl,_⟩ | ⟨g,cap,cur,rfl,hb,hh,_⟩⟩:=h.row
 ·cases hk
 ·cases hk
  exact ⟨hb,cur,_,hh,by simp⟩
def mT (L:List Cd) (a b:Nat) (ha:a < L.length) (hb:b < L.length):List Cd:=(L.set a L[b]).set b L[a]
theorem vA {L:List Cd} {a b:Nat} (ha:a < L.length) (hb:b < L.length):(mT L a b ha hb).length=L.length:=by simp [mT]
set_option maxHeartbeats 2000000 in
theorem aIa (B hp:Nat) (v:Value) (L:List Cd) (a b:Nat) (w:World) (h:bT B w hp v L) (ha:a < L.length) (hb:b < L.length) (hne:a≠b) :
  Calls Tryz.prog 115 #[.pointer (some ⟨hp,0,none⟩),.int .i64 a,.int .i64 b] w fun e w'=>(∃u,e=.returned u)∧bT B w' hp v (mT L a b ha hb)∧w.grownBy w' v.ownBlock:=by
 obtain ⟨g,cap,rfl,x0,x1,x2,x3,x4,x5,x6,x7⟩:=h.cells ha
 obtain ⟨g',cap',e,y0,y1,y2,y3,y4,y5,y6,y7⟩:=h.cells hb
 cases e
 have c0:=h.c0.1
 have hf:=h.frozen
 have hai:(a:Int) < (L.length:Int):=by omega
 have hbi:(b:Int) < (L.length:Int):=by omega
 have z:=fun t (ht:t < 8)=>aVd w g (a * 8) (b * 8+t) L[b] (by omega)
 have z0:=(z 0 (by omega)).trans y0
 have z1:=(z 1 (by omega)).trans y1
 have z2:=(z 2 (by omega)).trans y2
 have z3:=(z 3 (by omega)).trans y3
 have z4:=(z 4 (by omega)).trans y4
 have z5:=(z 5 (by omega)).trans y5
 have z6:=(z 6 (by omega)).trans y6
 have z7:=(z 7 (by omega)).trans y7
 clear z
 unfold fE at z0 z1 z2 z3 z4 z5 z6 z7
 simp only [Nat.add_zero] at z0
 have HH:=aA h
 clear h
 go_enter Tryz.func115,Tryz.ntmps115
 have hmix:Tryz.prog.follows .mixedOrders=true:=by kernel_rfl
 go_region
 go_end0
 have h1:=HH.out.put (x:=L[b]) rfl ha
 have h2:=h1.1.put (k:=b) (x:=L[a]) (by simp) (by simpa using hb)
 refine ⟨⟨_,rfl⟩,?_,?_⟩
 ·exact h2.1.below (aJ ⟨1,rfl⟩)
 ·exact jK (jK h1.2 h2.2) (fF (aJ ⟨1,rfl⟩))
end Go.Proofs.YtbddofieljiihaaGreatDoor
namespace Go.Proofs.YtbddofieljiihaaGreatDoor
open Go.RowKit Go.Shelf Go.WideMaps
set_option maxRecDepth 100000
attribute [local go_sem] Oper.semAt_some
def iS (c:List Lt) (i:Nat):Option Nd:=(c[i]?).bind fun x=>x.2[0]?
def kP (c d:List Lt) (i m:Nat):List (Nat×Nat):=((List.range m).filter fun j=>decide (iS c i=iS d j)).map fun j=>(i,j)
def lR (c d:List Lt) (m:Nat):List (Nat×Nat):=(List.range m).flatMap fun i=>kP c d i d.length
def fR (c d:List Lt):List (Nat×Nat):=lR c d c.length
theorem aC0 (c d:List Lt) (m:Nat):lR c d (m+1)=lR c d m++kP c d m d.length:=by simp [lR,List.range_succ]
theorem xU (c d:List Lt) (i m:Nat):kP c d i (m+1)=kP c d i m++if iS c i=iS d m then [(i,m)] else []:=by
 unfold kP
 rw [List.range_succ,List.filter_append,List.map_append]
 congr 1
 by_cases h:iS c i=iS d m <;> simp [h]
theorem aVe (c d:List Lt) {m n:Nat} (h:m≤n):lR c d m <+: lR c d n:=by
 obtain ⟨k,rfl⟩ : ∃k,n=m+k:=⟨n - m,by omega⟩
 clear h
 induction k with
 | zero=>exact List.prefix_refl _
 | succ k ih=>rw [←Nat.add_assoc,aC0];exact ih.trans (List.prefix_append _ _)
theorem aVf (c d:List Lt) (i:Nat) {m n:Nat} (h:m≤n):kP c d i m <+: kP c d i n:=by
 obtain ⟨k,rfl⟩ : ∃k,n=m+k:=⟨n - m,by omega⟩
 clear h
 induction k with
 | zero=>exact List.prefix_refl _
 | succ k ih=>rw [←Nat.add_assoc,xU];exact ih.trans (List.prefix_append _ _)
theorem aVg {c d:List Lt} {i j:Nat} (hi:i < c.length) (hj:j < d.length) (h:iS c i=iS d j):(fR c d)[(lR c d i++kP c d i j).length]?=some (i,j):=by
 have h1:kP c d i (j+1) <+: kP c d i d.length:=aVf c d i (by omega)
 have h2:lR c d (i+1) <+: fR c d:=aVe c d (by omega)
 rw [xU,if_pos h] at h1
 rw [aC0] at h2
 obtain ⟨t1,e1⟩:=h1
 obtain ⟨t2,e2⟩:=h2
 rw [←e2,←e1]
 simp
def bM:List TypeId:=[85,112,82]
structure nO (B:Nat) (W:World) (b1 b2:Nat) (v1 v2:Value) (c d:List Lt):Prop where
 x1:Boxed W b1 24 v1
 x2:Boxed W b2 24 v2
 m1:bK B W v1 c
 m2:bK B W v2 d
theorem nO.kept {B:Nat} {W W':World} {b1 b2:Nat} {v1 v2:Value} {c d:List Lt} (h:nO B W b1 b2 v1 v2 c d) (k:cG bM W W'):nO B W' b1 b2 v1 v2 c d:=
 ⟨k.boxed h.x1 (by decide),k.boxed h.x2 (by decide),k.clause h.m1 (by decide) (by decide),k.clause h.m2 (by decide) (by decide)⟩
theorem nO.drawn {B:Nat} {W:World} {b1 b2:Nat} {v1 v2:Value} {c d:List Lt} (h:nO B W b1 b2 v1 v2 c d) (k:Nat):nO B (W.drewN k) b1 b2 v1 v2 c d:=
 h.kept (Mv.of_below (S:=bM) (B:=0) (aJ ⟨k,rfl⟩)).kps
theorem aIb {J:Nat→World→Prop} {N:Nat} (h:OwnFrom N J) {s:Nat} {w:World} (hJ:J s w) (d:Nat):J s (w.drewN d):=
 h s w _ none hJ ⟨rfl,rfl,rfl,Nat.le_refl _,fun _ _ _=>rfl⟩ (fun r e=>by cases e)
theorem aIc {c:List Lt} {i:Nat} (hi:i < c.length) (h:0 < c[i].2.length):iS c i=some c[i].2[0]:=by
 unfold iS
 rw [List.getElem?_eq_getElem hi]
 simp [List.getElem?_eq_getElem h]
set_option maxHeartbeats 4000000 in
theorem aId (n b1 b2 B:Nat) (v1 v2:Value) (c d:List Lt) (hn:1≤n) (nc:jH c) (nd:jH d) (W:World) (hW:nO B W b1 b2 v1 v2 c d) :
  rQ Fence.wide n Tryz.prog 131 #[.pointer (some ⟨b1,0,none⟩),.pointer (some ⟨b2,0,none⟩)] (fun (x:Nat×Nat) args _=>args=#[.int .i64 x.1,.int .i64 x.2]) bM (fR c d) W:=by
 intro l J Jx hJ hJx hY h0
 have hc8:=nc.len
 have hd8:=nd.len
 have HY:=aA hY
 have HJ:=aA hJ
 clear hY hJ
 refine callsIn_of_wp Tryz.func131 rfl trivial ?_
 simp only [Tryz.ntmps131,List.size_toArray,List.length_cons,List.length_nil,Nat.reduceAdd,Nat.reduceSub,Array.replicate_succ,Array.replicate_zero,List.push_toArray,List.append_toArray,List.nil_append,List.cons_append]
 obtain ⟨a1,c1,rfl,_,L1,_⟩:=hW.m1.lits nc
 obtain ⟨a2,c2,rfl,_,L2,_⟩:=hW.m2.lits nd
 have e1:=hW.x1.cell
 have HW:=aA hW
 clear hW L1 L2
 gi_wp2
 clear e1
 gi_loopw [8] (fun p wr=>∃i:Nat,i≤c.length∧p=.int .i64 i∧nO B wr b1 b2 (.slice a1 c.length c1) (.slice a2 d.length c2) c d∧J (lR c d i).length wr) (fun p _=>c.length - (intOf p).toNat)
 case atStart=>exact ⟨0,Nat.zero_le _,by go_num,HW.out,by simpa [lR] using h0⟩
 case round=>
  obtain ⟨i,hi,rfl,hI,hJs⟩:=hrel
  have f2:=hI.x2.cell
  have HI:=aA hI
  have HJS:=aA hJs
  clear hI hJs
  by_cases hlt:i < c.length
  ·have hlti:(i:Int) < (c.length:Int):=by omega
   gi_wp2
   clear f2
   gi_loopw [13] (fun p wr=>∃j:Nat,j≤d.length∧p=.int .i64 j∧nO B wr b1 b2 (.slice a1 c.length c1) (.slice a2 d.length c2) c d∧J (lR c d i++kP c d i j).length wr) (fun p _=>d.length - (intOf p).toNat)
   case atStart=>exact ⟨0,Nat.zero_le _,by go_num,HI.out,by simpa [kP] using HJS.out⟩
   case round=>
    obtain ⟨j,hj,rfl,hI,hJs⟩:=hrel
    by_cases hltj:j < d.length
    ·have hltji:(j:Int) < (d.length:Int):=by omega
     obtain ⟨a1',c1',ea,_,L1,_⟩:=hI.m1.lits nc
     obtain ⟨a2',c2',eb,_,L2,_⟩:=hI.m2.lits nd
     cases ea
     cases eb
     obtain ⟨g1,o1,aa,ac,rfl,k1,k2,k3⟩:=L1.cell i hlt
     obtain ⟨g2,o2,ba,bc,rfl,q1,q2,q3⟩:=L2.cell j hltj
     have hx0:=(nc.nodes (List.getElem_mem hlt)).2.1
     have hy0:=(nd.nodes (List.getElem_mem hltj)).2.1
     obtain ⟨g3,o3,rfl,s1,s2⟩:=k3.cell 0 hx0
     obtain ⟨g4,o4,rfl,t1,t2⟩:=q3.cell 0 hy0
     have hx1:=aIc hlt hx0
     have hy1:=aIc hltj hy0
     have e1:=hI.x1.cell
     have e2:=hI.x2.cell
     generalize hxe:c[i].2[0]=xe at *
     generalize hye:d[j].2[0]=ye at *
     obtain ⟨xs,xn⟩:=xe
     obtain ⟨ys,yn⟩:=ye
     simp only [Nat.zero_mul,Nat.add_zero] at s1 s2 t1 t2
     have hm1:(0:Int) < (c[i].2.length:Int):=by omega
     have hm2:(0:Int) < (d[j].2.length:Int):=by omega
     clear hxe hye hx0 hy0 k3 q3 L1 L2
     generalize c[i].2.length=m1 at *
     generalize d[j].2.length=m2 at *
     have hqn:=tA xs ys xn yn
     have hqg:=sY
     have hnbq:=sZ (xs,xn) (ys,yn)
     simp only at hnbq
     have HI:=aA hI
     have HJS:=aA hJs
     clear hI hJs k1 q1
     by_cases hll:(xs,xn)=(ys,yn)
     ·rw [decide_eq_true hll] at hnbq
      have hmix:Tryz.prog.follows .mixedOrders=true:=by kernel_rfl
      have hhd:iS c i=iS d j:=by rw [hx1,hy1,hll]
      gi_wp2
      refine aBn [_,_,_,_,_,_,_,_,_,_,_,_,_,_,_,_,_,_,_] [_,_,_] rfl (aH7 rfl) hmix (by kernel_rfl) (by kernel_rfl) ?_
      repeat (gi_big_quiet_step (fail))
      refine wpQuietIn_nil ?_
      rintro _ ⟨nq,rfl⟩
      obtain ⟨fn,tmps,assign,body,hy,hR⟩:=HY.out _ (i,j) #[.int .i64 i,.int .i64 j] (wr.drewN nq) (aVg hlt hltj hhd) (aIb HJ.out HJS.out nq) rfl
      refine wpAnyIn_ready (rs:=[19]) (by kernel_rfl) (by simp) ?_
      refine AllReadyIn.cons rfl (fun K hK=>?_) AllReadyIn.nil
      go_simp
      refine hR.mono ?_
      rintro e W3 (⟨rfl,hJ3,hk3⟩ | ⟨rfl,hJx3,_⟩)
      ·refine hK _ _ ?_
       clear hK K
       refine wpAnyIn_ready (rs:=[20]) (by kernel_rfl) (by simp) ?_
       refine AllReadyIn.cons rfl (fun K hK=>?_) AllReadyIn.nil
       go_simp
       refine hK _ _ ?_
       clear hK K
       refine wpAnyIn_ready (rs:=[21]) (by kernel_rfl) (by simp) ?_
       refine AllReadyIn.cons rfl (fun K hK=>?_) AllReadyIn.nil
       go_simp
       refine hK _ _ ?_
       clear hK K
       refine wpAnyIn_done (by kernel_rfl) ?_ _
       gi_wp2
       go_roundw
       case rel=>exact ⟨j+1,by omega,by go_num,(HI.out.drawn nq).kept hk3.1,by rw [xU,if_pos hhd,←List.append_assoc,List.length_append];exact hJ3⟩
       case measure=>simp [intOf];omega
      ·refine hK _ _ ?_
       clear hK K
       refine wpAnyIn_ready (rs:=[20]) (by kernel_rfl) (by simp) ?_
       refine AllReadyIn.cons rfl (fun K hK=>?_) AllReadyIn.nil
       go_simp
       refine hK _ _ ?_
       clear hK K
       refine wpAnyIn_ready (rs:=[21]) (by kernel_rfl) (by simp) ?_
       refine AllReadyIn.cons rfl (fun K hK=>?_) AllReadyIn.nil
       go_simp
       refine hK _ _ ?_
       clear hK K
       refine wpAnyIn_done (by kernel_rfl) ?_ _
       gi_wp2
       refine bodyPost_ret (results_none rfl _ _ _) rfl ?_
       exact ⟨⟨_,rfl⟩,.inr ⟨_,hJx3⟩⟩
     ·rw [decide_eq_false hll] at hnbq
      have hmix:Tryz.prog.follows .mixedOrders=true:=by kernel_rfl
      gi_wp2
      refine aBn [_,_,_,_,_,_,_,_,_,_,_,_,_,_,_,_,_,_,_] [_,_,_] rfl (aH7 rfl) hmix (by kernel_rfl) (by kernel_rfl) ?_
      repeat (gi_big_quiet_step (fail))
      refine wpQuietIn_nil ?_
      rintro _ ⟨nq,rfl⟩
      refine wpAnyIn_ready (rs:=[19]) (by kernel_rfl) (by simp) ?_
      refine AllReadyIn.cons rfl (fun K hK=>?_) AllReadyIn.nil
      go_simp
      refine ⟨fun _ _=>trivial,hK _ _ ?_⟩
      clear hK K
      refine wpAnyIn_ready (rs:=[20]) (by kernel_rfl) (by simp) ?_
      refine AllReadyIn.cons rfl (fun K hK=>?_) AllReadyIn.nil
      go_simp
      refine hK _ _ ?_
      clear hK K
      refine wpAnyIn_ready (rs:=[21]) (by kernel_rfl) (by simp) ?_
      refine AllReadyIn.cons rfl (fun K hK=>?_) AllReadyIn.nil
      go_simp
      refine hK _ _ ?_
      clear hK K
      refine wpAnyIn_done (by kernel_rfl) ?_ _
      gi_wp2
      go_roundw
      case rel=>exact ⟨j+1,by omega,by go_num,HI.out.drawn nq,by rw [xU,if_neg (by rw [hx1,hy1];intro e;exact hll (Option.some.inj e)),List.append_nil];exact aIb HJ.out HJS.out nq⟩
      case measure=>simp [intOf];omega
    ·have hltji:¬(j:Int) < (d.length:Int):=by omega
     have hjd:j=d.length:=by omega
     have HI:=aA hI
     have HJS:=aA hJs
     clear hI hJs
     gi_wp2
     go_roundw
     case rel=>exact ⟨i+1,by omega,by go_num,HI.out,by rw [aC0,←hjd];exact HJS.out⟩
     case measure=>simp [intOf];omega
  ·have hlti:¬(i:Int) < (c.length:Int):=by omega
   have hic:i=c.length:=by omega
   gi_wp2
   go_end0
   exact ⟨⟨_,rfl⟩,.inl (by unfold fR;rw [←hic];exact HJS.out)⟩
end Go.Proofs.YtbddofieljiihaaGreatDoor
namespace Go.Proofs.YtbddofieljiihaaGreatDoor
open Go.RowKit Go.Shelf
set_option maxRecDepth 100000
theorem aVh (xb yb:Bool) (a1 a2:Option Addr) (c1 c2 g:Nat) (xl yl:List Nd) (w:World) (h1:dB w a1 xl) (h2:dB w a2 yl) (g0:w.cell? ⟨g,0,none⟩=some (.bool yb)) (g1:w.cell? ⟨g,1,none⟩=some (.slice a2 yl.length c2)) :
  Calls Tryz.prog 86 #[.agg #[.bool xb,.slice a1 xl.length c1],.pointer (some ⟨g,0,none⟩)] w fun e w'=>e=.returned (.bool (jY (xb,xl) (yb,yl)))∧Below w.heap.size w w':=by
 have hb0:Below w.heap.size w (w.alloc (.cells #[.bool xb,.slice a1 xl.length c1] 74)):=(Below.refl _ _).alloc (Nat.le_refl _) _
 have CS:=aA (aAb xb yb a1 a2 c1 c2 xl yl _ (h1.below hb0 (Nat.le_refl _)) (h2.below hb0 (Nat.le_refl _)))
 have q0:=Below.at' hb0 (Nat.le_refl _) g0
 have q1:=Below.at' hb0 (Nat.le_refl _) g1
 have HB0:=aA hb0
 clear hb0 h1 h2
 go_enter Tryz.func86,Tryz.ntmps86
 go_wp2_with (go_at_call 41;refine (aB CS).mono ?_;rintro e w1 ⟨rfl,hb⟩;have HB1:=aA (HB0.out.trans (hb.mono (by simp)));clear hb)
 go_ret
 exact ⟨rfl,HB1.out⟩
set_option maxHeartbeats 1000000 in
theorem aVi (a a2:Option Addr) (cap c2 g:Nat) (P:List (Lt×Value)) (yb:Bool) (yl:List Nd) (w:World) (hf:P.length≤4398046511104)
  (hc:∀k (h:k < P.length),∃g',a=some ⟨g',0,none⟩∧w.cell? ⟨g',k * 2,none⟩=some (.bool P[k].1.1)∧w.cell? ⟨g',k * 2+1,none⟩=some P[k].2)
  (hA:∀p∈P,jN w p.2 p.1.2) (h2:dB w a2 yl) (g0:w.cell? ⟨g,0,none⟩=some (.bool yb)) (g1:w.cell? ⟨g,1,none⟩=some (.slice a2 yl.length c2)) :
  Calls Tryz.prog 107 #[.slice a P.length cap,.func (Fn.func 86) #[] #[.pointer (some ⟨g,0,none⟩)]] w fun e w'=>∃r:Int,e=.returned (.int .i64 r)∧decide (0≤r)=eX (P.map Prod.fst) (yb,yl)∧Below w.heap.size w w':=by
 have HC:=aA hc
 have HA:=aA hA
 have H2:=aA h2
 clear hc hA h2
 go_enter Tryz.func107,Tryz.ntmps107
 go_wp2
 go_loopw [8] (fun i wr=>∃k:Nat,k≤P.length∧i=.int .i64 k∧eX ((P.map Prod.fst).take k) (yb,yl)=false∧Below w.heap.size w wr) (fun i _=>P.length - (intOf i).toNat)
 case atStart=>exact ⟨0,Nat.zero_le _,rfl,rfl,Below.refl _ _⟩
 case round=>
  obtain ⟨k,hk,rfl,hm,hb⟩:=hrel
  have HM:=aA hm
  clear hm
  by_cases hlt:k < P.length
  ·obtain ⟨g',rfl,e1,f1⟩:=HC.out k hlt
   obtain ⟨pa,pcp,hpv,hpn⟩:=HA.out P[k] (List.getElem_mem _)
   rw [hpv] at f1
   have hmt:=aEx P (yb,yl) k hlt
   rw [HM.out,Bool.false_or] at hmt
   have hmx:=aEy P (yb,yl) (k+1)
   rw [hmt] at hmx
   generalize P[k].1=x at *
   obtain ⟨xb,xl⟩:=x
   simp only at e1 f1 hpn
   have e2:=Below.at' hb (Nat.le_refl _) e1
   have f2:=Below.at' hb (Nat.le_refl _) f1
   have CL:=aA (aVh xb yb pa a2 pcp c2 g xl yl wr (hpn.below hb (Nat.le_refl _)) (H2.out.below hb (Nat.le_refl _)) (Below.at' hb (Nat.le_refl _) g0) (Below.at' hb (Nat.le_refl _) g1))
   have HMT:=aA hmt
   have HMX:=aA hmx
   have HB:=aA hb
   have hbs:=hb.size
   clear hmt hmx hb hpv hpn e1 f1
   cases hl:jY (xb,xl) (yb,yl)
   ·rw [hl] at CL HMT
    clear hl
    go_wp2_with (go_at_call 86;refine (aB CL).mono ?_;rintro e w1 ⟨rfl,hb1⟩;have HB1:=aA (HB.out.trans (hb1.mono hbs));clear hb1)
    go_roundw
    case rel=>exact ⟨k+1,by omega,by go_num,HMT.out,HB1.out⟩
    case measure=>simp [intOf];omega
   ·rw [hl] at CL HMX
    clear hl
    go_wp2_with (go_at_call 86;refine (aB CL).mono ?_;rintro e w1 ⟨rfl,hb1⟩;have HB1:=aA (HB.out.trans (hb1.mono hbs));clear hb1)
    go_ret
    exact ⟨_,rfl,by rw [HMX.out (by first | rfl | trivial)];simp,HB1.out⟩
  ·have hk1:(P.map Prod.fst).take k=P.map Prod.fst:=List.take_of_length_le (by simp;omega)
   rw [hk1] at HM
   have HB:=aA hb
   clear hk1 hb
   go_wp2
   go_ret
   exact ⟨_,rfl,by rw [HM.out];rfl,HB.out⟩
theorem aVj (a a2:Option Addr) (cap c2 g:Nat) (P:List (Lt×Value)) (yb:Bool) (yl:List Nd) (w:World) (hf:P.length≤4398046511104)
  (hc:∀k (h:k < P.length),∃g',a=some ⟨g',0,none⟩∧w.cell? ⟨g',k * 2,none⟩=some (.bool P[k].1.1)∧w.cell? ⟨g',k * 2+1,none⟩=some P[k].2)
  (hA:∀p∈P,jN w p.2 p.1.2) (h2:dB w a2 yl) (g0:w.cell? ⟨g,0,none⟩=some (.bool yb)) (g1:w.cell? ⟨g,1,none⟩=some (.slice a2 yl.length c2)) :
  Calls Tryz.prog 80 #[.slice a P.length cap,.func (Fn.func 86) #[] #[.pointer (some ⟨g,0,none⟩)]] w fun e w'=>e=.returned (.bool (eX (P.map Prod.fst) (yb,yl)))∧Below w.heap.size w w':=by
 have CI:=aA (aVi a a2 cap c2 g P yb yl w hf hc hA h2 g0 g1)
 clear hc hA h2 g0 g1
 go_enter Tryz.func80,Tryz.ntmps80
 go_wp2_with (go_at_call 107;refine (aB CI).mono ?_;rintro e w1 ⟨r,rfl,hr,hb⟩;have HR:=aA hr;have HB:=aA hb;clear hr hb)
 go_ret
 exact ⟨cO HR.out,HB.out⟩
def pJ (c:List Lt) (k:Nat):Bool:=(List.range k).any fun i=>eX (c.take i) (!(c.getD i default).1,(c.getD i default).2)
def oE (c:List Lt):Bool:=pJ c c.length
theorem aVk (c:List Lt) (k:Nat) (h:k < c.length):pJ c (k+1)=(pJ c k || eX (c.take k) (!c[k].1,c[k].2)):=by
 unfold pJ
 rw [List.range_succ,List.any_append]
 simp [h]
theorem aVl (c:List Lt) {k:Nat} (hk:k≤c.length) (h:pJ c k=true):oE c=true:=by
 unfold oE pJ at *
 rw [List.any_eq_true] at *
 obtain ⟨i,hi,h2⟩:=h
 exact ⟨i,List.mem_range.2 (Nat.lt_of_lt_of_le (List.mem_range.1 hi) hk),h2⟩
set_option maxHeartbeats 2000000 in
theorem aIe (a:Option Addr) (cap:Nat) (P:List (Lt×Value)) (w:World) (hf:P.length≤100000) (hcap:P.length≤cap)
  (hc:∀k (h:k < P.length),∃g',a=some ⟨g',0,none⟩∧w.cell? ⟨g',k * 2,none⟩=some (.bool P[k].1.1)∧w.cell? ⟨g',k * 2+1,none⟩=some P[k].2)
  (hA:∀p∈P,jN w p.2 p.1.2) :
  Calls Tryz.prog 54 #[.slice a P.length cap] w fun e w'=>e=.returned (.bool (oE (P.map Prod.fst)))∧Below w.heap.size w w':=by
 have HC:=aA hc
 have HA:=aA hA
 clear hc hA
 go_enter Tryz.func54,Tryz.ntmps54
 go_wp2
 go_loopw [8] (fun i wr=>∃k:Nat,k≤P.length∧i=.int .i64 k∧pJ (P.map Prod.fst) k=false∧Below w.heap.size w wr) (fun i _=>P.length - (intOf i).toNat)
 case atStart=>exact ⟨0,Nat.zero_le _,rfl,rfl,Below.refl _ _⟩
 case round=>
  obtain ⟨k,hk,rfl,hm,hb⟩:=hrel
  have HM:=aA hm
  clear hm
  by_cases hlt:k < P.length
  ·obtain ⟨g',rfl,e1,f1⟩:=HC.out k hlt
   obtain ⟨pa,pcp,hpv,hpn⟩:=HA.out P[k] (List.getElem_mem _)
   rw [hpv] at f1
   have hst:=aVk (P.map Prod.fst) k (by simpa using hlt)
   rw [HM.out,Bool.false_or] at hst
   have hst2:pJ (P.map Prod.fst) (k+1)=eX ((P.map Prod.fst).take k) (!P[k].1.1,P[k].1.2):=by simpa using hst
   generalize P[k].1=x at *
   obtain ⟨xb,xl⟩:=x
   simp only at e1 f1 hpn hst2
   have e2:=Below.at' hb (Nat.le_refl _) e1
   have f2:=Below.at' hb (Nat.le_refl _) f1
   have hbs:=hb.size
   have hki:(k:Int) < (P.length:Int):=by omega
   have hkc:(k:Int)≤(cap:Int):=by omega
   have hbx:Below w.heap.size w ((wr.alloc (.cells #[.bool xb,.slice pa xl.length pcp] 74)).alloc (.cells #[.bool !xb,.slice pa xl.length pcp] 74)):=(hb.alloc hbs _).alloc (by simp;omega) _
   have hnb:((wr.alloc (.cells #[.bool xb,.slice pa xl.length pcp] 74)).alloc (.cells #[.bool !xb,.slice pa xl.length pcp] 74)).heap[wr.heap.size+1]?=some (.cells #[.bool !xb,.slice pa xl.length pcp] 74):=by
    have:=World.alloc_heap_new (wr.alloc (.cells #[.bool xb,.slice pa xl.length pcp] 74)) (.cells #[.bool !xb,.slice pa xl.length pcp] 74)
    rwa [World.size_alloc] at this
   have htl:(P.take k).length=k:=by simp;omega
   have CC:=aA (aVj (some ⟨g',0,none⟩) pa cap pcp (wr.heap.size+1) (P.take k) (!xb) xl ((wr.alloc (.cells #[.bool xb,.slice pa xl.length pcp] 74)).alloc (.cells #[.bool !xb,.slice pa xl.length pcp] 74)) (by omega)
    (fun j hj=>by
     obtain ⟨g2,h1,h2,h3⟩:=HC.out j (by omega)
     rw [List.getElem_take]
     exact ⟨g2,h1,Below.at' hbx (Nat.le_refl _) h2,Below.at' hbx (Nat.le_refl _) h3⟩)
    (fun p hp=>(HA.out p (List.mem_of_mem_take hp)).below hbx (Nat.le_refl _)) (hpn.below hbx (Nat.le_refl _)) (aFa hnb).1 (aFa hnb).2)
   rw [htl,List.map_take,←hst2] at CC
   have HB:=aA hbx
   have HK:=aA (aVl (P.map Prod.fst) (k:=k+1) (by simp;omega))
   clear hst hst2 hbx hnb htl e1 f1 hpn hpv hb
   cases hi:pJ (P.map Prod.fst) (k+1)
   ·rw [hi] at CC
    have HI:=aA hi
    clear hi
    go_wp2_with (first
     | (go_at_call 80;refine (aB CC).mono ?_;rintro e w1 ⟨rfl,hb1⟩;have HB1:=aA (HB.out.trans (hb1.mono (by have:=HB.out.size;simpa using this)));clear hb1)
     | go_in)
    go_roundw
    case rel=>exact ⟨k+1,by omega,by go_num,HI.out,HB1.out⟩
    case measure=>simp [intOf];omega
   ·have HID:=aA (HK.out hi)
    rw [hi] at CC
    clear hi HK
    go_wp2_with (first
     | (go_at_call 80;refine (aB CC).mono ?_;rintro e w1 ⟨rfl,hb1⟩;have HB1:=aA (HB.out.trans (hb1.mono (by have:=HB.out.size;simpa using this)));clear hb1)
     | go_in)
    go_ret
    exact ⟨by rw [HID.out];rfl,HB1.out⟩
  ·have hke:k=(P.map Prod.fst).length:=by simp;omega
   have HB:=aA hb
   clear hb
   go_wp2
   go_ret
   have hid:oE (P.map Prod.fst)=false:=by
    have hm:=HM.out
    rw [hke] at hm
    exact hm
   exact ⟨by rw [hid];rfl,HB.out⟩
end Go.Proofs.YtbddofieljiihaaGreatDoor
