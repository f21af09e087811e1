/- A clause in memory. A range over an iterator that itself goes through iterators: what such an iterator promises, and the caller's law. The search's memory: what stays, by the kinds of blocks. The heap's memory: things that wait; which is lighter; two change their places. The library's IndexFunc, ContainsFunc over numbers, with what a function value says. The library's DeleteFunc over numbers. -/
import Derived.Test.YthicbnejchpmgaaGreatDoorONumberD
import Derived.Test.YthicbnejchpmgaaGreatDoorText0D
import Derived.Handy
import Derived.Deep.RegionHeld3
import Derived.Lib.SliceRun
namespace Go.Proofs.YthicbnejchpmgaaGreatDoor
open Go.RowKit
set_option maxRecDepth 100000
def bK (B:Nat) (w:World) (v:Value) (out:List Lt):Prop:=∃Q:List (Lt×Value),Q.map Prod.fst=out∧w.ownsRow B 66 2 v Q.length (aU Q)∧(∀q∈Q,qH w B q.2 q.1.2)∧((Q.map Prod.snd).filterMap Value.ownBlock).Nodup
theorem bK.nil (B:Nat) (w:World):bK B w (.slice none 0 0) []:=⟨[],rfl,World.ownsRow_nil _ _ _ _,fun q hq=>by simp at hq,by simp⟩
end Go.Proofs.YthicbnejchpmgaaGreatDoor
namespace Go.Proofs.YthicbnejchpmgaaGreatDoor
open Go Go.RowKit
structure cI (S:List TypeId) (W W':World):Prop where
 size:W.heap.size≤W'.heap.size
 kc:∀(k:Nat) (cs:Array Value) (T:TypeId),W.heap[k]?=some (Obj.cells cs T (0,0))→T∉S→W'.heap[k]?=some (Obj.cells cs T (0,0))
theorem cI.refl (S:List TypeId) (W:World):cI S W W:=⟨Nat.le_refl _,fun _ _ _ h _=>h⟩
theorem cI.trans {S:List TypeId} {A B C:World} (h:cI S A B) (k:cI S B C):cI S A C:=⟨Nat.le_trans h.size k.size,fun i cs T hi ht=>k.kc i cs T (h.kc i cs T hi ht) ht⟩
theorem cI.put {S:List TypeId} (W:World) (l:Nat) (o o':Obj) (hl:W.heap[l]?=some o) (ho:o.isCells=false):cI S W (W.putObj l o'):=
 ⟨by simp,fun k cs T hk _=>(World.putObj_heap_other (by rintro rfl;rw [hl] at hk;cases hk;cases ho)).trans hk⟩
theorem cI.grown {S:List TypeId} {U V:World} {row:Option Nat} (h:U.grownBy V row) (hr:∀r,row=some r→∃o:Obj,U.heap[r]?=some o∧o.isCells=false):cI S U V:=
 ⟨h.size,fun i cs T hi _=>(h.block i (Array.getElem?_eq_some_iff.1 hi).1 (by
  intro e
  obtain ⟨o,h1,h2⟩:=hr i e.symm
  rw [h1] at hi
  cases hi
  cases h2)).trans hi⟩
def kR (S:List TypeId) (N:Nat) (W W':World):Prop:=cI S W W'∧KeepsFrom N W W'
theorem iX {B B':Nat} {W W':World} (h:KeepsFrom B W W') (hB:B≤B'):KeepsFrom B' W W':=⟨h.size,fun k o hk h1 h2=>h.same k o (Nat.le_trans hB hk) h1 h2⟩
theorem kR.trans {S:List TypeId} {N:Nat} {A B C:World} (h:kR S N A B) (k:kR S N B C):kR S N A C:=⟨h.1.trans k.1,⟨Nat.le_trans h.2.size k.2.size,fun i o hi h1 h2=>k.2.same i o hi (h.2.same i o hi h1 h2) h2⟩⟩
theorem kS {N:Nat} {A B C:World} (h:KeepsFrom N A B) (k:KeepsFrom N B C):KeepsFrom N A C:=⟨Nat.le_trans h.size k.size,fun i o hi h1 h2=>k.same i o hi (h.same i o hi h1 h2) h2⟩
theorem kR.put {S:List TypeId} {N:Nat} (W:World) (l:Nat) (o o':Obj) (hl:W.heap[l]?=some o) (ho:o.isCells=false) (hN:l < N):kR S N W (W.putObj l o'):=
 ⟨cI.put W l o o' hl ho,⟨by simp,fun k _ hk h1 _=>(World.putObj_heap_other (by omega)).trans h1⟩⟩
def rR {α:Type} (F:Fence) (n:Nat) (P:Program) (g:Nat) (lb:Array Value) (Enc:α→Array Value→World→Prop) (S:List TypeId) (L:List α) (W:World):Prop:=
 ∀(l:Nat) (J Jx:Nat→World→Prop),OwnFrom W.heap.size J→OwnFrom W.heap.size Jx→
  (∀k x args W1,L[k]?=some x→J k W1→Enc x args W1→YieldAt F (n - 1) P l args W1 fun e W'=>
   (e=.returned (.bool true)∧J (k+1) W'∧kR S W.heap.size W1 W')∨(e=.returned (.bool false)∧Jx k W'∧KeepsFrom W.heap.size W1 W'))→
  J 0 W→
  CallsIn F n P g (#[.func (.yield l) #[] #[]]++lb) W fun e W'=>(∃v,e=.returned v)∧(J L.length W'∨∃k,Jx k W')
def xO (B:Nat) (S:List TypeId) (I:Nat→World→Prop) (Ix:Code→Nat→World→Prop) (k:Nat) (W:World):Exit→Act→World→Prop
 | .normal,_,W'=>KeepsFrom B W W'∧cI S W W'∧I (k+1) W'
 | .ret,_,W'=>KeepsFrom B W W'∧Ix .ret k W'
 | .exit i,_,W'=>KeepsFrom B W W'∧Ix (.exit i) k W'
 | .goto t,_,W'=>KeepsFrom B W W'∧Ix (.goto t) k W'
 | .panic _,_,_=>False
 | .outgrown,_,_=>False
theorem qO {β:Type} {B B':Nat} {I:β→World→Prop} (h:OwnFrom B I) (hB:B≤B'):OwnFrom B' I:=
 fun s X Y row hs hg hr=>h s X Y row hs hg (fun r e=>⟨Nat.le_trans hB (hr r e).1,(hr r e).2⟩)
def gY (fn:FuncId) (tmps:Array Value) (ps:Array Tmp) (assign body:Code) (d:Nat) (s:LoopState) (p:Option Code):Loop:=
 {state:=s,pending:=p,fn:=fn,tmps:=tmps,params:=ps,assign:=assign,body:=body,defers:=d}
structure lR (D:Nat) (r:Loop) (W:World):Prop where
 k:W.heap[D]?=some (.deferred (some []))
 l:W.heap[D+1]?=some (.loop r)
theorem lR.own {B D:Nat} {r:Loop} (hB:D+1 < B):OwnFrom B (fun (_:Nat) W=>lR D r W):=fun _ X Y row hs hg hr=>by
 refine ⟨(hg.block _ (Array.getElem?_eq_some_iff.1 hs.k).1 ?_).trans hs.k,(hg.block _ (Array.getElem?_eq_some_iff.1 hs.l).1 ?_).trans hs.l⟩
 all_goals
  intro e
  have:=(hr _ e.symm).1
  omega
theorem lR.put {D:Nat} {r:Loop} {W:World} (h:lR D r W) (r':Loop):lR D r' (W.putObj (D+1) (.loop r')):=
 ⟨(World.putObj_heap_other (by omega)).trans h.k,World.putObj_heap_same (Array.getElem?_eq_some_iff.1 h.l).1⟩
theorem lR.keep {B D:Nat} {r:Loop} {W W':World} (h:lR D r W) (hB:B≤D) (hk:KeepsFrom B W W'):lR D r W':=
 ⟨hk.same _ _ hB h.k rfl,hk.same _ _ (by omega) h.l rfl⟩
theorem xP {α:Type} {F:Fence} {n:Nat} {P:Program} {g:Operand} {ps:Array Tmp} {assign body:Code} {Q:Exit→Act→World→Prop} {a:Act} {w:World}
  (hro:F.round=none) (h1:1≤n) {gf:Nat} {lb:Array Value} (hg:a.eval g=.func (.func gf) #[] lb) (hFg:F.fn gf) (eg:∀args w,(callFunc gf args).run P w=.ok (.enter gf args) w)
  {Enc:α→Array Value→World→Prop} {S:List TypeId} {L:List α}
  (hseq:∀o o',rR F (n - 1) P gf lb Enc S L ((w.alloc o).alloc o'))
  (hps:∀x args W,Enc x args W→args.size=ps.size)
  (I:Nat→World→Prop) (Ix:Code→Nat→World→Prop) (hI:OwnFrom w.heap.size I) (hIx:∀c,OwnFrom w.heap.size (Ix c)) (h0:I 0 w)
  (Ax:α→Act→World→Prop) (hAx:∀x a',OwnFrom w.heap.size (fun (_:Unit) W=>Ax x a' W))
  (hassign:∀(l k:Nat) (x:α) (args:Array Value) (W:World) (K:Act→World→Prop),L[k]?=some x→I k W→Enc x args W→(∀a' W',KeepsFrom w.heap.size W W'→cI S W W'→I k W'→Ax x a' W'→K a' W')→
   assign.wpIn (F.inRound l) (n - 1 - 1) P (Exit.then K (fun _ _ _=>False)) {tmps:=(ps.zip args).foldl (fun t (p,v)=>t.setIfInBounds p v) a.tmps,defers:=[]} W)
  (hbody:∀(l k:Nat) (x:α) (a':Act) (W:World),w.heap.size≤l→L[k]?=some x→I k W→Ax x a' W→
   body.wpIn (F.inRound l) (n - 1 - 1) P (xO w.heap.size S I Ix k W) a' W)
  (hdone:∀(W:World),I L.length W→W.heap[w.heap.size]?=some (.deferred (some []))→Q .normal {a with defers:={target:=.collected w.heap.size,args:=#[]} :: a.defers} W)
  (hstop:∀(c:Code) (k:Nat) (W:World),Ix c k W→W.heap[w.heap.size]?=some (.deferred (some []))→c.wpIn F n P Q {a with defers:={target:=.collected w.heap.size,args:=#[]} :: a.defers} W) :
  (Code.rangeFunc g ps assign body).wpIn F n P Q a w:=by
 refine wpIn_rangeFunc fun fn hfn=>?_
 have hL1:lR w.heap.size (gY fn a.tmps ps assign body w.heap.size .ready none) ((w.alloc (.deferred (some []))).alloc (.loop (gY fn a.tmps ps assign body w.heap.size .ready none))):=by
  refine ⟨(Below.heap_alloc _ _ _ (by simp)).trans (World.alloc_heap_new w _),?_⟩
  have:=World.alloc_heap_new (w.alloc (.deferred (some []))) (.loop (gY fn a.tmps ps assign body w.heap.size .ready none))
  rwa [World.size_alloc] at this
 have hz:((w.alloc (.deferred (some []))).alloc (.loop (gY fn a.tmps ps assign body w.heap.size .ready none))).heap.size=w.heap.size+1+1:=by simp
 rw [hro]
 have henter:=run_enterLoop_outer (P:=P) (w:=w) fn a.tmps ps assign body
 refine ⟨w.heap.size+1,[{target:=.collected w.heap.size,args:=#[]}],(w.alloc (.deferred (some []))).alloc (.loop (gY fn a.tmps ps assign body w.heap.size .ready none)),{target:=.fn (.func gf) lb,args:=#[.func (.yield (w.heap.size+1)) #[] #[]]},
  (w.alloc (.deferred (some []))).alloc (.loop (gY fn a.tmps ps assign body w.heap.size .ready none)),gf,#[.func (.yield (w.heap.size+1)) #[] #[]]++lb,(w.alloc (.deferred (some []))).alloc (.loop (gY fn a.tmps ps assign body w.heap.size .ready none)),henter,?_,?_,?_,fun _=>h1,?_⟩
 ·simp only [resolve,hg]
  simp [go_sem]
 ·intro f' hf'
  simp [Target.leads] at hf'
  subst hf'
  exact hFg
 ·simp [invoke,go_sem,eg]
 refine (hseq _ _ (w.heap.size+1) (fun k W=>I k W∧lR w.heap.size (gY fn a.tmps ps assign body w.heap.size .ready none) W)
  (fun k W=>∃c,Ix c k W∧lR w.heap.size (gY fn a.tmps ps assign body w.heap.size .done (some c)) W) ?o1 ?o2 ?round ⟨hI.alloc _ (hI.alloc _ h0),hL1⟩).mono ?behind
 case o1=>exact (qO hI (by simp;omega)).and (lR.own (by simp))
 case o2=>
  rintro s X Y row ⟨c,h,h'⟩ hg' hr
  exact ⟨c,qO (hIx c) (by simp;omega) s X Y row h hg' hr,lR.own (by simp) s X Y row h' hg' hr⟩
 case round=>
  rintro k x args W hx ⟨hi,hl⟩ he
  refine ⟨fn,_,assign,body,run_yield (P:=P) (args:=args) hl.l (hps x args W he),roundIn_of_wpIn hfn (hassign _ k x args W _ hx hi he ?_)⟩
  intro a' Wa hkf hkp hia hax
  have hla:=hl.keep (Nat.le_refl _) hkf
  refine ⟨_,run_beginRound hla.l rfl,?_⟩
  have hl2:=hla.put (gY fn a.tmps ps assign body w.heap.size .busy none)
  have hi2:=hI.putObj (.loop (gY fn a.tmps ps assign body w.heap.size .busy none)) hia (Nat.le_succ _) hla.l rfl
  have ha2:=(hAx x a').putObj (s:=()) (.loop (gY fn a.tmps ps assign body w.heap.size .busy none)) hax (Nat.le_succ _) hla.l rfl
  have hk2:kR S (w.heap.size+1+1) W _:=kR.trans ⟨hkp,iX hkf (by omega)⟩ (kR.put Wa _ _ (.loop (gY fn a.tmps ps assign body w.heap.size .busy none)) hla.l rfl (Nat.lt_succ_self _))
  refine wpIn_mono (hbody _ k x a' _ (Nat.le_succ _) hx hi2 ha2) ?_
  rintro e a3 W3 hp
  cases e with
  | normal=>
   obtain ⟨hk3,hkp3,hi3⟩:=hp
   have hl3:=hl2.keep (Nat.le_refl _) hk3
   have hl4:=hl3.put (gY fn a.tmps ps assign body w.heap.size .ready none)
   exact ⟨_,_,run_endRound none hl3.l,.inl ⟨rfl,⟨hI.putObj _ hi3 (Nat.le_succ _) hl3.l rfl,hl4⟩,by rw [hz];exact (hk2.trans ⟨hkp3,iX hk3 (by omega)⟩).trans (kR.put _ _ _ _ hl3.l rfl (Nat.lt_succ_self _))⟩⟩
  | ret=>
   obtain ⟨hk3,hi3⟩:=hp
   have hl3:=hl2.keep (Nat.le_refl _) hk3
   exact ⟨_,_,run_endRound (some .ret) hl3.l,.inr ⟨rfl,⟨.ret,(hIx _).putObj _ hi3 (Nat.le_succ _) hl3.l rfl,hl3.put (gY fn a.tmps ps assign body w.heap.size .done (some .ret))⟩,by rw [hz];exact (kS (kS hk2.2 (iX hk3 (by omega))) (kR.put (S:=S) _ _ _ _ hl3.l rfl (Nat.lt_succ_self _)).2)⟩⟩
  | exit i=>
   obtain ⟨hk3,hi3⟩:=hp
   have hl3:=hl2.keep (Nat.le_refl _) hk3
   exact ⟨_,_,run_endRound (some (.exit i)) hl3.l,.inr ⟨rfl,⟨.exit i,(hIx _).putObj _ hi3 (Nat.le_succ _) hl3.l rfl,hl3.put (gY fn a.tmps ps assign body w.heap.size .done (some (.exit i)))⟩,by rw [hz];exact (kS (kS hk2.2 (iX hk3 (by omega))) (kR.put (S:=S) _ _ _ _ hl3.l rfl (Nat.lt_succ_self _)).2)⟩⟩
  | goto t=>
   obtain ⟨hk3,hi3⟩:=hp
   have hl3:=hl2.keep (Nat.le_refl _) hk3
   exact ⟨_,_,run_endRound (some (.goto t)) hl3.l,.inr ⟨rfl,⟨.goto t,(hIx _).putObj _ hi3 (Nat.le_succ _) hl3.l rfl,hl3.put (gY fn a.tmps ps assign body w.heap.size .done (some (.goto t)))⟩,by rw [hz];exact (kS (kS hk2.2 (iX hk3 (by omega))) (kR.put (S:=S) _ _ _ _ hl3.l rfl (Nat.lt_succ_self _)).2)⟩⟩
  | panic ch=>exact hp.elim
  | outgrown=>exact hp.elim
 case behind=>
  rintro e W2 ⟨⟨v,rfl⟩,(⟨hi,hl⟩ | ⟨k,c,hi,hl⟩)⟩
  ·exact ⟨none,_,run_endLoop hl.l (by simp [gY]),hdone _ (hI.putObj _ hi (Nat.le_succ _) hl.l rfl) ((World.putObj_heap_other (by omega)).trans hl.k)⟩
  ·exact ⟨some c,_,run_endLoop hl.l (by simp [gY]),hstop c k _ ((hIx c).putObj _ hi (Nat.le_succ _) hl.l rfl) ((World.putObj_heap_other (by omega)).trans hl.k)⟩
theorem aGj {α:Type} {F:Fence} {n:Nat} {P:Program} {g:Operand} {ps:Array Tmp} {assign body:Code} {Q:Exit→Act→World→Prop} {a:Act} {w:World}
  (hro:F.round=none) (h1:1≤n) {gf:Nat} {lb:Array Value} (hg:a.eval g=.func (.func gf) #[] lb) (hFg:F.fn gf) (eg:∀args w,(callFunc gf args).run P w=.ok (.enter gf args) w)
  {Enc:α→Array Value→World→Prop} {S:List TypeId} {L:List α}
  (hseq:∀o o',rR F (n - 1) P gf lb Enc S L ((w.alloc o).alloc o'))
  (hps:∀x args W,Enc x args W→args.size=ps.size)
  (I:Nat→World→Prop) (Ix:Code→Nat→World→Prop) (hI:OwnFrom w.heap.size I) (hIx:∀c,OwnFrom w.heap.size (Ix c)) (h0:I 0 w)
  (A:α→Act)
  (hassign:∀(l:Nat) (x:α) (args:Array Value) (W:World) (K:Act→World→Prop),Enc x args W→K (A x) W→
   assign.wpIn (F.inRound l) (n - 1 - 1) P (Exit.then K (fun _ _ _=>False)) {tmps:=(ps.zip args).foldl (fun t (p,v)=>t.setIfInBounds p v) a.tmps,defers:=[]} W)
  (hbody:∀(l k:Nat) (x:α) (W:World),w.heap.size≤l→L[k]?=some x→I k W→
   body.wpIn (F.inRound l) (n - 1 - 1) P (xO w.heap.size S I Ix k W) (A x) W)
  (hdone:∀(W:World),I L.length W→W.heap[w.heap.size]?=some (.deferred (some []))→Q .normal {a with defers:={target:=.collected w.heap.size,args:=#[]} :: a.defers} W)
  (hstop:∀(c:Code) (k:Nat) (W:World),Ix c k W→W.heap[w.heap.size]?=some (.deferred (some []))→c.wpIn F n P Q {a with defers:={target:=.collected w.heap.size,args:=#[]} :: a.defers} W) :
  (Code.rangeFunc g ps assign body).wpIn F n P Q a w:=
 xP hro h1 hg hFg eg hseq hps I Ix hI hIx h0 (fun x a' _=>a'=A x) (fun _ _ _ _ _ _ h _ _=>h)
  (fun l k x args W K _ hi he hK=>hassign l x args W K he (hK _ _ (KeepsFrom.refl _ _) (cI.refl _ _) hi rfl))
  (fun l k x a' W hl hx hi ha=>by subst ha;exact hbody l k x W hl hx hi) hdone hstop
end Go.Proofs.YthicbnejchpmgaaGreatDoor
namespace Go.Proofs.YthicbnejchpmgaaGreatDoor
open Go.RowKit
set_option maxRecDepth 100000
structure Mv (S:List TypeId) (B:Nat) (W W':World):Prop where
 os:W'.os=W.os
 tape:W'.tape=W.tape
 output:W'.output=W.output
 size:W.heap.size≤W'.heap.size
 keep:∀k o,W.heap[k]?=some o→(k < B∨∀cs T,o=.cells cs T (0,0)→T∉S)→W'.heap[k]?=some o
theorem Mv.refl (S:List TypeId) (B:Nat) (W:World):Mv S B W W:=⟨rfl,rfl,rfl,Nat.le_refl _,fun _ _ h _=>h⟩
theorem Mv.trans {S:List TypeId} {B:Nat} {U V W:World} (h:Mv S B U V) (k:Mv S B V W):Mv S B U W:=
 ⟨k.os.trans h.os,k.tape.trans h.tape,k.output.trans h.output,Nat.le_trans h.size k.size,fun i o hi ho=>k.keep i o (h.keep i o hi ho) ho⟩
theorem Mv.mono {S S':List TypeId} {B B':Nat} {U V:World} (h:Mv S B U V) (hS:∀t∈S,t∈S') (hB:B'≤B):Mv S' B' U V:=
 ⟨h.os,h.tape,h.output,h.size,fun i o hi ho=>h.keep i o hi (by
  rcases ho with ho | ho
  ·exact Or.inl (by omega)
  ·exact Or.inr (fun cs T e hm=>ho cs T e (hS _ hm)))⟩
theorem Mv.of_below {S:List TypeId} {B:Nat} {U V:World} (h:Below U.heap.size U V):Mv S B U V:=
 ⟨h.os,h.tape,h.output,h.size,fun i _ hi _=>(h.block i (Array.getElem?_eq_some_iff.1 hi).1).trans hi⟩
theorem Mv.of_grown {S:List TypeId} {B:Nat} {U V:World} {row:Option Nat} (h:U.grownBy V row) (hr:∀k,row=some k→B≤k∧∃cs T,U.heap[k]?=some (.cells cs T (0,0))∧T∈S):Mv S B U V:=
 ⟨h.os,h.tape,h.output,h.size,fun i o hi ho=>(h.block i (Array.getElem?_eq_some_iff.1 hi).1 (by
  intro e
  obtain ⟨h1,cs,T,h2,h3⟩:=hr i e.symm
  rw [h2] at hi
  cases hi
  rcases ho with ho | ho
  ·omega
  ·exact ho cs T rfl h3)).trans hi⟩
theorem Mv.cells {S:List TypeId} {B:Nat} {U V:World} (h:Mv S B U V) {k:Nat} {cs:Array Value} {T:TypeId} (hk:U.heap[k]?=some (.cells cs T (0,0))) (hT:T∉S):V.heap[k]?=some (.cells cs T (0,0)):=
 h.keep k _ hk (Or.inr (fun cs' T' e=>by cases e;exact hT))
theorem Mv.below {S:List TypeId} {B:Nat} {U V:World} (h:Mv S B U V) (hB:B≤U.heap.size):Below B U V:=
 ⟨h.os,h.tape,h.output,h.size,fun k hk=>by
  obtain ⟨o,ho⟩ : ∃o,U.heap[k]?=some o:=⟨_,Array.getElem?_eq_getElem (by omega)⟩
  rw [h.keep k o ho (Or.inl hk),ho]⟩
theorem Mv.keepsFrom {S:List TypeId} {B B':Nat} {U V:World} (h:Mv S B U V):KeepsFrom B' U V:=
 ⟨h.size,fun k o _ hk ho=>h.keep k o hk (Or.inr (fun cs T e=>by subst e;cases ho))⟩
theorem Mv.row {S:List TypeId} {B B':Nat} {U V:World} (h:Mv S B U V) {e:TypeId} {z:Nat} {v:Value} {n:Nat} {xs:List Value} (hr:U.ownsRow B' e z v n xs) (he:e∉S):V.ownsRow B' e z v n xs:=by
 obtain ⟨h1,⟨rfl,h2⟩ | ⟨g,cap,cur,rfl,hb,hh,hx⟩⟩:=hr
 ·exact ⟨h1,Or.inl ⟨rfl,h2⟩⟩
 ·exact ⟨h1,Or.inr ⟨g,cap,cur,rfl,hb,h.cells hh he,hx⟩⟩
theorem Mv.clause {S:List TypeId} {B B':Nat} {U V:World} (h:Mv S B U V) {v:Value} {c:List Lt} (hc:bK B' U v c) (h1:66∉S) (h2:28∉S):bK B' V v c:=by
 obtain ⟨Q,q1,q2,q3,q4⟩:=hc
 exact ⟨Q,q1,h.row q2 h1,fun q hq=>h.row (q3 q hq) h2,q4⟩
theorem Mv.boxed {S:List TypeId} {B:Nat} {U V:World} (h:Mv S B U V) {k:Nat} {T:TypeId} {v:Value} (hb:Boxed U k T v) (hT:T∉S):Boxed V k T v:=h.cells hb hT
theorem Mv.kps {S:List TypeId} {B:Nat} {U V:World} (h:Mv S B U V):cI S U V:=⟨h.size,fun _ _ _ hk ht=>h.cells hk ht⟩
theorem cI.row {S:List TypeId} {B':Nat} {U V:World} (h:cI S U V) {e:TypeId} {z:Nat} {v:Value} {n:Nat} {xs:List Value} (hr:U.ownsRow B' e z v n xs) (he:e∉S):V.ownsRow B' e z v n xs:=by
 obtain ⟨h1,⟨rfl,h2⟩ | ⟨g,cap,cur,rfl,hb,hh,hx⟩⟩:=hr
 ·exact ⟨h1,Or.inl ⟨rfl,h2⟩⟩
 ·exact ⟨h1,Or.inr ⟨g,cap,cur,rfl,hb,h.kc _ _ _ hh he,hx⟩⟩
theorem cI.clause {S:List TypeId} {B':Nat} {U V:World} (h:cI S U V) {v:Value} {c:List Lt} (hc:bK B' U v c) (h1:66∉S) (h2:28∉S):bK B' V v c:=by
 obtain ⟨Q,q1,q2,q3,q4⟩:=hc
 exact ⟨Q,q1,h.row q2 h1,fun q hq=>h.row (q3 q hq) h2,q4⟩
theorem cI.boxed {S:List TypeId} {U V:World} (h:cI S U V) {k:Nat} {T:TypeId} {v:Value} (hb:Boxed U k T v) (hT:T∉S):Boxed V k T v:=h.kc _ _ _ hb hT
structure jK (c:List Lt):Prop where
 len:c.length≤8
 term:∀x∈c,aI x.2 1=true∧x.2.length≤60
theorem aGk {n:Nd} (h:dH n=true):n.1.size≤80:=by
 unfold dH at h
 split at h
 ·rename_i h'
  have:n.1.size=0:=by
   simp [aG] at h'
   have:=congrArg List.length h'
   rw [ByteArray.toList_eq] at this
   simpa using this
  omega
 ·simp at h
  exact (aFe _ h.1).2
theorem aBa:∀(l:List Nd) (q:Nat),aI l q=true→∀n∈l,dH n=true
 | [],_,_,n,hn=>by simp at hn
 | x :: r,q,h,n,hn=>by
  unfold aI at h
  split at h
  ·cases h
  ·split at h
   ·rename_i hx
    rcases List.mem_cons.1 hn with rfl | hn
    ·exact hx
    ·exact aBa r _ h n hn
   ·cases h
theorem jK.nodes {c:List Lt} (h:jK c) {x:Lt} (hx:x∈c):x.2.length≤60∧0 < x.2.length∧∀k (h:k < x.2.length),x.2[k].1.size≤80:=by
 obtain ⟨h1,h2⟩:=h.term x hx
 refine ⟨h2,?_,fun k hk=>aGk (aBa _ _ h1 _ (List.getElem_mem hk))⟩
 cases hl:x.2 with
 | nil=>rw [hl] at h1;simp [aI] at h1
 | cons=>simp
theorem kT {c:List Lt} (h:bV c=true):jK c:=by
 simp only [bV,Bool.and_eq_true,dV,decide_eq_true_eq,List.all_eq_true] at h
 exact ⟨h.1.1.1,fun x hx=>aEy (h.1.2 x hx)⟩
theorem bK.lits {B:Nat} {w:World} {v:Value} {c:List Lt} (h:bK B w v c) (hn:jK c):∃a cap,v=.slice a c.length cap∧c.length≤cap∧bS w a c∧wV w a c:=by
 obtain ⟨Q,q1,q2,q3,q4⟩:=h
 subst q1
 obtain ⟨a,cap,rfl⟩:=aR q2
 refine ⟨a,cap,by simp,?_,zV (P:=Q) (by simpa using q2) rfl (fun q hq=>?_) (by have:=hn.len;omega),?_⟩
 ·obtain ⟨_,⟨e,e'⟩ | ⟨g,cap',cur,e,_,_,hc,_⟩⟩:=q2
  ·simp [e']
  ·simp at e
   obtain ⟨_,rfl⟩:=e
   simpa using hc
 ·obtain ⟨h1,h2,h3⟩:=hn.nodes (x:=q.1) (by simp;exact ⟨_,hq⟩)
  obtain ⟨aa,cp,e,hx⟩:=nX (q3 q hq) (by omega) (fun k hk=>by have:=h3 k hk;omega)
  exact ⟨aa,cp,e,hx⟩
 ·intro k hk b o aa n cp ea hcell
  have hk':k < Q.length:=by simpa using hk
  obtain ⟨a',cap',e,hc⟩:=sL q2
  simp at e
  obtain ⟨rfl,rfl⟩:=e
  obtain ⟨g,e1,_,e3⟩:=hc k hk'
  rw [ea] at e1
  simp at e1
  obtain ⟨rfl,rfl⟩:=e1
  rw [Nat.zero_add] at hcell
  rw [hcell] at e3
  obtain ⟨_,⟨e,_⟩ | ⟨g',cap',cur,e,_,_,hcc,_⟩⟩:=q3 Q[k] (List.getElem_mem _)
  ·rw [e] at e3
   cases e3
   omega
  ·rw [e] at e3
   cases e3
   exact hcc
structure Cd where
 r:Int
 a:Int
 b:Int
 i:Int
 j:Int
 ad:Option Addr
 ln:Nat
 cp:Nat
 wt:Int
 nm:Int
 c:List Lt
def Cd.cells (x:Cd):List Value:=[.int .i64 x.r,.int .i64 x.a,.int .i64 x.b,.int .i64 x.i,.int .i64 x.j,.slice x.ad x.ln x.cp,.int .i64 x.wt,.int .i64 x.nm]
def Cd.agg (x:Cd):Value:=.agg #[.int .i64 x.r,.int .i64 x.a,.int .i64 x.b,.int .i64 x.i,.int .i64 x.j,.slice x.ad x.ln x.cp,.int .i64 x.wt,.int .i64 x.nm]
def fL (L:List Cd):List Value:=L.flatMap Cd.cells
theorem aS4:(Tryz.prog.info? 86).map (fun i=>(i.zero,i.size,i.bytes))=some (some (.agg #[.int .i64 0,.int .i64 0,.int .i64 0,.int .i64 0,.int .i64 0,.slice none 0 0,.int .i64 0,.int .i64 0]),8,80):=by kernel_rfl
theorem aGl (L:List Cd):(fL L).length=L.length * 8:=by
 induction L with
 | nil=>rfl
 | cons x r ih=>simp [fL,Cd.cells] at ih ⊢;omega
theorem tC (x:Cd) (L:List Cd):fL (x :: L)=x.cells++fL L:=rfl
theorem aS5 (L M:List Cd):fL (L++M)=fL L++fL M:=by simp [fL]
theorem xQ (x:Cd):x.cells.length=8:=rfl
theorem pI:∀(L:List Cd) (k:Nat) (h:k < L.length) (t:Nat),t < 8→(fL L)[k * 8+t]?=(L[k]).cells[t]?
 | [],k,h,_,_=>by simp at h
 | x :: L,0,_,t,ht=>by rw [tC,List.getElem?_append_left (by rw [xQ];omega)];simp
 | x :: L,k+1,h,t,ht=>by
  have:=pI L k (by simpa using h) t ht
  rw [tC,List.getElem?_append_right (by rw [xQ];omega),xQ,show (k+1) * 8+t - 8=k * 8+t by omega,this]
  simp
def xR (X:List Value) (o:Nat) (x:Cd):List Value:=(((((((X.set o (.int .i64 x.r)).set (o+1) (.int .i64 x.a)).set (o+2) (.int .i64 x.b)).set (o+3) (.int .i64 x.i)).set (o+4) (.int .i64 x.j)).set (o+5) (.slice x.ad x.ln x.cp)).set (o+6) (.int .i64 x.wt)).set (o+7) (.int .i64 x.nm)
theorem aGm:∀(L:List Cd) (k:Nat) (x:Cd),k < L.length→xR (fL L) (k * 8) x=fL (L.set k x)
 | [],k,_,h=>by simp at h
 | y :: L,0,x,_=>by simp [xR,fL,Cd.cells]
 | y :: L,k+1,x,h=>by
  have:=aGm L k x (by simpa using h)
  rw [List.set_cons_succ,tC,tC,←this]
  have e0:(k+1) * 8=k * 8+8:=by omega
  simp only [xR,e0]
  simp [Cd.cells]
theorem pJ {w:World} {B g:Nat} {e:TypeId} {z n cap:Nat} {xs:List Value} (h:w.ownsRow B e z (.slice (some ⟨g,0,none⟩) n cap) n xs) (k:Nat) (u:Value):(w.setCell ⟨g,k,none⟩ u).ownsRow B e z (.slice (some ⟨g,0,none⟩) n cap) n (xs.set k u):=by
 obtain ⟨h1,⟨e1,_⟩ | ⟨g',cap',cur,e1,hb,hh,hc,hm,hz,ht⟩⟩:=h
 ·cases e1
 ·simp at e1
  obtain ⟨rfl,rfl⟩:=e1
  refine ⟨by simpa using h1,Or.inr ⟨g,cap,cur.setIfInBounds k u,rfl,hb,?_,hc,hm,by simpa using hz,?_⟩⟩
  ·have hlt:=(Array.getElem?_eq_some_iff.1 hh).1
   show (w.heap.modify g _)[g]?=_
   rw [Array.getElem?_eq_getElem (by rw [Array.size_modify];exact hlt),Array.getElem_modify_self]
   rw [(Array.getElem?_eq_some_iff.1 hh).2]
   rfl
  ·rw [←ht]
   simp [List.take_set]
structure bR (B:Nat) (w:World) (hp:Nat) (v:Value) (L:List Cd):Prop where
 box:w.heap[hp]?=some (.cells #[v,.func (.func 35) #[] #[]] 115 (0,0))
 row:w.ownsRow B 86 8 v L.length (fL L)
 base:B≤hp
theorem bR.c0 {B:Nat} {w:World} {hp:Nat} {v:Value} {L:List Cd} (h:bR B w hp v L):w.cell? ⟨hp,0,none⟩=some v∧w.cell? ⟨hp,1,none⟩=some (.func (.func 35) #[] #[]):=⟨by simp [World.cell?,h.box],by simp [World.cell?,h.box]⟩
theorem bR.cells {B:Nat} {w:World} {hp:Nat} {v:Value} {L:List Cd} (h:bR B w hp v L) {k:Nat} (hk:k < L.length) :
  ∃g cap,v=.slice (some ⟨g,0,none⟩) L.length cap∧w.cell? ⟨g,k * 8,none⟩=some (.int .i64 L[k].r)∧w.cell? ⟨g,k * 8+1,none⟩=some (.int .i64 L[k].a)∧w.cell? ⟨g,k * 8+2,none⟩=some (.int .i64 L[k].b)∧w.cell? ⟨g,k * 8+3,none⟩=some (.int .i64 L[k].i)∧
   w.cell? ⟨g,k * 8+4,none⟩=some (.int .i64 L[k].j)∧w.cell? ⟨g,k * 8+5,none⟩=some (.slice L[k].ad L[k].ln L[k].cp)∧w.cell? ⟨g,k * 8+6,none⟩=some (.int .i64 L[k].wt)∧w.cell? ⟨g,k * 8+7,none⟩=some (.int .i64 L[k].nm):=by
 obtain ⟨h1,⟨_,e⟩ | ⟨g,cap,cur,rfl,hb,hh,hr⟩⟩:=h.row
 ·omega
 ·have ho:=h.row
  have hl:=aGl L
  refine ⟨g,cap,rfl,?_,?_,?_,?_,?_,?_,?_,?_⟩
  ·rw [ho.cellAt (k * 8) (by omega)];exact pI L k hk 0 (by omega)
  ·rw [ho.cellAt (k * 8+1) (by omega)];exact pI L k hk 1 (by omega)
  ·rw [ho.cellAt (k * 8+2) (by omega)];exact pI L k hk 2 (by omega)
  ·rw [ho.cellAt (k * 8+3) (by omega)];exact pI L k hk 3 (by omega)
  ·rw [ho.cellAt (k * 8+4) (by omega)];exact pI L k hk 4 (by omega)
  ·rw [ho.cellAt (k * 8+5) (by omega)];exact pI L k hk 5 (by omega)
  ·rw [ho.cellAt (k * 8+6) (by omega)];exact pI L k hk 6 (by omega)
  ·rw [ho.cellAt (k * 8+7) (by omega)];exact pI L k hk 7 (by omega)
def fF (w:World) (g o:Nat) (x:Cd):World:=(((((((w.setCell ⟨g,o,none⟩ (.int .i64 x.r)).setCell ⟨g,o+1,none⟩ (.int .i64 x.a)).setCell ⟨g,o+2,none⟩ (.int .i64 x.b)).setCell ⟨g,o+3,none⟩ (.int .i64 x.i)).setCell ⟨g,o+4,none⟩ (.int .i64 x.j)).setCell ⟨g,o+5,none⟩ (.slice x.ad x.ln x.cp)).setCell ⟨g,o+6,none⟩ (.int .i64 x.wt)).setCell ⟨g,o+7,none⟩ (.int .i64 x.nm)
theorem aS6 {w:World} {B g n cap k:Nat} {e:TypeId} {L:List Cd} {x:Cd} (h:w.ownsRow B e 8 (.slice (some ⟨g,0,none⟩) n cap) n (fL L)) (hk:k < L.length):(fF w g (k * 8) x).ownsRow B e 8 (.slice (some ⟨g,0,none⟩) n cap) n (fL (L.set k x)):=by
 rw [←aGm L k x hk]
 unfold fF xR
 exact pJ (pJ (pJ (pJ (pJ (pJ (pJ (pJ h _ _) _ _) _ _) _ _) _ _) _ _) _ _) _ _
theorem aGn (w:World) (g o:Nat) (x:Cd):w.grownBy (fF w g o x) (some g):=by
 unfold fF
 have h:∀(u:World) (k:Nat) (v:Value),w.grownBy u (some g)→w.grownBy (u.setCell ⟨g,k,none⟩ v) (some g):=fun u k v hu=>by
  have h2:=bZ u ⟨g,k,none⟩ v
  exact ⟨h2.os.trans hu.os,h2.tape.trans hu.tape,h2.output.trans hu.output,Nat.le_trans hu.size h2.size,fun j hj hne=>(h2.block j (Nat.lt_of_lt_of_le hj hu.size) hne).trans (hu.block j hj hne)⟩
 refine h _ _ _ (h _ _ _ (h _ _ _ (h _ _ _ (h _ _ _ (h _ _ _ (h _ _ _ (h _ _ _ ?_)))))))
 exact ⟨rfl,rfl,rfl,Nat.le_refl _,fun _ _ _=>rfl⟩
theorem aS7 (w:World) (g o q:Nat) (x:Cd) (h:q < o∨o+8≤q):(fF w g o x).cell? ⟨g,q,none⟩=w.cell? ⟨g,q,none⟩:=by
 unfold fF
 iterate 8 rw [World.cell?_setCell_other _ _ _ _ (by intro h;simp only [Addr.mk.injEq] at h;omega)]
theorem bR.frozen {B:Nat} {w:World} {hp g n cap:Nat} {L:List Cd} (h:bR B w hp (.slice (some ⟨g,0,none⟩) n cap) L) (q:Nat):w.frozen? ⟨g,q,none⟩=false:=by
 obtain ⟨_,⟨e,_⟩ | ⟨g',cap',cur,e,hb,hh,_⟩⟩:=h.row
 ·cases e
 ·simp at e
  obtain ⟨rfl,_⟩:=e
  simp [World.frozen?,hh]
def jL (x y:Cd):Bool:=if x.wt=y.wt then decide (x.nm < y.nm) else decide (x.wt < y.wt)
theorem aGo (x y:Cd) (w:World):Calls Tryz.prog 35 #[x.agg,y.agg] w fun e w'=>e=.returned (.bool (jL x y))∧Below w.heap.size w w':=by
 unfold Cd.agg
 go_enter Tryz.func35,Tryz.ntmps35
 go_wp2
 ·have hne:x.wt≠y.wt:=by simpa using ‹(x.wt != y.wt)=true›
  go_ret
  exact ⟨by simp [jL,hne],((Below.refl _ w).alloc (Nat.le_refl _) _).alloc (by simp) _⟩
 ·have heq:x.wt=y.wt:=by simpa using ‹(x.wt != y.wt)=false›
  go_ret
  exact ⟨by simp [jL,heq],((Below.refl _ w).alloc (Nat.le_refl _) _).alloc (by simp) _⟩
theorem bR.below {B:Nat} {w w':World} {hp:Nat} {v:Value} {L:List Cd} (h:bR B w hp v L) (hb:Below w.heap.size w w'):bR B w' hp v L:=
 ⟨(hb.block _ (Array.getElem?_eq_some_iff.1 h.box).1).trans h.box,aY h.row hb (Nat.le_refl _),h.base⟩
theorem bR.put {B:Nat} {w:World} {hp g n cap k:Nat} {L:List Cd} {x:Cd} (h:bR B w hp (.slice (some ⟨g,0,none⟩) n cap) L) (hn:n=L.length) (hk:k < L.length):bR B (fF w g (k * 8) x) hp (.slice (some ⟨g,0,none⟩) n cap) (L.set k x)∧w.grownBy (fF w g (k * 8) x) (some g):=by
 subst hn
 obtain ⟨_,⟨e,_⟩ | ⟨g',cap',cur,e,_,hh,_⟩⟩:=h.row
 ·cases e
 ·simp at e
  obtain ⟨rfl,rfl⟩:=e
  have hgr:=aGn w g (k * 8) x
  refine ⟨⟨?_,?_,h.base⟩,hgr⟩
  ·rw [hgr.block hp (Array.getElem?_eq_some_iff.1 h.box).1 (by
    intro e
    cases e
    rw [h.box] at hh
    cases hh)]
   exact h.box
  ·have:=aS6 (x:=x) h.row hk
   simpa using this
theorem jM {a b c:World} {r:Option Nat} (h:a.grownBy b r) (k:b.grownBy c r):a.grownBy c r:=
 ⟨k.os.trans h.os,k.tape.trans h.tape,k.output.trans h.output,Nat.le_trans h.size k.size,fun j hj hne=>(k.block j (Nat.lt_of_lt_of_le hj h.size) hne).trans (h.block j hj hne)⟩
theorem bR.mv {B:Nat} {w w':World} {hp:Nat} {v:Value} {L:List Cd} (h:bR B w hp v L) (hg:w.grownBy w' v.ownBlock):Mv [86] B w w':=by
 refine Mv.of_grown hg (fun k hk=>?_)
 obtain ⟨_,⟨rfl,_⟩ | ⟨g,cap,cur,rfl,hb,hh,_⟩⟩:=h.row
 ·cases hk
 ·cases hk
  exact ⟨hb,cur,_,hh,by simp⟩
def mU (L:List Cd) (a b:Nat) (ha:a < L.length) (hb:b < L.length):List Cd:=(L.set a L[b]).set b L[a]
theorem uT {L:List Cd} {a b:Nat} (ha:a < L.length) (hb:b < L.length):(mU L a b ha hb).length=L.length:=by simp [mU]
set_option maxHeartbeats 2000000 in
theorem aGp (B hp:Nat) (v:Value) (L:List Cd) (a b:Nat) (w:World) (h:bR B w hp v L) (ha:a < L.length) (hb:b < L.length) (hne:a≠b) :
  Calls Tryz.prog 109 #[.pointer (some ⟨hp,0,none⟩),.int .i64 a,.int .i64 b] w fun e w'=>(∃u,e=.returned u)∧bR B w' hp v (mU L a b ha hb)∧w.grownBy w' v.ownBlock:=by
 obtain ⟨g,cap,rfl,x0,x1,x2,x3,x4,x5,x6,x7⟩:=h.cells ha
 obtain ⟨g',cap',e,y0,y1,y2,y3,y4,y5,y6,y7⟩:=h.cells hb
 cases e
 have c0:=h.c0.1
 have hf:=h.frozen
 have hai:(a:Int) < (L.length:Int):=by omega
 have hbi:(b:Int) < (L.length:Int):=by omega
 have z:=fun t (ht:t < 8)=>aS7 w g (a * 8) (b * 8+t) L[b] (by omega)
 have z0:=(z 0 (by omega)).trans y0
 have z1:=(z 1 (by omega)).trans y1
 have z2:=(z 2 (by omega)).trans y2
 have z3:=(z 3 (by omega)).trans y3
 have z4:=(z 4 (by omega)).trans y4
 have z5:=(z 5 (by omega)).trans y5
 have z6:=(z 6 (by omega)).trans y6
 have z7:=(z 7 (by omega)).trans y7
 clear z
 unfold fF at z0 z1 z2 z3 z4 z5 z6 z7
 simp only [Nat.add_zero] at z0
 have HH:=aA h
 clear h
 go_enter Tryz.func109,Tryz.ntmps109
 have hmix:Tryz.prog.follows .mixedOrders=true:=by kernel_rfl
 go_region
 go_end0
 have h1:=HH.out.put (x:=L[b]) rfl ha
 have h2:=h1.1.put (k:=b) (x:=L[a]) (by simp) (by simpa using hb)
 refine ⟨⟨_,rfl⟩,?_,?_⟩
 ·exact h2.1.below (aN ⟨1,rfl⟩)
 ·exact jM (jM h1.2 h2.2) (fH (aN ⟨1,rfl⟩))
def dD (B:Nat) (w:World) (v:Value) (ks:List Nat):Prop:=w.ownsRow B 3 1 v ks.length (ks.map fun k=>Value.int .i64 (k:Nat))
theorem dD.cell {B:Nat} {w:World} {a:Option Addr} {n cap:Nat} {ks:List Nat} (h:dD B w (.slice a n cap) ks) {i:Nat} (hi:i < ks.length):∃g,a=some ⟨g,0,none⟩∧w.cell? ⟨g,i,none⟩=some (.int .i64 (ks[i]:Nat)):=by
 have h':w.ownsRow B 3 1 (.slice a n cap) ks.length (ks.map fun k=>Value.int .i64 (k:Nat)):=h
 obtain ⟨_,⟨_,e⟩ | ⟨g,cap',cur,e,_⟩⟩:=h
 ·omega
 ·simp at e
  refine ⟨g,e.1,?_⟩
  obtain ⟨rfl,rfl,rfl⟩:=e
  rw [h'.cellAt i (by simpa using hi)]
  simp [hi]
theorem dD.shape {B:Nat} {w:World} {v:Value} {ks:List Nat} (h:dD B w v ks):∃a cap,v=.slice a ks.length cap:=aR h
def mV (p:Nat→Bool) (ks:List Nat):Int:=if ks.findIdx p < ks.length then (ks.findIdx p:Nat) else -1
theorem aGq {p:Nat→Bool} {ks:List Nat} {k:Nat} (hk:k < ks.length) (h:p ks[k]=true) (ho:∀j (hj:j < k),p (ks[j]'(by omega))=false):mV p ks=(k:Nat):=by
 have e:ks.findIdx p=k:=(List.findIdx_eq hk).2 ⟨h,fun j hj=>by simpa using ho j hj⟩
 unfold mV
 rw [e,if_pos hk]
theorem aBb {p:Nat→Bool} {ks:List Nat} (ho:∀j (hj:j < ks.length),p ks[j]=false):mV p ks=-1:=by
 have e:ks.findIdx p=ks.length:=List.findIdx_eq_length.2 (fun x hx=>by
  obtain ⟨j,hj,rfl⟩:=List.getElem_of_mem hx
  exact ho j hj)
 unfold mV
 rw [e,if_neg (by omega)]
theorem aS8 {p:Nat→Bool} {ks:List Nat}:decide (0≤mV p ks)=ks.any p:=by
 unfold mV
 split
 ·rename_i h
  rw [show decide (0≤((ks.findIdx p:Nat):Int))=true by simp]
  rw [List.findIdx_lt_length] at h
  exact (List.any_eq_true.2 h).symm
 ·rename_i h
  rw [List.findIdx_lt_length] at h
  have:ks.any p=false:=by
   rw [Bool.eq_false_iff]
   exact fun hh=>h (List.any_eq_true.1 hh)
  rw [this]
  rfl
def aGr (w:World) (b1 b2:Nat) (p:Nat→Bool) (ks:List Nat):Prop:=∀k∈ks,∀wx,Below w.heap.size w wx→Calls Tryz.prog 89 #[.int .i64 (k:Nat),.pointer (some ⟨b1,0,none⟩),.pointer (some ⟨b2,0,none⟩)] wx fun e w'=>e=.returned (.bool (p k))∧Below wx.heap.size wx w'
set_option maxHeartbeats 2000000 in
theorem aS9 (B b1 b2:Nat) (p:Nat→Bool) (a:Option Addr) (cap:Nat) (ks:List Nat) (w:World) (h:dD B w (.slice a ks.length cap) ks) (hl:ks.length≤1000000) (hs:aGr w b1 b2 p ks) :
  Calls Tryz.prog 93 #[.slice a ks.length cap,.func (.func 89) #[] #[.pointer (some ⟨b1,0,none⟩),.pointer (some ⟨b2,0,none⟩)]] w fun e w'=>e=.returned (.int .i64 (mV p ks))∧Below w.heap.size w w':=by
 have HS:=aA hs
 have HH:=aA h
 clear hs h
 go_enter Tryz.func93,Tryz.ntmps93
 go_wp2
 go_loopw [8] (fun i wr=>∃k:Nat,k≤ks.length∧i=.int .i64 k∧(∀j (hj:j < ks.length),j < k→p ks[j]=false)∧Below w.heap.size w wr) (fun i _=>ks.length - (intOf i).toNat)
 case atStart=>exact ⟨0,Nat.zero_le _,rfl,fun j _ h=>by omega,Below.refl _ _⟩
 case round=>
  obtain ⟨k,hk,rfl,hm,hb⟩:=hrel
  have HM:=aA hm
  have HB:=aA hb
  clear hm
  by_cases hlt:k < ks.length
  ·obtain ⟨g,rfl,hc⟩:=HH.out.cell hlt
   have hc2:=Below.at' hb (Nat.le_refl _) hc
   have hki:(k:Int) < (ks.length:Int):=by omega
   obtain ⟨x,hx⟩ : ∃x,ks[k]=x:=⟨_,rfl⟩
   rw [hx] at hc hc2
   have CP:=aA (HS.out x (by rw [←hx];exact List.getElem_mem hlt) wr hb)
   have HX:=aA hx
   have hbs:=hb.size
   clear hc hx hb
   cases hp:p x
   ·rw [hp] at CP
    have HP:=aA hp
    clear hp
    go_wp2_with (first
     | (go_at_call 89;refine (aB CP).mono ?_;rintro e w1 ⟨rfl,hb1⟩;have HB1:=aA (HB.out.trans (hb1.mono hbs));clear hb1)
     | go_in)
    go_roundw
    case rel=>exact ⟨k+1,by omega,by go_num,fun j hj hjk=>by
     rcases (show j < k∨j=k by omega) with h | rfl
     ·exact HM.out j hj h
     ·rw [HX.out];exact HP.out,HB1.out⟩
    case measure=>simp [intOf];omega
   ·rw [hp] at CP
    have HP:=aA hp
    clear hp
    go_wp2_with (first
     | (go_at_call 89;refine (aB CP).mono ?_;rintro e w1 ⟨rfl,hb1⟩;have HB1:=aA (HB.out.trans (hb1.mono hbs));clear hb1)
     | go_in)
    go_ret
    have hf:=aGq hlt (by rw [HX.out];exact HP.out) (fun j hj=>HM.out j (by omega) hj)
    exact ⟨by rw [hf];rfl,HB1.out⟩
  ·have hke:k=ks.length:=by omega
   clear hb
   go_wp2
   go_ret
   have hf:=aBb (fun j hj=>HM.out j hj (by omega))
   exact ⟨by rw [hf];rfl,HB.out⟩
theorem aSa (B b1 b2:Nat) (p:Nat→Bool) (a:Option Addr) (cap:Nat) (ks:List Nat) (w:World) (h:dD B w (.slice a ks.length cap) ks) (hl:ks.length≤1000000) (hs:aGr w b1 b2 p ks) :
  Calls Tryz.prog 88 #[.slice a ks.length cap,.func (.func 89) #[] #[.pointer (some ⟨b1,0,none⟩),.pointer (some ⟨b2,0,none⟩)]] w fun e w'=>e=.returned (.bool (ks.any p))∧Below w.heap.size w w':=by
 have CI:=aA (aS9 B b1 b2 p a cap ks w h hl hs)
 have hany:=aS8 (p:=p) (ks:=ks)
 clear h hs
 generalize mV p ks=r at *
 generalize ks.any p=q at *
 have HA:=aA hany
 clear hany
 go_enter Tryz.func88,Tryz.ntmps88
 go_wp2_with (go_at_call 93;refine (aB CI).mono ?_;rintro e w1 ⟨rfl,hb⟩;have HB:=aA hb;clear hb)
 go_ret
 exact ⟨by rw [←HA.out];rfl,HB.out⟩
def aGs (w:World) (b1 b2:Nat) (p:Nat→Bool) (ks:List Nat):Prop:=∀k∈ks,∀wx,Below w.heap.size w wx→Calls Tryz.prog 61 #[.int .i64 (k:Nat),.pointer (some ⟨b1,0,none⟩),.pointer (some ⟨b2,0,none⟩)] wx fun e w'=>e=.returned (.bool (p k))∧Below wx.heap.size wx w'
set_option maxHeartbeats 2000000 in
theorem aGt (B b1 b2:Nat) (p:Nat→Bool) (a:Option Addr) (cap:Nat) (ks:List Nat) (w:World) (h:dD B w (.slice a ks.length cap) ks) (hl:ks.length≤1000000) (hs:aGs w b1 b2 p ks) :
  Calls Tryz.prog 93 #[.slice a ks.length cap,.func (.func 61) #[] #[.pointer (some ⟨b1,0,none⟩),.pointer (some ⟨b2,0,none⟩)]] w fun e w'=>e=.returned (.int .i64 (mV p ks))∧Below w.heap.size w w':=by
 have HS:=aA hs
 have HH:=aA h
 clear hs h
 go_enter Tryz.func93,Tryz.ntmps93
 go_wp2
 go_loopw [8] (fun i wr=>∃k:Nat,k≤ks.length∧i=.int .i64 k∧(∀j (hj:j < ks.length),j < k→p ks[j]=false)∧Below w.heap.size w wr) (fun i _=>ks.length - (intOf i).toNat)
 case atStart=>exact ⟨0,Nat.zero_le _,rfl,fun j _ h=>by omega,Below.refl _ _⟩
 case round=>
  obtain ⟨k,hk,rfl,hm,hb⟩:=hrel
  have HM:=aA hm
  have HB:=aA hb
  clear hm
  by_cases hlt:k < ks.length
  ·obtain ⟨g,rfl,hc⟩:=HH.out.cell hlt
   have hc2:=Below.at' hb (Nat.le_refl _) hc
   have hki:(k:Int) < (ks.length:Int):=by omega
   obtain ⟨x,hx⟩ : ∃x,ks[k]=x:=⟨_,rfl⟩
   rw [hx] at hc hc2
   have CP:=aA (HS.out x (by rw [←hx];exact List.getElem_mem hlt) wr hb)
   have HX:=aA hx
   have hbs:=hb.size
   clear hc hx hb
   cases hp:p x
   ·rw [hp] at CP
    have HP:=aA hp
    clear hp
    go_wp2_with (first
     | (go_at_call 61;refine (aB CP).mono ?_;rintro e w1 ⟨rfl,hb1⟩;have HB1:=aA (HB.out.trans (hb1.mono hbs));clear hb1)
     | go_in)
    go_roundw
    case rel=>exact ⟨k+1,by omega,by go_num,fun j hj hjk=>by
     rcases (show j < k∨j=k by omega) with h | rfl
     ·exact HM.out j hj h
     ·rw [HX.out];exact HP.out,HB1.out⟩
    case measure=>simp [intOf];omega
   ·rw [hp] at CP
    have HP:=aA hp
    clear hp
    go_wp2_with (first
     | (go_at_call 61;refine (aB CP).mono ?_;rintro e w1 ⟨rfl,hb1⟩;have HB1:=aA (HB.out.trans (hb1.mono hbs));clear hb1)
     | go_in)
    go_ret
    have hf:=aGq hlt (by rw [HX.out];exact HP.out) (fun j hj=>HM.out j (by omega) hj)
    exact ⟨by rw [hf];rfl,HB1.out⟩
  ·have hke:k=ks.length:=by omega
   clear hb
   go_wp2
   go_ret
   have hf:=aBb (fun j hj=>HM.out j hj (by omega))
   exact ⟨by rw [hf];rfl,HB.out⟩
theorem dD.set {B:Nat} {w:World} {g n cap:Nat} {ks:List Nat} (h:dD B w (.slice (some ⟨g,0,none⟩) n cap) ks) (hn:n=ks.length) (i x:Nat):dD B (w.setCell ⟨g,i,none⟩ (.int .i64 (x:Nat))) (.slice (some ⟨g,0,none⟩) n cap) (ks.set i x)∧w.grownBy (w.setCell ⟨g,i,none⟩ (.int .i64 (x:Nat))) (some g):=by
 subst hn
 have:=pJ (w:=w) h i (.int .i64 (x:Nat))
 refine ⟨?_,bZ w ⟨g,i,none⟩ _⟩
 unfold dD
 rw [List.length_set,List.map_set]
 exact this
theorem dD.take {B:Nat} {w:World} {g n cap:Nat} {ks:List Nat} (h:dD B w (.slice (some ⟨g,0,none⟩) n cap) ks) {m:Nat} (hm:m≤ks.length):dD B w (.slice (some ⟨g,0,none⟩) m cap) (ks.take m):=by
 obtain ⟨h1,⟨e,_⟩ | ⟨g',cap',cur,e,hb,hh,hc,hml,hz,ht⟩⟩:=h
 ·cases e
 ·simp at e
  obtain ⟨rfl,_,rfl⟩:=e
  have hl:(ks.take m).length=m:=by simp;omega
  unfold dD
  rw [hl]
  refine ⟨by simp;omega,Or.inr ⟨g,cap,cur,rfl,hb,hh,by omega,hml,hz,?_⟩⟩
  rw [List.map_take,←ht,List.take_take]
  congr 1
  omega
theorem dD.cleared {B:Nat} {g n cap:Nat}:∀(m o:Nat) (w:World) (ks:List Nat),dD B w (.slice (some ⟨g,0,none⟩) n cap) ks→n=ks.length→
  ∃ks',dD B (w.setCells g o (List.replicate m (.int .i64 0))) (.slice (some ⟨g,0,none⟩) n cap) ks'∧ks'.length=ks.length∧ks'.take o=ks.take o∧w.grownBy (w.setCells g o (List.replicate m (.int .i64 0))) (some g)
 | 0,o,w,ks,h,_=>⟨ks,h,rfl,rfl,⟨rfl,rfl,rfl,Nat.le_refl _,fun _ _ _=>rfl⟩⟩
 | m+1,o,w,ks,h,hn=>by
  obtain ⟨h1,h2⟩:=h.set hn o 0
  obtain ⟨ks',k1,k2,k3,k4⟩:=dD.cleared m (o+1) _ _ h1 (by rw [List.length_set];exact hn)
  refine ⟨ks',k1,by rw [k2,List.length_set],?_,jM h2 k4⟩
  have:=congrArg (List.take o) k3
  rw [List.take_take,List.take_take,Nat.min_eq_left (Nat.le_succ o),List.take_set_of_le (Nat.le_refl _)] at this
  exact this
def aSb (w:World) (g b1 b2:Nat) (p:Nat→Bool) (ks:List Nat):Prop:=∀k∈ks,∀wx,w.grownBy wx (some g)→Calls Tryz.prog 61 #[.int .i64 (k:Nat),.pointer (some ⟨b1,0,none⟩),.pointer (some ⟨b2,0,none⟩)] wx fun e w'=>e=.returned (.bool (p k))∧Below wx.heap.size wx w'
theorem aGu {p:Nat→Bool} {ks:List Nat} {j:Nat} (hj:j < ks.length):(ks.take (j+1)).filter (fun k=>!p k)=(ks.take j).filter (fun k=>!p k)++if p ks[j] then [] else [ks[j]]:=by
 rw [List.take_succ_eq_append_getElem hj,List.filter_append]
 cases h:p ks[j] <;> simp [h]
set_option maxHeartbeats 4000000 in
theorem aSc (B b1 b2:Nat) (p:Nat→Bool) (a:Option Addr) (cap:Nat) (ks:List Nat) (w:World) (h:dD B w (.slice a ks.length cap) ks) (hl:ks.length≤1000000) (hs:aGs w b1 b2 p ks) (hno:ks.any p=false) :
  Calls Tryz.prog 60 #[.slice a ks.length cap,.func (.func 61) #[] #[.pointer (some ⟨b1,0,none⟩),.pointer (some ⟨b2,0,none⟩)]] w fun e w'=>e=.returned (.slice a ks.length cap)∧Below w.heap.size w w':=by
 have CI:=aA (aGt B b1 b2 p a cap ks w h hl hs)
 have hf:mV p ks=-1:=aBb (fun j hj=>by
  rw [Bool.eq_false_iff]
  intro hp
  rw [List.any_eq_true.2 ⟨_,List.getElem_mem hj,hp⟩] at hno
  cases hno)
 rw [hf] at CI
 clear h hs hno hf
 go_enter Tryz.func60,Tryz.ntmps60
 go_wp2_with (first
  | (go_at_call 93;refine (aB CI).mono ?_;rintro e w1 ⟨rfl,hb⟩;have HB:=aA hb;clear hb)
  | go_in)
 go_ret
 exact ⟨rfl,HB.out⟩
set_option maxHeartbeats 8000000 in
theorem aSd (B b1 b2:Nat) (p:Nat→Bool) (g cap:Nat) (ks:List Nat) (w:World) (h:dD B w (.slice (some ⟨g,0,none⟩) ks.length cap) ks) (hl:ks.length≤1000000) (hs:aSb w g b1 b2 p ks) (hyes:ks.any p=true) :
  Calls Tryz.prog 60 #[.slice (some ⟨g,0,none⟩) ks.length cap,.func (.func 61) #[] #[.pointer (some ⟨b1,0,none⟩),.pointer (some ⟨b2,0,none⟩)]] w fun e w'=>e=.returned (.slice (some ⟨g,0,none⟩) (ks.filter fun k=>!p k).length cap)∧dD B w' (.slice (some ⟨g,0,none⟩) (ks.filter fun k=>!p k).length cap) (ks.filter fun k=>!p k)∧w.grownBy w' (some g):=by
 have CI:=aA (aGt B b1 b2 p _ cap ks w h hl (fun k hk wx hwx=>hs k hk wx (fH hwx)))
 have hlt:ks.findIdx p < ks.length:=List.findIdx_lt_length.2 (List.any_eq_true.1 hyes)
 obtain ⟨m,hm⟩ : ∃m,ks.findIdx p=m:=⟨_,rfl⟩
 have hf:mV p ks=(m:Nat):=by unfold mV;rw [if_pos hlt,hm]
 rw [hm] at hlt
 have hpm:p ks[m]=true:=by have:=List.findIdx_getElem (xs:=ks) (p:=p) (w:=by omega);simpa [hm] using this
 have hbef:(ks.take m).filter (fun k=>!p k)=ks.take m:=by
  rw [List.filter_eq_self]
  intro x hx
  obtain ⟨j,hj,rfl⟩:=List.getElem_of_mem hx
  have hjm:j < m:=by simp at hj;omega
  have:=List.not_of_lt_findIdx (xs:=ks) (p:=p) (i:=j) (by omega)
  rw [List.getElem_take]
  simpa using this
 have hst:(ks.take (m+1)).filter (fun k=>!p k)=ks.take m:=by rw [aGu hlt,hbef,if_pos hpm,List.append_nil]
 rw [hf] at CI
 have hcap:ks.length≤cap:=by
  obtain ⟨_,⟨e,_⟩ | ⟨g',cap',cur,e,_,_,hc,_⟩⟩:=h
  ·cases e
  ·simp at e
   omega
 have HST:=aA hst
 have HH:=aA h
 have HS:=aA hs
 have hneg:((m:Int) == -1)=false:=by rw [beq_eq_false_iff_ne];omega
 clear h hs hyes hf hm hpm hbef hst
 go_enter Tryz.func60,Tryz.ntmps60
 go_wp2_with (first
  | (go_at_call 93;refine (aB CI).mono ?_;rintro e w1 ⟨rfl,hb⟩;have HB:=aA hb;clear hb)
  | go_in)
 have hmi:(m:Int) < (ks.length:Int):=by omega
 go_loopw [5,6] (fun pi pj wr=>∃(i j:Nat) (R:List Nat),pi=.int .i64 i∧pj=.int .i64 j∧j≤ks.length∧i < j∧R.length=ks.length∧dD B wr (.slice (some ⟨g,0,none⟩) ks.length cap) R∧R.take i=(ks.take j).filter (fun k=>!p k)∧(∀t,j≤t→R[t]?=ks[t]?)∧w.grownBy wr (some g)) (fun _ pj _=>ks.length - (intOf pj).toNat)
 case atStart=>exact ⟨m,m+1,ks,rfl,by simp,by omega,by omega,rfl,aY HH.out HB.out (Nat.le_refl _),HST.out.symm,fun _ _=>rfl,fH HB.out⟩
 case round=>
  obtain ⟨i,j,R,rfl,rfl,hj,hij,hR,hO,ht,hrest,hg⟩:=hrel
  by_cases hlt2:j < ks.length
  ·obtain ⟨x,hx⟩ : ∃x,ks[j]=x:=⟨_,rfl⟩
   have hRj:R[j]'(by omega)=x:=by
    have:=hrest j (Nat.le_refl _)
    rw [List.getElem?_eq_getElem (by omega),List.getElem?_eq_getElem hlt2,hx] at this
    exact Option.some.inj this
   obtain ⟨g',e,hc⟩:=hO.cell (i:=j) (by omega)
   cases e
   rw [hRj] at hc
   obtain ⟨zi,hci⟩ : ∃zi:Nat,wr.cell? ⟨g,i,none⟩=some (.int .i64 (zi:Nat)):=by
    obtain ⟨g',e,hci⟩:=hO.cell (i:=i) (by omega)
    cases e
    exact ⟨_,hci⟩
   have CP:=aA (HS.out x (by rw [←hx];exact List.getElem_mem hlt2) wr hg)
   have hstep:=aGu (p:=p) hlt2
   rw [hx] at hstep
   have hji:(j:Int) < (ks.length:Int):=by omega
   have hii:(i:Int) < (ks.length:Int):=by omega
   have HO:=aA hO
   have HT:=aA ht
   have HR:=aA hrest
   have HG:=aA hg
   have HSP:=aA hstep
   have HRL:=aA hR
   have hfz:∀wx,wr.grownBy wx none→wx.frozen? ⟨g,i,none⟩=false:=fun wx hwx=>by
    obtain ⟨_,⟨e,_⟩ | ⟨g',cap',cur,e,_,hh,_⟩⟩:=hO
    ·cases e
    ·simp at e
     obtain ⟨rfl,_⟩:=e
     have:=hwx.block g (Array.getElem?_eq_some_iff.1 hh).1 (by simp)
     simp [World.frozen?,this,hh]
   have HFZ:=aA hfz
   clear hO ht hrest hg hstep hRj hx hR hfz
   cases hp:p x
   ·rw [hp] at CP
    have HP:=aA hp
    clear hp
    go_wp2_with (first
     | (go_at_call 61;refine (aB CP).mono ?_;rintro e w2 ⟨rfl,hb2⟩;have c2:=Below.at' hb2 (Nat.le_refl _) hci;have f2:=HFZ.out w2 (fH hb2);have HB2:=aA hb2;clear hb2)
     | go_in)
    go_roundw
    case rel=>
     have hO2:dD B w2 (.slice (some ⟨g,0,none⟩) ks.length cap) R:=aY HO.out HB2.out (Nat.le_refl _)
     obtain ⟨hO3,hg3⟩:=hO2.set HRL.out.symm i x
     have hRl:=HRL.out
     refine ⟨i+1,j+1,R.set i x,by go_num,by go_num,by omega,by omega,by rw [List.length_set];exact hRl,hO3,?_,fun t ht=>?_,jM HG.out (jM (fH HB2.out) hg3)⟩
     ·rw [HSP.out,HP.out,←HT.out,List.take_succ_eq_append_getElem (by simp;omega),List.take_set_of_le (Nat.le_refl _)]
      simp
     ·rw [List.getElem?_set_ne (by omega)]
      exact HR.out t (by omega)
    case measure=>simp [intOf];omega
   ·rw [hp] at CP
    have HP:=aA hp
    clear hp
    go_wp2_with (first
     | (go_at_call 61;refine (aB CP).mono ?_;rintro e w2 ⟨rfl,hb2⟩;have HB2:=aA hb2;clear hb2)
     | go_in)
    go_roundw
    case rel=>
     refine ⟨i,j+1,R,rfl,by go_num,by omega,by omega,HRL.out,aY HO.out HB2.out (Nat.le_refl _),?_,fun t ht=>HR.out t (by omega),jM HG.out (fH HB2.out)⟩
     rw [HSP.out,HP.out,←HT.out]
     simp
    case measure=>simp [intOf];omega
  ·have hje:j=ks.length:=by omega
   rw [hje,List.take_length] at ht
   have hli:(ks.filter fun k=>!p k).length=i:=by rw [←ht,List.length_take];omega
   have hcl:∀ty,(Builtin.clear_ #[31] ty #[.slice (some ⟨g,i,none⟩) (ks.length - i) (cap - i)]).run Tryz.prog wr=.ok (.tuple #[]) (wr.setCells g i (List.replicate (ks.length - i) (.int .i64 0))):=fun ty=>
    Lib.run_clear_slice wr _ 3 ty (.int .i64 0) Tryz.underlying31 (fun w=>by obtain ⟨iI,hI,hI0,hI1,hI2⟩:=info_parts qY;simp [zeroValue,typeInfo,hI,hI0]) rfl rfl g i _ _ (by omega) (fun t ht=>by
     obtain ⟨g',e,hc⟩:=hO.cell (i:=i+t) (by omega)
     cases e
     rw [hc];rfl) (fun t ht=>by
     obtain ⟨_,⟨e,_⟩ | ⟨g',cap',cur,e,_,hh,_⟩⟩:=hO
     ·cases e
     ·simp at e
      obtain ⟨rfl,_⟩:=e
      simp [World.frozen?,hh])
   obtain ⟨R',o1,o2,o3,o4⟩:=dD.cleared (ks.length - i) i wr R hO hR.symm
   have hfin:dD B (wr.setCells g i (List.replicate (ks.length - i) (.int .i64 0))) (.slice (some ⟨g,0,none⟩) i cap) (ks.filter fun k=>!p k):=by
    have:=o1.take (m:=i) (by omega)
    rw [o3,ht] at this
    exact this
   have HFI:=aA hfin
   have HG:=aA (jM hg o4)
   have HLI:=aA hli
   have hji:¬(j:Int) < (ks.length:Int):=by omega
   have hil:(i:Int)≤(ks.length:Int):=by omega
   have hic:(i:Int)≤(cap:Int):=by omega
   have hkc:(ks.length:Int)≤(cap:Int):=by omega
   clear hO ht hrest hg o1 o2 o3 o4 hfin hR hli
   go_wp2
   go_ret
   rw [HLI.out]
   exact ⟨rfl,HFI.out,HG.out⟩
end Go.Proofs.YthicbnejchpmgaaGreatDoor
