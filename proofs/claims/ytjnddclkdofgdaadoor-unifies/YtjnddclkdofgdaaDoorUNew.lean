/- The program: terms are made room for. -/
import Derived.Test.YtjnddclkdofgdaaDoorUAdd0M
namespace Go.Proofs.YtjnddclkdofgdaaDoor
open Go.RowKit Go.Shelf Go.WideMaps
set_option maxRecDepth 100000

theorem ownsMap_new {w : World} {mp : Nat} (h : w.heap[mp]? = some (.map #[] 0)) : w.ownsMap Tryd.prog 141 numElem mp 0 (.map []) := by
  have hl := (Array.getElem?_eq_some_iff.1 h).1
  have hm : (World.alloc { w with heap := w.heap.extract 0 mp } (.map #[] 0)).ownsMap Tryd.prog 141 numElem ({ w with heap := w.heap.extract 0 mp } : World).heap.size 0 (.map []) := World.ownsMap_made _ _ _ _
  have hsz : ({ w with heap := w.heap.extract 0 mp } : World).heap.size = mp := by simp; omega
  rw [hsz] at hm
  refine ownsMap_at hm ?_
  rw [h]
  have := heap_alloc_new ({ w with heap := w.heap.extract 0 mp } : World) (.map #[] 0)
  rw [hsz] at this
  exact this.symm
theorem own_made {W : World} {B k n size : Nat} {c : Array Value} {e : TypeId} (hB : B ≤ k) (h : W.heap[k]? = some (.cells c e)) (hc : c.size = n * size) (hn : n ≤ 1000000) : W.ownsRow B e size (.slice (some ⟨k, 0, none⟩) 0 n) 0 [] :=
  ⟨by simp, Or.inr ⟨k, n, c, rfl, hB, h, Nat.zero_le _, by unfold maxLen; omega, hc, by simp⟩⟩
/-- What New answers. -/
structure NewR (w : World) (tb mp : Nat) (vn ve vl vs : Value) (w' : World) : Prop where
  tm : TmRaw w' w.heap.size tb vn ve vl vs (.map (some mp)) [] [] [] []
  first : FirstIn w' mp []
  low : Below w.heap.size w w'
  ne : mp ≠ tb
  mlow : w.heap.size ≤ mp
theorem new_leaf {w W : World} {n k1 k2 k3 k4 km tb : Nat} {c1 c2 : Array Value} (hn : n ≤ 1000000) (hs1 : c1.size = n * 2) (hs2 : c2.size = n * 1) (hb : Below w.heap.size w W) (h1 : W.heap[k1]? = some (.cells c1 27)) (h2 : W.heap[k2]? = some (.cells c2 3)) (h3 : W.heap[k3]? = some (.cells c2 3)) (h4 : W.heap[k4]? = some (.cells c2 3)) (hm : W.heap[km]? = some (.map #[] 0))
    (ht : W.heap[tb]? = some (.cells #[.slice (some ⟨k1, 0, none⟩) 0 n, .slice (some ⟨k2, 0, none⟩) 0 n, .slice (some ⟨k3, 0, none⟩) 0 n, .slice (some ⟨k4, 0, none⟩) 0 n, .map (some km)] 123))
    (l1 : w.heap.size ≤ k1 ∧ w.heap.size ≤ k2 ∧ w.heap.size ≤ k3 ∧ w.heap.size ≤ k4 ∧ w.heap.size ≤ km ∧ w.heap.size ≤ tb) (l2 : k2 ≠ k3 ∧ k2 ≠ k4 ∧ k3 ≠ k4 ∧ km ≠ tb) :
    NewR w tb km (.slice (some ⟨k1, 0, none⟩) 0 n) (.slice (some ⟨k2, 0, none⟩) 0 n) (.slice (some ⟨k3, 0, none⟩) 0 n) (.slice (some ⟨k4, 0, none⟩) 0 n) W := by
  obtain ⟨a1, a2, a3, a4, a5, a6⟩ := l1
  obtain ⟨b1, b2, b3, b4⟩ := l2
  refine ⟨⟨ht, a6, own_made a1 h1 hs1 hn, own_made a2 h2 hs2 hn, own_made a3 h3 hs2 hn, own_made a4 h4 hs2 hn, ?_, ?_, ?_, ?_, ?_, ?_⟩, ⟨0, .map [], ownsMap_new hm, FirstIs.start, Nat.le_refl _⟩, hb, b4, a5⟩
  all_goals simp [Value.ownBlock]
  all_goals assumption

theorem built_terms (n k1 k2 k3 k4 k5 : Nat) : Tryd.prog.built 123 [(0, .slice (some ⟨k1, 0, none⟩) 0 n), (1, .slice (some ⟨k2, 0, none⟩) 0 n), (2, .slice (some ⟨k3, 0, none⟩) 0 n), (3, .slice (some ⟨k4, 0, none⟩) 0 n), (4, .map (some k5))] = some #[.slice (some ⟨k1, 0, none⟩) 0 n, .slice (some ⟨k2, 0, none⟩) 0 n, .slice (some ⟨k3, 0, none⟩) 0 n, .slice (some ⟨k4, 0, none⟩) 0 n, .map (some k5)] := by kernel_rfl
/-- Which of the five lists are made: their blocks. -/
abbrev Ob := Option Nat
def vS (n : Nat) : Ob → Value
  | some k => .slice (some ⟨k, 0, none⟩) 0 n
  | none => undef
def vM : Ob → Value
  | some k => .map (some k)
  | none => undef
def nListed (o1 o2 o3 o4 o5 : Ob) : Array Bool := #[true, o1.isSome, true, o2.isSome, true, o3.isSome, true, o4.isSome, o5.isSome, false, false, false]
def nAct (n : Nat) (o1 o2 o3 o4 o5 : Ob) : Act := { tmps := #[.int .i64 n, undef, .pointer none, .int .i64 n, vS n o1, .int .i64 n, vS n o2, .int .i64 n, vS n o3, .int .i64 n, vS n o4, vM o5, undef, undef], defers := [] }
def nReadyB (b1 b2 b3 b4 b5 : Bool) : List Nat := (if b1 then [] else [1]) ++ (if b2 then [] else [3]) ++ (if b3 then [] else [5]) ++ (if b4 then [] else [7]) ++ (if b5 then [] else [8])
def nReady (o1 o2 o3 o4 o5 : Ob) : List Nat := nReadyB o1.isSome o2.isSome o3.isSome o4.isSome o5.isSome
structure NInv (w : World) (c1 c2 : Array Value) (o1 o2 o3 o4 o5 : Ob) (W : World) : Prop where
  low : Below w.heap.size w W
  h1 : ∀ k, o1 = some k → w.heap.size ≤ k ∧ W.heap[k]? = some (.cells c1 27)
  h2 : ∀ k, o2 = some k → w.heap.size ≤ k ∧ W.heap[k]? = some (.cells c2 3)
  h3 : ∀ k, o3 = some k → w.heap.size ≤ k ∧ W.heap[k]? = some (.cells c2 3)
  h4 : ∀ k, o4 = some k → w.heap.size ≤ k ∧ W.heap[k]? = some (.cells c2 3)
  h5 : ∀ k, o5 = some k → w.heap.size ≤ k ∧ W.heap[k]? = some (.map #[] 0)
  n23 : ∀ k, o2 = some k → o3 ≠ some k
  n24 : ∀ k, o2 = some k → o4 ≠ some k
  n34 : ∀ k, o3 = some k → o4 ≠ some k
section
variable {w W : World} {c1 c2 : Array Value} {o1 o2 o3 o4 o5 : Ob}
theorem NInv.start (h : Below w.heap.size w W) : NInv w c1 c2 none none none none none W := ⟨h, (fun _ e => nomatch e), (fun _ e => nomatch e), (fun _ e => nomatch e), (fun _ e => nomatch e), (fun _ e => nomatch e), (fun _ e => nomatch e), (fun _ e => nomatch e), (fun _ e => nomatch e)⟩
theorem NInv.lt (h : NInv w c1 c2 o1 o2 o3 o4 o5 W) : (o1 ≠ some W.heap.size ∧ o2 ≠ some W.heap.size) ∧ o3 ≠ some W.heap.size ∧ o4 ≠ some W.heap.size ∧ o5 ≠ some W.heap.size := by
  refine ⟨⟨fun e => ?_, fun e => ?_⟩, fun e => ?_, fun e => ?_, fun e => ?_⟩
  · have := (Array.getElem?_eq_some_iff.1 (h.h1 _ e).2).1; omega
  · have := (Array.getElem?_eq_some_iff.1 (h.h2 _ e).2).1; omega
  · have := (Array.getElem?_eq_some_iff.1 (h.h3 _ e).2).1; omega
  · have := (Array.getElem?_eq_some_iff.1 (h.h4 _ e).2).1; omega
  · have := (Array.getElem?_eq_some_iff.1 (h.h5 _ e).2).1; omega
theorem heap_old {x y : Obj} {k : Nat} (h : W.heap[k]? = some x) : (W.alloc y).heap[k]? = some x := by
  rw [heap_alloc_old W y (Array.getElem?_eq_some_iff.1 h).1, h]
theorem NInv.alloc (h : NInv w c1 c2 o1 o2 o3 o4 o5 W) (x : Obj) : NInv w c1 c2 o1 o2 o3 o4 o5 (W.alloc x) :=
  ⟨h.low.alloc h.low.size x, fun k e => ⟨(h.h1 k e).1, heap_old (h.h1 k e).2⟩, fun k e => ⟨(h.h2 k e).1, heap_old (h.h2 k e).2⟩, fun k e => ⟨(h.h3 k e).1, heap_old (h.h3 k e).2⟩, fun k e => ⟨(h.h4 k e).1, heap_old (h.h4 k e).2⟩, fun k e => ⟨(h.h5 k e).1, heap_old (h.h5 k e).2⟩, h.n23, h.n24, h.n34⟩
theorem NInv.s1 (h : NInv w c1 c2 o1 o2 o3 o4 o5 W) : NInv w c1 c2 (some W.heap.size) o2 o3 o4 o5 (W.alloc (.cells c1 27)) := by
  have k := h.alloc (.cells c1 27)
  exact ⟨k.low, fun j e => by simp at e; subst e; exact ⟨h.low.size, heap_alloc_new _ _⟩, k.h2, k.h3, k.h4, k.h5, k.n23, k.n24, k.n34⟩
theorem NInv.s2 (h : NInv w c1 c2 o1 o2 o3 o4 o5 W) : NInv w c1 c2 o1 (some W.heap.size) o3 o4 o5 (W.alloc (.cells c2 3)) := by
  have k := h.alloc (.cells c2 3)
  exact ⟨k.low, k.h1, fun j e => by simp at e; subst e; exact ⟨h.low.size, heap_alloc_new _ _⟩, k.h3, k.h4, k.h5, fun j e => by simp at e; subst e; exact h.lt.2.1, fun j e => by simp at e; subst e; exact h.lt.2.2.1, k.n34⟩
theorem NInv.s3 (h : NInv w c1 c2 o1 o2 o3 o4 o5 W) : NInv w c1 c2 o1 o2 (some W.heap.size) o4 o5 (W.alloc (.cells c2 3)) := by
  have k := h.alloc (.cells c2 3)
  exact ⟨k.low, k.h1, k.h2, fun j e => by simp at e; subst e; exact ⟨h.low.size, heap_alloc_new _ _⟩, k.h4, k.h5, fun j e e' => by simp at e'; subst e'; exact h.lt.1.2 e, k.n24, fun j e => by simp at e; subst e; exact h.lt.2.2.1⟩
theorem NInv.s4 (h : NInv w c1 c2 o1 o2 o3 o4 o5 W) : NInv w c1 c2 o1 o2 o3 (some W.heap.size) o5 (W.alloc (.cells c2 3)) := by
  have k := h.alloc (.cells c2 3)
  exact ⟨k.low, k.h1, k.h2, k.h3, fun j e => by simp at e; subst e; exact ⟨h.low.size, heap_alloc_new _ _⟩, k.h5, k.n23, fun j e e' => by simp at e'; subst e'; exact h.lt.1.2 e, fun j e e' => by simp at e'; subst e'; exact h.lt.2.1 e⟩
theorem NInv.s5 (h : NInv w c1 c2 o1 o2 o3 o4 o5 W) : NInv w c1 c2 o1 o2 o3 o4 (some W.heap.size) (W.alloc (.map #[] 0)) := by
  have k := h.alloc (.map #[] 0)
  exact ⟨k.low, k.h1, k.h2, k.h3, k.h4, fun j e => by simp at e; subst e; exact ⟨h.low.size, heap_alloc_new _ _⟩, k.n23, k.n24, k.n34⟩
end
/-- One operation that yields a value and a world. -/
theorem wpOp_run {ops : Array Oper} {i : Nat} {o : Oper} {a : Act} {w w' : World} {v : Value} {K : Act → World → Prop} {Q : Exit → Act → World → Prop} (hi : ops[i]? = some o) (hg : o.guard = none) (hr : (execOp a.eval o).run Tryd.prog w = .ok (.value v) w') (h : K (a.put o.dst v) w') : wpOp Tryd.prog ops Q i K a w := by
  refine wpOp_step hi fun K' hK => ?_
  rw [if_pos (by simp [Region.wanted, hg])]
  unfold Oper.wp
  rw [hr]
  exact hK _ _ h
def nLeft (o1 o2 o3 o4 o5 : Ob) : Nat := (nReady o1 o2 o3 o4 o5).length
/-- The five lists are made in whatever order. -/
theorem new_any {n : Nat} {c1 c2 : Array Value} {w : World} {ops : Array Oper} {Q : Exit → Act → World → Prop} {q1 q2 q3 q4 q5 : Oper}
    (e1 : ops[1]? = some q1) (e2 : ops[3]? = some q2) (e3 : ops[5]? = some q3) (e4 : ops[7]? = some q4) (e5 : ops[8]? = some q5)
    (g : q1.guard = none ∧ q2.guard = none ∧ q3.guard = none ∧ q4.guard = none ∧ q5.guard = none) (d : q1.dst = some 4 ∧ q2.dst = some 6 ∧ q3.dst = some 8 ∧ q4.dst = some 10 ∧ q5.dst = some 11)
    (r1 : ∀ (o1 o2 o3 o4 o5 : Ob) (W : World), (execOp (nAct n o1 o2 o3 o4 o5).eval q1).run Tryd.prog W = .ok (.value (.slice (some ⟨W.heap.size, 0, none⟩) 0 n)) (W.alloc (.cells c1 27)))
    (r2 : ∀ (o1 o2 o3 o4 o5 : Ob) (W : World), (execOp (nAct n o1 o2 o3 o4 o5).eval q2).run Tryd.prog W = .ok (.value (.slice (some ⟨W.heap.size, 0, none⟩) 0 n)) (W.alloc (.cells c2 3)))
    (r3 : ∀ (o1 o2 o3 o4 o5 : Ob) (W : World), (execOp (nAct n o1 o2 o3 o4 o5).eval q3).run Tryd.prog W = .ok (.value (.slice (some ⟨W.heap.size, 0, none⟩) 0 n)) (W.alloc (.cells c2 3)))
    (r4 : ∀ (o1 o2 o3 o4 o5 : Ob) (W : World), (execOp (nAct n o1 o2 o3 o4 o5).eval q4).run Tryd.prog W = .ok (.value (.slice (some ⟨W.heap.size, 0, none⟩) 0 n)) (W.alloc (.cells c2 3)))
    (r5 : ∀ (o1 o2 o3 o4 o5 : Ob) (W : World), (execOp (nAct n o1 o2 o3 o4 o5).eval q5).run Tryd.prog W = .ok (.value (.map (some W.heap.size))) (W.alloc (.map #[] 0)))
    (hr : ∀ (b1 b2 b3 b4 b5 : Bool), (b1 && b2 && b3 && b4 && b5) = false → Region.ready .any ops #[true, b1, true, b2, true, b3, true, b4, b5, false, false, false] = nReadyB b1 b2 b3 b4 b5)
    (hend : ∀ (k1 k2 k3 k4 k5 : Nat) (W : World), NInv w c1 c2 (some k1) (some k2) (some k3) (some k4) (some k5) W → wpAny Tryd.prog .any ops Q 3 (nListed (some k1) (some k2) (some k3) (some k4) (some k5)) (nAct n (some k1) (some k2) (some k3) (some k4) (some k5)) W) :
    ∀ (m : Nat) (o1 o2 o3 o4 o5 : Ob) (W : World), nLeft o1 o2 o3 o4 o5 = m → NInv w c1 c2 o1 o2 o3 o4 o5 W → wpAny Tryd.prog .any ops Q (m + 3) (nListed o1 o2 o3 o4 o5) (nAct n o1 o2 o3 o4 o5) W := by
  obtain ⟨g1, g2, g3, g4, g5⟩ := g
  obtain ⟨d1, d2, d3, d4, d5⟩ := d
  intro m
  induction m with
  | zero =>
    intro o1 o2 o3 o4 o5 W hm hI
    have h0 := List.eq_nil_of_length_eq_zero hm
    cases o1 <;> cases o2 <;> cases o3 <;> cases o4 <;> cases o5 <;> first | (simp [nReady, nReadyB] at h0; done) | exact hend _ _ _ _ _ _ hI
  | succ m ih =>
    intro o1 o2 o3 o4 o5 W hm hI
    have hne : nReady o1 o2 o3 o4 o5 ≠ [] := fun e => by unfold nLeft at hm; rw [e] at hm; simp at hm
    rw [show m + 1 + 3 = (m + 3) + 1 by omega]
    refine wpAny_all (rs := nReady o1 o2 o3 o4 o5) (hr _ _ _ _ _ (by cases o1 <;> cases o2 <;> cases o3 <;> cases o4 <;> cases o5 <;> first | rfl | exact absurd rfl hne)) hne fun i hi => ?_
    have hi' : (i = 1 ∧ o1 = none) ∨ (i = 3 ∧ o2 = none) ∨ (i = 5 ∧ o3 = none) ∨ (i = 7 ∧ o4 = none) ∨ (i = 8 ∧ o5 = none) := by
      clear hr hend ih r1 r2 r3 r4 r5
      cases o1 <;> cases o2 <;> cases o3 <;> cases o4 <;> cases o5 <;> simp [nReady, nReadyB] at hi ⊢ <;> omega
    rcases hi' with ⟨rfl, rfl⟩ | ⟨rfl, rfl⟩ | ⟨rfl, rfl⟩ | ⟨rfl, rfl⟩ | ⟨rfl, rfl⟩
    · refine wpOp_run e1 g1 (r1 _ _ _ _ _ W) ?_
      rw [d1]
      exact ih (some W.heap.size) o2 o3 o4 o5 _ (by unfold nLeft nReady nReadyB at *; simp at *; omega) hI.s1
    · refine wpOp_run e2 g2 (r2 _ _ _ _ _ W) ?_
      rw [d2]
      exact ih o1 (some W.heap.size) o3 o4 o5 _ (by unfold nLeft nReady nReadyB at *; simp at *; omega) hI.s2
    · refine wpOp_run e3 g3 (r3 _ _ _ _ _ W) ?_
      rw [d3]
      exact ih o1 o2 (some W.heap.size) o4 o5 _ (by unfold nLeft nReady nReadyB at *; simp at *; omega) hI.s3
    · refine wpOp_run e4 g4 (r4 _ _ _ _ _ W) ?_
      rw [d4]
      exact ih o1 o2 o3 (some W.heap.size) o5 _ (by unfold nLeft nReady nReadyB at *; simp at *; omega) hI.s4
    · refine wpOp_run e5 g5 (r5 _ _ _ _ _ W) ?_
      rw [d5]
      exact ih o1 o2 o3 o4 (some W.heap.size) _ (by unfold nLeft nReady nReadyB at *; simp at *; omega) hI.s5

set_option maxHeartbeats 4000000 in
theorem uNew_any (n : Nat) (hn : n ≤ 1000000) (w : World) :
    Calls Tryd.prog 56 #[.int .i64 n] w fun e w' => ∃ tb mp vn ve vl vs, e = .returned (.pointer (some ⟨tb, 0, none⟩)) ∧ NewR w tb mp vn ve vl vs w' := by
  obtain ⟨iN, hN, hN0, hN1, hN2⟩ := info_parts infoNode
  obtain ⟨iI, hI, hI0, hI1, hI2⟩ := info_parts infoInt
  have hmm := @run_makeMap Tryd.prog
  obtain ⟨c1, hc1, hmk1⟩ : ∃ c1 : Array Value, c1.size = n * 2 ∧ ∀ w : World, (Instr.makeSlice 28 (.int .i64 0) (.int .i64 n)).run Tryd.prog w = .ok (.slice (some ⟨w.heap.size, 0, none⟩) 0 n) (w.alloc (.cells c1 27)) :=
    ⟨madeCells (Value.agg #[.string ⟨#[]⟩, .int .i64 0]).cells (n * iN.size), by rw [size_madeCells, hN1], fun w => by
      have := run_make (P := Tryd.prog) w 28 27 iN _ Tryd.underlying28 hN hN0 .i64 .i64 0 n (Int.le_refl _) (by omega) (by rw [hN2]; omega) (by omega)
      simpa using this⟩
  obtain ⟨c2, hc2, hmk2⟩ : ∃ c2 : Array Value, c2.size = n * 1 ∧ ∀ w : World, (Instr.makeSlice 34 (.int .i64 0) (.int .i64 n)).run Tryd.prog w = .ok (.slice (some ⟨w.heap.size, 0, none⟩) 0 n) (w.alloc (.cells c2 3)) :=
    ⟨madeCells (Value.int .i64 0).cells (n * iI.size), by rw [size_madeCells, hI1], fun w => by
      have := run_make (P := Tryd.prog) w 34 3 iI _ Tryd.underlying34 hI hI0 .i64 .i64 0 n (Int.le_refl _) (by omega) (by rw [hI2]; omega) (by omega)
      simpa using this⟩
  have HC1 := hide hc1
  have HC2 := hide hc2
  clear hN hN0 hN1 hN2 hI hI0 hI1 hI2 hc1 hc2
  go_enter Tryd.func56, Tryd.ntmps56
  go_upto_region 1 with (fail)
  refine wp_region_any (by kernel_rfl) ?_
  refine wpAny_take (i := 0) (v := .int .i64 n) rfl (by kernel_rfl) (by kernel_rfl) (by kernel_rfl) (fun _ _ _ h => h) (Or.inl ⟨by rfl, fun w => rfl⟩) ?_
  refine wpAny_take (i := 2) (v := .int .i64 n) rfl (by kernel_rfl) (by kernel_rfl) (by kernel_rfl) (fun _ _ _ h => h) (Or.inl ⟨by rfl, fun w => rfl⟩) ?_
  refine wpAny_take (i := 4) (v := .int .i64 n) rfl (by kernel_rfl) (by kernel_rfl) (by kernel_rfl) (fun _ _ _ h => h) (Or.inl ⟨by rfl, fun w => rfl⟩) ?_
  refine wpAny_take (i := 6) (v := .int .i64 n) rfl (by kernel_rfl) (by kernel_rfl) (by kernel_rfl) (fun _ _ _ h => h) (Or.inl ⟨by rfl, fun w => rfl⟩) ?_
  refine new_any (w := w) (c1 := c1) (c2 := c2) (n := n) rfl rfl rfl rfl rfl ⟨rfl, rfl, rfl, rfl, rfl⟩ ⟨rfl, rfl, rfl, rfl, rfl⟩ ?_ ?_ ?_ ?_ ?_ ?_ ?_ 5 none none none none none _ rfl ?_
  · intro o1 o2 o3 o4 o5 W; simp [execOp, nAct, Act.eval, hmk1]
  · intro o1 o2 o3 o4 o5 W; simp [execOp, nAct, Act.eval, hmk2]
  · intro o1 o2 o3 o4 o5 W; simp [execOp, nAct, Act.eval, hmk2]
  · intro o1 o2 o3 o4 o5 W; simp [execOp, nAct, Act.eval, hmk2]
  · intro o1 o2 o3 o4 o5 W; simp [execOp, nAct, hmm]
  · intro b1 b2 b3 b4 b5 h
    cases b1 <;> cases b2 <;> cases b3 <;> cases b4 <;> cases b5 <;> first | (cases h; done) | kernel_rfl
  · intro k1 k2 k3 k4 k5 W hI
    change wpAny Tryd.prog .any _ _ 3 #[true, true, true, true, true, true, true, true, true, false, false, false] { tmps := #[.int .i64 n, undef, .pointer none, .int .i64 n, .slice (some ⟨k1, 0, none⟩) 0 n, .int .i64 n, .slice (some ⟨k2, 0, none⟩) 0 n, .int .i64 n, .slice (some ⟨k3, 0, none⟩) 0 n, .int .i64 n, .slice (some ⟨k4, 0, none⟩) 0 n, .map (some k5), undef, undef], defers := [] } W
    refine wpAny_take (i := 9) (v := .agg #[.slice (some ⟨k1, 0, none⟩) 0 n, .slice (some ⟨k2, 0, none⟩) 0 n, .slice (some ⟨k3, 0, none⟩) 0 n, .slice (some ⟨k4, 0, none⟩) 0 n, .map (some k5)]) rfl (by kernel_rfl) (by kernel_rfl) (by kernel_rfl) (fun _ _ _ h => h) (Or.inl ⟨by rfl, fun w => by go_simp⟩) ?_
    refine wpAny_all (rs := [10]) (by kernel_rfl) (by simp) fun i hi => ?_
    obtain rfl : i = 10 := by simpa using hi
    refine wpOp_run (v := .pointer (some ⟨W.heap.size, 0, none⟩)) (w' := W.alloc (.cells #[.slice (some ⟨k1, 0, none⟩) 0 n, .slice (some ⟨k2, 0, none⟩) 0 n, .slice (some ⟨k3, 0, none⟩) 0 n, .slice (some ⟨k4, 0, none⟩) 0 n, .map (some k5)] 123)) rfl rfl (by rfl) ?_
    refine wpAny_take (i := 11) (v := .pointer (some ⟨W.heap.size, 0, none⟩)) rfl (by kernel_rfl) (by kernel_rfl) (by kernel_rfl) (fun _ _ _ h => h) (Or.inl ⟨by rfl, fun w => by rfl⟩) ?_
    refine wpAny_done (by kernel_rfl) ?_ _
    have hI' := hI.alloc (.cells #[.slice (some ⟨k1, 0, none⟩) 0 n, .slice (some ⟨k2, 0, none⟩) 0 n, .slice (some ⟨k3, 0, none⟩) 0 n, .slice (some ⟨k4, 0, none⟩) 0 n, .map (some k5)] 123)
    have HN := hide (new_leaf (tb := W.heap.size) hn HC1.out HC2.out hI'.low (hI'.h1 k1 rfl).2 (hI'.h2 k2 rfl).2 (hI'.h3 k3 rfl).2 (hI'.h4 k4 rfl).2 (hI'.h5 k5 rfl).2 (heap_alloc_new _ _) ⟨(hI.h1 k1 rfl).1, (hI.h2 k2 rfl).1, (hI.h3 k3 rfl).1, (hI.h4 k4 rfl).1, (hI.h5 k5 rfl).1, hI.low.size⟩ ⟨fun e => hI.n23 k2 rfl (by rw [e]), fun e => hI.n24 k2 rfl (by rw [e]), fun e => hI.n34 k3 rfl (by rw [e]), fun e => hI.lt.2.2.2 (by rw [e])⟩)
    clear hI hI'
    go_wp2
    go_ret
    exact ⟨_, _, _, _, _, _, rfl, HN.out⟩
  · exact NInv.start (below_drawn ⟨1, rfl⟩)

end Go.Proofs.YtjnddclkdofgdaaDoor
