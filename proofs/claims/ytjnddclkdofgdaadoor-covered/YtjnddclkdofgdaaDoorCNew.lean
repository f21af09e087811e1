/- The program: a matcher is made. -/
import Derived.Test.YtjnddclkdofgdaaDoorCGroup
import Derived.Laws.Tables
namespace Go.Proofs.YtjnddclkdofgdaaDoor
open Go.RowKit Go.Shelf
set_option maxRecDepth 100000

/-- The cells of a matcher that has bound nothing. -/
def mCells (dv : Value) : Array Value := #[dv] ++ Array.replicate 61 (.slice none 0 0)
def mZeros : Array Value := Array.replicate 62 (.slice none 0 0)
theorem mCells_size (dv : Value) : (mCells dv).size = 62 := by simp [mCells]
theorem mCells_zero (dv : Value) : (mCells dv)[0]? = some dv := by simp [mCells]
theorem mCells_at (dv : Value) (j : Nat) (h : j < 61) : (mCells dv)[1 + j]? = some (.slice none 0 0) := by
  unfold mCells
  rw [Array.getElem?_append_right (by simp)]
  simp [h]
theorem built_matcher (a : Option Addr) (n c : Nat) : Tryd.prog.built 112 [(0, .slice a n c)] = some (mCells (.slice a n c)) := by kernel_rfl
theorem zero_matcher : (Tryd.prog.info? 112).map (fun i => (i.zero, i.size)) = some (some (.agg mZeros), 62) := by kernel_rfl
theorem setRow_new (w : World) (cs cs' : Array Value) (t : TypeId) : (w.alloc (.cells cs t)).setRow w.heap.size cs' = w.alloc (.cells cs' t) := by
  unfold World.setRow World.alloc
  congr 1
  apply Array.ext
  · simp
  · intro i h1 h2
    simp only [Array.getElem_modify]
    by_cases hi : i < w.heap.size
    · rw [if_neg (by omega)]
      simp [Array.getElem_push_lt hi]
    · have hi' : i = w.heap.size := by simp at h2; omega
      subst hi'
      simp
theorem run_allocM (w : World) : (Instr.alloc 112 true (.tuple #[])).run Tryd.prog w = .ok (.pointer (some ⟨w.heap.size, 0, none⟩)) (w.alloc (.cells mZeros 112)) := by
  have h := zero_matcher
  cases hi : Tryd.prog.info? 112 with
  | none => rw [hi] at h; simp at h
  | some i =>
    rw [hi] at h
    simp at h
    have hc : (Value.agg mZeros).cells = mZeros := rfl
    simp [Instr.alloc, zeroValue, typeInfo, hi, h.1, newVar, newRow, hc]
theorem wpList_newM {ops : Array Oper} {rest : List Oper} {o1 o2 o3 o4 : Oper} {a : Act} {w : World} {Q : Exit → Act → World → Prop} (g1 : o1.guard = none) (g2 : o2.guard = none) (g3 : o3.guard = none) (g4 : o4.guard = none) (s0 s x y : Operand)
    (h1 : o1.op = .move s0) (h2 : o2.op = .build 112 #[(0, s)]) (h3 : o3.op = .alloc 112) (h4 : o4.op = .store 112 x y) (va : Option Addr) (n c : Nat) (hs0 : a.eval s0 = .slice va n c) (hs : (a.put o1.dst (.slice va n c)).eval s = .slice va n c)
    (hx : (((a.put o1.dst (.slice va n c)).put o2.dst (.agg (mCells (.slice va n c)))).put o3.dst (.pointer (some ⟨w.heap.size, 0, none⟩))).eval x = .pointer (some ⟨w.heap.size, 0, none⟩))
    (hy : (((a.put o1.dst (.slice va n c)).put o2.dst (.agg (mCells (.slice va n c)))).put o3.dst (.pointer (some ⟨w.heap.size, 0, none⟩))).eval y = .agg (mCells (.slice va n c)))
    (h : wpList Tryd.prog ops Q rest ((((a.put o1.dst (.slice va n c)).put o2.dst (.agg (mCells (.slice va n c)))).put o3.dst (.pointer (some ⟨w.heap.size, 0, none⟩))).put o4.dst undef) (w.alloc (.cells (mCells (.slice va n c)) 112))) :
    wpList Tryd.prog ops Q (o1 :: o2 :: o3 :: o4 :: rest) a w := by
  refine wpList_plain g1 fun K hK => ?_
  have e1 : o1.wp Tryd.prog a w K Q := by
    unfold Oper.wp execOp
    simp only [h1, hs0, Sem.run_pure]
    refine hK _ _ ?_
    have hb : Tryd.prog.built 112 ((#[(0, s)] : Array (Nat × Operand)).map fun (i, x) => (i, (a.put o1.dst (.slice va n c)).eval x)).toList = some (mCells (.slice va n c)) := by
      simp only [List.map_toArray, List.map_cons, List.map_nil, hs]
      exact built_matcher va n c
    refine wpList_build g2 112 #[(0, s)] h2 (by rw [hb]; rfl) ?_
    rw [hb]
    simp only [Option.getD_some]
    refine wpList_plain g3 fun K' hK' => ?_
    unfold Oper.wp execOp
    simp only [h3, Sem.run_bind, run_allocM, Sem.run_pure, Result.andThen_ok]
    refine hK' _ _ ?_
    refine wpList_store_row g4 112 x y h4 w.heap.size (mCells (.slice va n c)) hx hy 112 mZeros (heap_alloc_new w _) ?_ ?_ ?_ ?_
    · have h := zero_matcher
      cases hi : Tryd.prog.info? 112 with
      | none => rw [hi] at h; simp at h
      | some i => rw [hi] at h; simp at h; simp [h.2, mCells_size]
    · simp [mCells_size, mZeros]
    · have hall : (mCells (.slice va n c)).all (fun v => v.oneCell') = true := by
        rw [Array.all_eq_true]
        intro i hi
        rcases Nat.eq_zero_or_pos i with rfl | hp
        · have := mCells_zero (.slice va n c)
          rw [Array.getElem?_eq_getElem hi] at this
          simp at this
          rw [this]
          rfl
        · have := mCells_at (.slice va n c) (i - 1) (by rw [mCells_size] at hi; omega)
          rw [show 1 + (i - 1) = i by omega, Array.getElem?_eq_getElem hi] at this
          simp at this
          rw [this]
          rfl
      exact hall
    · rw [setRow_new]
      exact h
  exact e1
/-- A matcher that has bound nothing. -/
theorem MIn.new (w : World) (dv : Value) : MIn (w.alloc (.cells (mCells dv) 112)) w.heap.size w.heap.size dv [] := by
  have hh : (w.alloc (.cells (mCells dv) 112)).heap[w.heap.size]? = some (.cells (mCells dv) 112) := heap_alloc_new w _
  have hc : ∀ j, (w.alloc (.cells (mCells dv) 112)).cell? ⟨w.heap.size, j, none⟩ = (mCells dv)[j]? := fun j => by unfold World.cell?; simp only [hh]; rfl
  refine ⟨Nat.le_refl _, ⟨_, hh⟩, by rw [hc]; exact mCells_zero dv, fun x hx => ⟨_, by rw [hc]; exact mCells_at dv x (by omega), rfl⟩, ⟨.slice none 0 0, by rw [hc]; exact mCells_at dv 60 (by omega), World.ownsRow_nil _ _ _ _⟩, LOk.nil⟩

end Go.Proofs.YtjnddclkdofgdaaDoor
