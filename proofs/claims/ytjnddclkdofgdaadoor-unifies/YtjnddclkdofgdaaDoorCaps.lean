/- Small words that several texts want. -/
import Derived.Test.YtjnddclkdofgdaaDoorRefs1M
namespace Go.Proofs.YtjnddclkdofgdaaDoor
open Go.RowKit
set_option maxRecDepth 100000

/-- No atom is longer than its room. -/
def CapsIn (w : World) (a : Option Addr) (c : List Lt) : Prop := ∀ k, k < c.length → ∀ b o aa n cap, a = some ⟨b, o, none⟩ → w.cell? ⟨b, o + k * 2 + 1, none⟩ = some (.slice aa n cap) → n ≤ cap
theorem box_cell {w : World} {g : Nat} {s x : Value} {t : TypeId} (h : w.heap[g]? = some (.cells #[s, x] t)) : w.cell? ⟨g, 0, none⟩ = some s ∧ w.cell? ⟨g, 1, none⟩ = some x := ⟨by simp [World.cell?, h], by simp [World.cell?, h]⟩
theorem ret_two {a b : Value} {c d : Value} (h : a = c) (k : b = d) : Ending.returned (.tuple #[a, b]) = .returned (.tuple #[c, d]) := by rw [h, k]
theorem atom_parts {l : List Nd} (h : atomB l = true) : termGo l 1 = true ∧ l.length ≤ 60 := by
  have : isTermL l = true := by simp [atomB] at h; exact h.1
  simpa [isTermL] using this
theorem num_any (x : Int) (w : World) : Calls Tryd.prog 16 #[.int .i64 x] w fun e w' => e = .returned (.int .i64 x) ∧ w' = w := by
  go_enter Tryd.func16, Tryd.ntmps16
  go_wp2
  go_ret
  exact ⟨rfl, rfl⟩
theorem heap_new (w : World) (X : Obj) : (w.alloc X).heap[w.heap.size]? = some X := by
  show (w.heap.push X)[w.heap.size]? = _
  simp

end Go.Proofs.YtjnddclkdofgdaaDoor
