/- The law of Print. -/
import Derived.Test.YtjnddclkdofgdaaDoorPLaw
namespace Go.Proofs.YtjnddclkdofgdaaDoor
open Go.RowKit
set_option maxRecDepth 100000

/-- The known clause: not p of a variable. -/
def knownC : List Lt := [(true, [(⟨#[112]⟩, 1), (⟨#[]⟩, 0)])]
theorem known_clause : isClauseL knownC = true := by decide +kernel
theorem known_uses1 : usesL knownC = [(⟨#[112]⟩, true, 1)] := by decide +kernel
theorem known_uses : UsesOk (usesL knownC) := by
  rw [known_uses1]
  intro i h
  have h0 : i = 0 := by simp at h; exact h
  subst h0
  exact ⟨by show (1 : Int) ≤ 5; decide, fun k hk => absurd hk (Nat.not_lt_zero k)⟩
/-- The world with the known clause. -/
abbrev knownW (w : World) : World := (w.alloc (.cells #[.string ⟨#[112]⟩, .int .i64 1, .string ⟨#[]⟩, .int .i64 0] 27)).alloc (.cells #[.bool true, .slice (some ⟨w.heap.size, 0, none⟩) 2 2] 30)
theorem known_below (w : World) : Below w.heap.size w (knownW w) := ((Below.refl _ _).alloc (Nat.le_refl _) _).alloc (by show _ ≤ (w.heap.push _).size; simp) _
theorem known_heap (w : World) : (knownW w).heap[w.heap.size]? = some (.cells #[.string ⟨#[112]⟩, .int .i64 1, .string ⟨#[]⟩, .int .i64 0] 27) ∧ (knownW w).heap[w.heap.size + 1]? = some (.cells #[.bool true, .slice (some ⟨w.heap.size, 0, none⟩) 2 2] 30) := by
  have e : (knownW w).heap = (w.heap.push (.cells #[.string ⟨#[112]⟩, .int .i64 1, .string ⟨#[]⟩, .int .i64 0] 27)).push (.cells #[.bool true, .slice (some ⟨w.heap.size, 0, none⟩) 2 2] 30) := rfl
  rw [e]
  constructor
  · rw [Array.getElem?_push, if_neg (by simp)]; simp
  · rw [Array.getElem?_push, if_pos (by simp)]
theorem known_in (w : World) : LitsIn (knownW w) (some ⟨w.heap.size + 1, 0, none⟩) knownC := by
  obtain ⟨h0, h1⟩ := known_heap w
  refine ⟨by decide, fun k hk => ?_⟩
  have hk0 : k = 0 := by simp [knownC] at hk; exact hk
  subst hk0
  refine ⟨w.heap.size + 1, 0, some ⟨w.heap.size, 0, none⟩, 2, rfl, (cell_of_row _ _ _ _ _ _ h1).trans rfl, (cell_of_row _ _ _ _ _ _ h1).trans rfl, ⟨Nat.le_of_ble_eq_true rfl, ?_, ?_⟩⟩
  · intro j hj
    have hj2 : j = 0 ∨ j = 1 := by simp [knownC] at hj; omega
    rcases hj2 with rfl | rfl <;> exact Nat.le_of_ble_eq_true rfl
  · intro j hj
    have hj2 : j = 0 ∨ j = 1 := by simp [knownC] at hj; omega
    rcases hj2 with rfl | rfl
    · exact ⟨_, _, rfl, (cell_of_row _ _ _ _ _ _ h0).trans rfl, (cell_of_row _ _ _ _ _ _ h0).trans rfl⟩
    · exact ⟨_, _, rfl, (cell_of_row _ _ _ _ _ _ h0).trans rfl, (cell_of_row _ _ _ _ _ _ h0).trans rfl⟩
theorem known_caps (w : World) : CapsIn (knownW w) (some ⟨w.heap.size + 1, 0, none⟩) knownC := by
  obtain ⟨h0, h1⟩ := known_heap w
  intro k hk b o aa n cap ha hc
  have hk0 : k = 0 := by simp [knownC] at hk; exact hk
  subst hk0
  obtain ⟨rfl, rfl⟩ : w.heap.size + 1 = b ∧ 0 = o := by simpa using ha
  rw [cell_of_row _ _ _ _ _ _ h1] at hc
  have hc' : some (Value.slice (some ⟨w.heap.size, 0, none⟩) 2 2) = some (Value.slice aa n cap) := hc
  obtain ⟨-, rfl, rfl⟩ : some ⟨w.heap.size, 0, none⟩ = aa ∧ 2 = n ∧ 2 = cap := by simpa using hc'
  exact Nat.le_refl _
theorem known_text : clauseT knownC = [126, 112, 40, 88, 48, 41, 46, 10] := by decide +kernel
theorem known_one {t : List UInt8} {r : Int} (h : PrintR knownC t r) : t = [126, 112, 40, 88, 48, 41, 46, 10] ∧ r = 0 := by
  rcases h with ⟨_, _, rfl, rfl⟩ | ⟨h, _⟩
  · exact ⟨known_text, rfl⟩
  · exact absurd ⟨known_clause, known_uses⟩ h

theorem lprints_any (a : Option Addr) (cp : Nat) (c : List Lt) (w : World) (h : LitsIn w a c) (hz : NilsIn w a c) (hT : Tabs w) :
    Calls Tryd.prog 3 #[.slice a c.length cp] w fun e w' => e = .returned (.bool true) ∧ Below w.heap.size w w' := by
  have HH := hide h
  have HZ := hide hz
  have HT := hide hT
  clear h hz hT
  go_enter Tryd.func3, Tryd.ntmps3
  have CK := hide (mPrint_any (some ⟨w.heap.size + 1, 0, none⟩) 1 knownC (knownW w) (known_in w) (known_caps w) (HT.out.below (known_below w) (Nat.le_refl _)))
  have HK := hide (known_below w)
  go_wp2_with (first
    | (go_at_call 6; refine (unhide CK).mono ?_; rintro e w1 ⟨t, r, rfl, hr, hb1⟩; obtain ⟨rfl, rfl⟩ := known_one hr; have HB1 := hide (HK.out.trans (hb1.mono HK.out.size)); have CL := hide (lprint_any a cp c w1 (HH.out.below HB1.out (Nat.le_refl _)) (HZ.out.below HH.out HB1.out) (HT.out.below HB1.out (Nat.le_refl _))); clear hr hb1)
    | (go_at_call 7; refine (unhide CL).mono ?_; rintro e w2 ⟨rfl, hb2⟩; have HB2 := hide (HB1.out.trans (hb2.mono HB1.out.size)); clear hb2))
  go_ret
  exact ⟨rfl, HB2.out⟩

end Go.Proofs.YtjnddclkdofgdaaDoor
