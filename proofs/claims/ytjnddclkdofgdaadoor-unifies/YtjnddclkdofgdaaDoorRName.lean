/- The document's own answer: may a name be so. -/
import Derived.Test.YtjnddclkdofgdaaDoorChar
namespace Go.Proofs.YtjnddclkdofgdaaDoor
open Go.RowKit
set_option maxRecDepth 100000

/-- The characters from a place on, behind some: are they a name's? -/
def nameGo (s : ByteArray) : Nat → Nat → Nat → Bool
  | 0, _, m => decide (1 ≤ m) && decide (m ≤ 20)
  | f + 1, p, m => if p < s.size then (if charAt s p = 0 ∨ byteD s p = 10 then false else nameGo s f (p + charAt s p) (m + 1)) else decide (1 ≤ m) && decide (m ≤ 20)
/-- May a name be so? -/
def isNameL (s : ByteArray) : Bool := nameGo s s.size 0 0
theorem nameGo_end (s : ByteArray) (f p m : Nat) (h : ¬ p < s.size) : nameGo s f p m = (decide (1 ≤ m) && decide (m ≤ 20)) := by
  cases f with
  | zero => rfl
  | succ f => simp [nameGo, h]
theorem nameGo_bad (s : ByteArray) (f p m : Nat) (h : p < s.size) (hf : s.size - p ≤ f) (hb : charAt s p = 0 ∨ byteD s p = 10) : nameGo s f p m = false := by
  obtain ⟨g, rfl⟩ : ∃ g, f = g + 1 := ⟨f - 1, by omega⟩
  simp only [nameGo, if_pos h, if_pos hb]
theorem nameGo_on (s : ByteArray) (f p m : Nat) (h : p < s.size) (hf : s.size - p ≤ f) (hb : ¬ (charAt s p = 0 ∨ byteD s p = 10)) :
    ∃ g, s.size - (p + charAt s p) ≤ g ∧ nameGo s f p m = nameGo s g (p + charAt s p) (m + 1) := by
  obtain ⟨g, rfl⟩ : ∃ g, f = g + 1 := ⟨f - 1, by omega⟩
  refine ⟨g, by omega, ?_⟩
  simp only [nameGo, if_pos h, if_neg hb]

set_option maxHeartbeats 400000 in
theorem rIsName_any (s : ByteArray) (w : World) (hs : s.size ≤ 9223372036854775000) :
    Calls Tryd.prog 61 #[.string s] w fun e w' => e = .returned (.bool (isNameL s)) ∧ w' = w := by
  go_enter Tryd.func61, Tryd.ntmps61
  go_wp2
  go_loop [3, 4] (fun q i => ∃ p m f : Nat, p ≤ s.size ∧ m ≤ p ∧ i = .int .i64 p ∧ q = .int .i64 m ∧ s.size - p ≤ f ∧ isNameL s = nameGo s f p m) (fun _ i => s.size - (intOf i).toNat)
  case atStart => exact ⟨0, 0, s.size, by omega, by omega, rfl, rfl, by omega, rfl⟩
  case round =>
    obtain ⟨p, m, f, hp, hm, rfl, rfl, hf, hg⟩ := hrel
    by_cases hlt : p < s.size
    · have cC := char_any s p w hlt hs
      have hle := charAt_le s p hlt
      have hb := byteD_lt s p hlt
      by_cases h0 : charAt s p = 0
      · rw [nameGo_bad s f p m hlt hf (Or.inl h0)] at hg
        rw [h0] at cC
        have HG := hide hg
        clear hg hb h0 hle
        go_wp2_with (go_at_call 85; refine cC.mono ?_; rintro e w' ⟨rfl, rfl⟩)
        go_ret
        exact ⟨ret_bool HG.out.symm, rfl⟩
      · generalize hn : charAt s p = n at *
        have hz : ((n : Int) == 0) = false := by rw [beq_eq_false_iff_ne]; omega
        by_cases h10 : byteD s p = 10
        · rw [nameGo_bad s f p m hlt hf (Or.inr h10)] at hg
          have HG := hide hg
          rw [h10] at hb
          have hc : ((s[p]'hlt).toNat : Int) = 10 := by omega
          have hce : (((s[p]'hlt).toNat : Int) == 10) = true := by rw [beq_iff_eq]; exact hc
          clear hg hb hn hc
          go_wp2_with (go_at_call 85; refine cC.mono ?_; rintro e w' ⟨rfl, rfl⟩)
          go_ret
          exact ⟨ret_bool HG.out.symm, rfl⟩
        · obtain ⟨g, hg1, hg2⟩ := nameGo_on s f p m hlt hf (by rw [hn]; omega)
          rw [hn] at hg1 hg2
          rw [hg2] at hg
          have HG := hide hg
          have hce : (((s[p]'hlt).toNat : Int) == 10) = false := by rw [beq_eq_false_iff_ne]; omega
          clear hg hb hn hg2 h10
          go_wp2_with (go_at_call 85; refine cC.mono ?_; rintro e w' ⟨rfl, rfl⟩)
          go_round
          case rel => exact ⟨p + n, m + 1, g, by omega, by omega, by go_num, by go_num, by omega, HG.out⟩
          case measure => simp [intOf]; omega
    · rw [nameGo_end s f p m hlt] at hg
      have HG := hide hg
      clear hg
      go_wp2
      all_goals
        go_ret
        refine ⟨ret_bool ?_, rfl⟩
        rw [HG.out, Bool.eq_iff_iff]
        simp
        omega

end Go.Proofs.YtjnddclkdofgdaaDoor
