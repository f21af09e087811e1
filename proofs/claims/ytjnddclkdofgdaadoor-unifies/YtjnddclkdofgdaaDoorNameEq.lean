/- Two ways to say which names may be: character by character, and by the library's words. -/
import Derived.Test.YtjnddclkdofgdaaDoorRPrimM
import Derived.Lib.ValidLaws
import Derived.Lib.RuneCount
import Derived.Lib.IndexAny
namespace Go.Proofs.YtjnddclkdofgdaaDoor
open Go.RowKit
set_option maxRecDepth 100000

theorem byteD_getD (s : ByteArray) (i : Nat) : byteD s i = (s.data.toList.getD i 0).toNat := by
  unfold byteD
  split
  · next h =>
    obtain ⟨⟨l⟩⟩ := s
    have hl : i < l.length := h
    simp [List.getD, hl]
    rfl
  · next h =>
    obtain ⟨⟨l⟩⟩ := s
    have hl : ¬ i < l.length := h
    simp [List.getD, List.getElem?_eq_none (show l.length ≤ i by omega)]
theorem byteD_256 (s : ByteArray) (i : Nat) : byteD s i < 256 := by
  rw [byteD_getD]
  exact UInt8.toNat_lt _

/-- The length of a character by its bytes; 0: there is none. -/
def chN (d : Nat × Nat) : Nat := if d.1 = 65533 ∧ d.2 = 1 then 0 else d.2
set_option maxHeartbeats 1000000 in
theorem chN_slow (n b0 b1 b2 b3 sz lo hi : Nat) (h2 : 2 ≤ sz) (h4 : sz ≤ 4) : chN (Lib.slowN n b0 b1 b2 b3 sz lo hi) = if n < sz ∨ b1 < lo ∨ hi < b1 ∨ (3 ≤ sz ∧ (b2 < 128 ∨ 191 < b2)) ∨ (4 ≤ sz ∧ (b3 < 128 ∨ 191 < b3)) then 0 else sz := by
  unfold chN Lib.slowN
  repeat' split
  all_goals first | rfl | omega | (exfalso; omega) | (simp only at *; omega)
/-- charAt by its bytes. -/
theorem charAt_N (s : ByteArray) (p z : Nat) (hz : szN (byteD s p) = z) (h2 : 2 ≤ z) (h4 : z ≤ 4) :
    charAt s p = if s.size < p + z ∨ (byteD s (p + 1) < 128 ∨ 191 < byteD s (p + 1)) ∨ (3 ≤ z ∧ (byteD s (p + 2) < 128 ∨ 191 < byteD s (p + 2))) ∨ (4 ≤ z ∧ (byteD s (p + 3) < 128 ∨ 191 < byteD s (p + 3))) ∨ badB (byteD s p) (byteD s (p + 1)) = true then 0 else z := by
  by_cases hsh : s.size < p + z
  · rw [charAt_short s p z hz (by omega) hsh, if_pos (Or.inl hsh)]
  · by_cases hall : ∀ i, 0 < i → i < z → contB (byteD s (p + i)) = true
    · rw [charAt_end s p z hz (by omega) hsh hall]
      have c1 := hall 1 (by omega) (by omega)
      have c2 : 3 ≤ z → contB (byteD s (p + 2)) = true := fun h => hall 2 (by omega) (by omega)
      have c3 : 4 ≤ z → contB (byteD s (p + 3)) = true := fun h => hall 3 (by omega) (by omega)
      simp only [contB, Bool.and_eq_true, decide_eq_true_eq] at c1 c2 c3
      by_cases hb : badB (byteD s p) (byteD s (p + 1)) = true
      · rw [if_pos hb, if_pos (by simp [hb])]
      · rw [if_neg hb, if_neg]
        intro h
        rcases h with h | h | h | h | h
        · omega
        · omega
        · have := c2 h.1; omega
        · have := c3 h.1; omega
        · exact hb h
    · obtain ⟨i, hi⟩ := Classical.not_forall.1 hall
      obtain ⟨hi0, hi⟩ := Classical.not_imp.1 hi
      obtain ⟨hiz, hi⟩ := Classical.not_imp.1 hi
      have hi' : contB (byteD s (p + i)) = false := by simpa using hi
      rw [charAt_not s p z i hz (by omega) hi0 hiz hi', if_pos]
      simp only [contB, Bool.and_eq_false_iff, decide_eq_false_iff_not] at hi'
      rcases (show i = 1 ∨ i = 2 ∨ i = 3 by omega) with rfl | rfl | rfl
      · right; left; omega
      · right; right; left; omega
      · right; right; right; left; omega
theorem char_decode (s : ByteArray) (p : Nat) (hp : p < s.size) : charAt s p = chN (Utf8.decode s p) := by
  rw [Lib.decode_N, ← byteD_getD, ← byteD_getD, ← byteD_getD, ← byteD_getD, ← size_data]
  have h0 := byteD_256 s p
  have h1 := byteD_256 s (p + 1)
  have h2 := byteD_256 s (p + 2)
  have h3 := byteD_256 s (p + 3)
  have hn : 1 ≤ s.size - p := by omega
  have hbad := bad_iff (byteD s p) (byteD s (p + 1))
  rcases (show byteD s p < 128 ∨ ((128 ≤ byteD s p ∧ byteD s p < 194) ∨ 245 ≤ byteD s p) ∨ (194 ≤ byteD s p ∧ byteD s p < 224) ∨ byteD s p = 224 ∨ ((225 ≤ byteD s p ∧ byteD s p < 237) ∨ (238 ≤ byteD s p ∧ byteD s p < 240)) ∨ byteD s p = 237 ∨ byteD s p = 240 ∨ (241 ≤ byteD s p ∧ byteD s p < 244) ∨ byteD s p = 244 by omega) with h | h | h | h | h | h | h | h | h
  · rw [charAt_one s p (by unfold szN; rw [if_pos h]; omega)]
    unfold szN Lib.decodeN chN
    rw [if_pos h, if_pos h, if_neg (by simp only; omega)]
  · have hz : szN (byteD s p) = 0 := by unfold szN; split <;> (try split) <;> (try split) <;> (try split) <;> (try split) <;> omega
    have hf : Lib.firstT (byteD s p) = 241 := by unfold Lib.firstT; (repeat' split) <;> omega
    rw [charAt_one s p (by omega), hz, Lib.bad_eq _ _ _ _ _ h0 hf]
    rfl
  · have hz : szN (byteD s p) = 2 := by unfold szN; split <;> (try split) <;> (try split) <;> (try split) <;> (try split) <;> omega
    rw [charAt_N s p 2 hz (by omega) (by omega), ← Lib.slow_C2 _ _ _ _ _ hn h1 h2 h3 h, chN_slow _ _ _ _ _ 2 _ _ (by omega) (by omega)]
    simp only [hbad]
    split <;> split <;> omega
  · have hz : szN (byteD s p) = 3 := by unfold szN; split <;> (try split) <;> (try split) <;> (try split) <;> (try split) <;> omega
    rw [charAt_N s p 3 hz (by omega) (by omega), ← Lib.slow_E0 _ _ _ _ _ hn h1 h2 h3 h, chN_slow _ _ _ _ _ 3 _ _ (by omega) (by omega)]
    simp only [hbad]
    split <;> split <;> omega
  · have hz : szN (byteD s p) = 3 := by unfold szN; split <;> (try split) <;> (try split) <;> (try split) <;> (try split) <;> omega
    rw [charAt_N s p 3 hz (by omega) (by omega), ← Lib.slow_E1 _ _ _ _ _ hn h1 h2 h3 h, chN_slow _ _ _ _ _ 3 _ _ (by omega) (by omega)]
    simp only [hbad]
    split <;> split <;> omega
  · have hz : szN (byteD s p) = 3 := by unfold szN; split <;> (try split) <;> (try split) <;> (try split) <;> (try split) <;> omega
    rw [charAt_N s p 3 hz (by omega) (by omega), ← Lib.slow_ED _ _ _ _ _ hn h1 h2 h3 h, chN_slow _ _ _ _ _ 3 _ _ (by omega) (by omega)]
    simp only [hbad]
    split <;> split <;> omega
  · have hz : szN (byteD s p) = 4 := by unfold szN; split <;> (try split) <;> (try split) <;> (try split) <;> (try split) <;> omega
    rw [charAt_N s p 4 hz (by omega) (by omega), ← Lib.slow_F0 _ _ _ _ _ hn h1 h2 h3 h, chN_slow _ _ _ _ _ 4 _ _ (by omega) (by omega)]
    simp only [hbad]
    split <;> split <;> omega
  · have hz : szN (byteD s p) = 4 := by unfold szN; split <;> (try split) <;> (try split) <;> (try split) <;> (try split) <;> omega
    rw [charAt_N s p 4 hz (by omega) (by omega), ← Lib.slow_F1 _ _ _ _ _ hn h1 h2 h3 h, chN_slow _ _ _ _ _ 4 _ _ (by omega) (by omega)]
    simp only [hbad]
    split <;> split <;> omega
  · have hz : szN (byteD s p) = 4 := by unfold szN; split <;> (try split) <;> (try split) <;> (try split) <;> (try split) <;> omega
    rw [charAt_N s p 4 hz (by omega) (by omega), ← Lib.slow_F4 _ _ _ _ _ hn h1 h2 h3 h, chN_slow _ _ _ _ _ 4 _ _ (by omega) (by omega)]
    simp only [hbad]
    split <;> split <;> omega
/-- Behind the first byte of a character stand no bytes below 128. -/
theorem char_tail (s : ByteArray) (p i : Nat) (hc : charAt s p ≠ 0) (h0 : 0 < i) (hi : i < charAt s p) : 128 ≤ byteD s (p + i) := by
  by_cases h1 : szN (byteD s p) ≤ 1
  · rw [charAt_one s p h1] at hi; omega
  · have h4 : szN (byteD s p) ≤ 4 := by unfold szN; split <;> (try split) <;> (try split) <;> (try split) <;> (try split) <;> omega
    cases hco : contB (byteD s (p + i))
    · have hle : charAt s p ≤ szN (byteD s p) := by
        simp only [charAt, if_neg h1]
        split
        · omega
        · split <;> omega
      exact absurd (charAt_not s p _ i rfl h1 h0 (by omega) hco) hc
    · simp only [contB, Bool.and_eq_true, decide_eq_true_eq] at hco
      exact hco.1

theorem mem_drop_step (s : ByteArray) (p : Nat) (hp : p < s.size) (hc : charAt s p ≠ 0) : (10 ∈ s.data.toList.drop p) ↔ byteD s p = 10 ∨ 10 ∈ s.data.toList.drop (p + charAt s p) := by
  have hle := charAt_le s p hp
  rw [List.mem_iff_getElem, List.mem_iff_getElem]
  constructor
  · rintro ⟨i, hi, he⟩
    simp only [List.length_drop, ← size_data, List.getElem_drop] at hi he
    have hbi : byteD s (p + i) = 10 := by rw [byteD_lt s (p + i) (by omega)]; show (s.data.toList[p + i]'_).toNat = 10; rw [he]; rfl
    by_cases hic : i < charAt s p
    · by_cases hi0 : i = 0
      · subst hi0; exact Or.inl hbi
      · have := char_tail s p i hc (by omega) hic; omega
    · refine Or.inr ⟨i - charAt s p, by simp only [List.length_drop, ← size_data]; omega, ?_⟩
      simp only [List.getElem_drop]
      have : p + charAt s p + (i - charAt s p) = p + i := by omega
      simp only [this]
      exact he
  · rintro (h | ⟨i, hi, he⟩)
    · refine ⟨0, by simp only [List.length_drop, ← size_data]; omega, ?_⟩
      simp only [List.getElem_drop, Nat.add_zero]
      rw [byteD_lt s p hp] at h
      have h' : (s.data.toList[p]'(by rw [← size_data]; exact hp)).toNat = 10 := h
      exact UInt8.toNat_inj.1 h'
    · simp only [List.length_drop, ← size_data, List.getElem_drop] at hi he
      refine ⟨charAt s p + i, by simp only [List.length_drop, ← size_data]; omega, ?_⟩
      simp only [List.getElem_drop]
      have : p + (charAt s p + i) = p + charAt s p + i := by omega
      simp only [this]
      exact he

theorem nameGo_eq (s : ByteArray) : ∀ f p m, s.size - p ≤ f →
    (nameGo s f p m = true ↔ Lib.validD (s.data.toList.drop p) = true ∧ ¬ 10 ∈ s.data.toList.drop p ∧ 1 ≤ m + Lib.runeCountFrom s f p ∧ m + Lib.runeCountFrom s f p ≤ 20) := by
  intro f
  induction f with
  | zero =>
    intro p m hf
    have hd : s.data.toList.drop p = [] := List.drop_eq_nil_of_le (by rw [← size_data]; omega)
    rw [hd]
    simp [nameGo, Lib.validD_nil, Lib.runeCountFrom]
  | succ f ih =>
    intro p m hf
    by_cases hp : p < s.size
    · have hne : s.data.toList.drop p ≠ [] := by
        intro h
        have := congrArg List.length h
        simp only [List.length_drop, ← size_data, List.length_nil] at this
        omega
      have hch := char_decode s p hp
      rw [Lib.validD_step _ hne, Lib.decodeL_drop, List.drop_drop]
      by_cases hbad : (Utf8.decode s p).1 = 65533 ∧ (Utf8.decode s p).2 = 1
      · have h0 : charAt s p = 0 := by rw [hch]; unfold chN; rw [if_pos hbad]
        rw [if_pos hbad, nameGo_bad s (f + 1) p m hp hf (Or.inl h0)]
        simp
      · have hw := Lib.decode_width_pos s p hp
        have hc : charAt s p = (Utf8.decode s p).2 := by rw [hch]; unfold chN; rw [if_neg hbad]
        rw [if_neg hbad, mem_drop_step s p hp (by omega)]
        have hrc : Lib.runeCountFrom s (f + 1) p = 1 + Lib.runeCountFrom s f (p + (Utf8.decode s p).2) := by simp [Lib.runeCountFrom, hp]
        rw [hrc]
        by_cases h10 : byteD s p = 10
        · rw [nameGo_bad s (f + 1) p m hp hf (Or.inr h10)]
          simp [h10]
        · have hstep : nameGo s (f + 1) p m = nameGo s f (p + charAt s p) (m + 1) := by
            simp only [nameGo, if_pos hp]
            rw [if_neg (by omega)]
          rw [hstep, ih (p + charAt s p) (m + 1) (by omega), hc]
          simp only [h10, false_or]
          constructor
          · rintro ⟨a, b, c, d⟩; exact ⟨a, b, by omega, by omega⟩
          · rintro ⟨a, b, c, d⟩; exact ⟨a, b, by omega, by omega⟩
    · have hd : s.data.toList.drop p = [] := List.drop_eq_nil_of_le (by rw [← size_data]; omega)
      rw [nameGo_end s (f + 1) p m hp, hd, Lib.runeCountFrom_end s (f + 1) p hp]
      simp [Lib.validD_nil]
/-- The two ways are one. -/
theorem isNameL_eq (s : ByteArray) : isNameL s = (Lib.validD s.data.toList && !decide (0 ≤ Lib.indexByte s.data.toList 10) && (decide (1 ≤ Lib.runeCount s) && decide (Lib.runeCount s ≤ 20))) := by
  rw [Bool.eq_iff_iff]
  unfold isNameL
  rw [nameGo_eq s s.size 0 0 (by omega), ← Lib.contains_iff_indexByte]
  have hr : Lib.runeCountFrom s s.size 0 = Lib.runeCount s := rfl
  rw [hr]
  simp [and_assoc]

end Go.Proofs.YtjnddclkdofgdaaDoor
