/- A term as it is written, as a function of its nodes. -/
import Derived.Test.YtjnddclkdofgdaaDoorRText
import Derived.Test.YtjnddclkdofgdaaDoorRTerm
namespace Go.Proofs.YtjnddclkdofgdaaDoor
open Go.RowKit

theorem charAt_le4 (s : ByteArray) (p : Nat) : charAt s p ≤ 4 := by
  have hz : szN (byteD s p) ≤ 4 := by unfold szN; split <;> (try split) <;> (try split) <;> (try split) <;> (try split) <;> omega
  simp only [charAt]
  split
  · omega
  · split
    · omega
    · split <;> omega
theorem nameGo_size (s : ByteArray) : ∀ f p m, s.size - p ≤ f → m ≤ 20 → nameGo s f p m = true → s.size ≤ p + 4 * (20 - m) := by
  intro f
  induction f with
  | zero => intro p m hf hm h; omega
  | succ f ih =>
    intro p m hf hm h
    by_cases hp : p < s.size
    · by_cases hb : charAt s p = 0 ∨ byteD s p = 10
      · rw [nameGo_bad s (f + 1) p m hp hf hb] at h; simp at h
      · have hc := charAt_le4 s p
        simp only [nameGo, if_pos hp, if_neg hb] at h
        by_cases hm20 : m = 20
        · exfalso
          subst hm20
          have : ∀ f p m, 20 < m → nameGo s f p m = false := by
            intro f
            induction f with
            | zero => intro p m hm; simp [nameGo]; omega
            | succ f ih =>
              intro p m hm
              simp only [nameGo]
              split
              · split
                · rfl
                · exact ih _ _ (by omega)
              · simp; omega
          rw [this _ _ _ (by omega)] at h
          simp at h
        · have := ih (p + charAt s p) (m + 1) (by omega) (by omega) h
          omega
    · omega
theorem isNameL_size (s : ByteArray) (h : isNameL s = true) : 0 < s.size ∧ s.size ≤ 80 := by
  refine ⟨?_, ?_⟩
  · rcases Nat.eq_zero_or_pos s.size with h0 | h0
    · unfold isNameL at h; rw [h0] at h; simp [nameGo] at h
    · exact h0
  · have := nameGo_size s s.size 0 0 (by omega) (by omega) h
    omega

/-- So many parts, each with what stands ahead of it; and what is left. -/
def partsF (T : List Nd → List UInt8 × List Nd) : Nat → List Nd → List UInt8 × List Nd
  | 0, r => ([], r)
  | i + 1, r => ((partsF T i r).1 ++ ((if i = 0 then [40] else [44, 32]) ++ (T (partsF T i r).2).1), (T (partsF T i r).2).2)
/-- The term that begins nodes, as it is written; and the nodes behind it. -/
def termW : Nat → List Nd → List UInt8 × List Nd
  | 0, l => ([], l)
  | _ + 1, [] => ([], [])
  | f + 1, n :: r => if varB n then (88 :: decB n.2.toNat, r) else (nameText n.1.data.toList ++ ((partsF (termW f) n.2.toNat r).1 ++ if 0 < n.2.toNat then [41] else []), (partsF (termW f) n.2.toNat r).2)

theorem parts_step (f : Nat) (ih : ∀ l q, l.length ≤ f → termGo l (q + 1) = true → ∃ k, 1 ≤ k ∧ k ≤ l.length ∧ (termW f l).2 = l.drop k ∧ termGo (l.drop k) q = true ∧ (termW f l).1.length + 2 ≤ 200 * k) :
    ∀ i m q l, i ≤ m → l.length ≤ f → termGo l (m + q) = true → ∃ k, k ≤ l.length ∧ (partsF (termW f) i l).2 = l.drop k ∧ termGo (l.drop k) (m - i + q) = true ∧ (partsF (termW f) i l).1.length ≤ 200 * k := by
  intro i
  induction i with
  | zero => intro m q l _ _ h; exact ⟨0, by omega, rfl, by simpa using h, by simp [partsF]⟩
  | succ i ihi =>
    intro m q l him hl h
    obtain ⟨k, hk, h1, h2, h3⟩ := ihi m q l (by omega) hl h
    have e : m - i + q = (m - (i + 1) + q) + 1 := by omega
    rw [e] at h2
    obtain ⟨j, hj1, hj2, hj3, hj4, hj5⟩ := ih (l.drop k) (m - (i + 1) + q) (by simp; omega) h2
    simp only [List.length_drop] at hj2
    refine ⟨k + j, by omega, ?_, ?_, ?_⟩
    · simp only [partsF, h1, hj3, List.drop_drop]
    · rw [← List.drop_drop]; exact hj4
    · simp only [partsF, h1, List.length_append]
      have : (if i = 0 then ([40] : List UInt8) else [44, 32]).length ≤ 2 := by split <;> simp
      omega
theorem term_step (f : Nat) : ∀ l q, l.length ≤ f → termGo l (q + 1) = true → ∃ k, 1 ≤ k ∧ k ≤ l.length ∧ (termW f l).2 = l.drop k ∧ termGo (l.drop k) q = true ∧ (termW f l).1.length + 2 ≤ 200 * k := by
  induction f with
  | zero => intro l q hl h; have : l = [] := List.eq_nil_of_length_eq_zero (by omega); subst this; simp [termGo] at h
  | succ f ih =>
    intro l q hl h
    cases l with
    | nil => simp [termGo] at h
    | cons n r =>
      have hq : ¬ q + 1 = 0 := by omega
      simp only [termGo, if_neg hq] at h
      by_cases hok : nodeOk n = true
      · rw [if_pos hok] at h
        by_cases hv : varB n = true
        · refine ⟨1, by omega, by simp, by simp [termW, hv], ?_, ?_⟩
          · have : wants n = 0 := by simp [wants, hv]
            rw [this] at h
            simpa using h
          · have := decB_len n.2.toNat
            simp only [termW, if_pos hv, List.length_cons]
            omega
        · have hw : wants n = n.2.toNat := by simp [wants, hv]
          have hn : isNameL n.1 = true := by
            have : isNameL n.1 = true ∧ 0 ≤ n.2 ∧ n.2 ≤ 5 := by simpa [nodeOk, hv] using hok
            exact this.1
          have hsz := isNameL_size n.1 hn
          have hnt := nameText_len n.1.data.toList
          rw [hw] at h
          have e : q + 1 - 1 + n.2.toNat = n.2.toNat + q := by omega
          rw [e] at h
          obtain ⟨k, hk1, hk2, hk3, hk4⟩ := parts_step f ih n.2.toNat n.2.toNat q r (Nat.le_refl _) (by simpa using hl) h
          refine ⟨k + 1, by omega, by simp; omega, ?_, ?_, ?_⟩
          · simp only [termW, if_neg hv, hk2, List.drop_succ_cons]
          · simpa using hk3
          · simp only [termW, if_neg hv, List.length_append]
            have : (if 0 < n.2.toNat then ([41] : List UInt8) else []).length ≤ 1 := by split <;> simp
            rw [← size_data] at hnt
            omega
      · rw [if_neg hok] at h; simp at h

end Go.Proofs.YtjnddclkdofgdaaDoor
