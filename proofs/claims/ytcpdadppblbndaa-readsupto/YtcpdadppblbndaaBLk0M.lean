/- The law looks at its lists again: what lies where. The law looks at a marked literal. Two ways to say which names may be: character by character, and by the library's words. Pure: the characters of a text, as the program lists them. -/
import Derived.Test.YtcpdadppblbndaaBMarkM
import Derived.Test.YtcpdadppblbndaaSCl2
import Derived.Deep.QuietTactic
import Derived.BigQuiet
import Derived.Test.YtcpdadppblbndaaText0M
import Derived.Lib.ValidLaws
import Derived.Lib.RuneCount
import Derived.Lib.IndexAny
namespace Go.Proofs.Ytcpdadppblbndaa
open Go.RowKit Go.Shelf
set_option maxRecDepth 100000

theorem Marks.view {w : World} {v : Value} {m : Int} (h : Marks w v m) : ∃ a n c, v = .slice a n c ∧ n ≤ 5864062014809 ∧ ∀ k, k < n → ∃ g, a = some ⟨g, 0, none⟩ ∧ w.cell? ⟨g, k * 2, none⟩ = some (.string ⟨#[35]⟩) ∧ w.cell? ⟨g, k * 2 + 1, none⟩ = some (.int .i64 m) := by
  rcases h with rfl | ⟨g, n, c, cur, rfl, hh, hk, hn⟩
  · exact ⟨none, 0, 0, rfl, by omega, fun k hk => by omega⟩
  · refine ⟨_, n, c, rfl, hn, fun k hkn => ⟨g, rfl, ?_, ?_⟩⟩
    · simp [World.cell?, hh, (hk k hkn).1]
    · simp [World.cell?, hh, (hk k hkn).2]
theorem row_vals {w : World} {B : Nat} {e : TypeId} {v : Value} {n : Nat} {xs : List Value} (h : w.ownsRow B e 1 v n xs) : ∃ a cap, v = .slice a n cap ∧ ∀ k x, xs[k]? = some x → ∃ g, a = some ⟨g, 0, none⟩ ∧ w.cell? ⟨g, k, none⟩ = some x := by
  obtain ⟨h1, ⟨rfl, h2⟩ | ⟨g, cap, cur, rfl, hb, hh, hc, hm, hz, ht⟩⟩ := h
  · refine ⟨none, 0, by rw [h2], fun k x hx => ?_⟩
    have := (List.getElem?_eq_some_iff.1 hx).1
    omega
  · have ho : w.ownsRow B e 1 (.slice (some ⟨g, 0, none⟩) n cap) n xs := ⟨h1, Or.inr ⟨g, cap, cur, rfl, hb, hh, hc, hm, hz, ht⟩⟩
    refine ⟨_, _, rfl, fun k x hx => ⟨g, rfl, ?_⟩⟩
    have hk := (List.getElem?_eq_some_iff.1 hx).1
    rw [ho.cellAt k (by omega), hx]
/-- A list of one element, as the walks read it. -/
theorem MkG.view {e : TypeId} {el : List Value} {w : World} {v : Value} (h : MkG e el w v) : ∃ a n c, v = .slice a n c ∧ n ≤ 1000000000000 ∧ ∀ k, k < n → ∃ g, a = some ⟨g, 0, none⟩ ∧ ∀ j (hj : j < el.length), w.cell? ⟨g, k * el.length + j, none⟩ = some el[j] := by
  rcases h with rfl | ⟨g, n, c, cur, rfl, hh, hk, hn⟩
  · exact ⟨none, 0, 0, rfl, by omega, fun k hk => by omega⟩
  · refine ⟨_, n, c, rfl, hn, fun k hkn => ⟨g, rfl, fun j hj => ?_⟩⟩
    have hlt : k * el.length + j < n * el.length := by
      have : (k + 1) * el.length ≤ n * el.length := Nat.mul_le_mul_right _ hkn
      rw [Nat.succ_mul] at this
      omega
    have := hk _ hlt
    rw [Nat.mul_comm, Nat.mul_add_mod, Nat.mod_eq_of_lt hj, Nat.mul_comm] at this
    simp [World.cell?, hh, this, hj]
theorem flat3 {α : Type} (f : α → List Value) (hf : ∀ a, (f a).length = 3) : ∀ (L : List α) (i : Nat) (h : i / 3 < L.length), (L.flatMap f)[i]? = (f L[i / 3])[i % 3]? := by
  intro L
  induction L with
  | nil => intro i h; simp at h
  | cons a L ih =>
    intro i h
    rw [List.flatMap_cons]
    by_cases hi : i < 3
    · rw [List.getElem?_append_left (by rw [hf]; exact hi)]
      have h0 : i / 3 = 0 := by omega
      simp [h0, Nat.mod_eq_of_lt hi]
    · obtain ⟨k, rfl⟩ : ∃ k, i = k + 3 := ⟨i - 3, by omega⟩
      rw [List.getElem?_append_right (by rw [hf]; omega), hf, Nat.add_sub_cancel, ih k (by simp at h; omega)]
      have h1 : (k + 3) / 3 = k / 3 + 1 := by omega
      simp [h1]

end Go.Proofs.Ytcpdadppblbndaa

namespace Go.Proofs.Ytcpdadppblbndaa
open Go.RowKit Go.Shelf
set_option maxRecDepth 100000

abbrev litV (ga : Nat) : Value := .agg #[.bool true, .slice (some ⟨ga, 0, none⟩) 1 1]
theorem marked_any (ga : Nat) (m : Int) (w : World) (h : w.heap[ga]? = some (.cells #[.string ⟨#[61]⟩, .int .i64 m] 46)) :
    Calls Try.prog 11 #[litV ga, litV ga] w fun e w' => e = .returned (.bool true) ∧ Below w.heap.size w w' := by
  have hlt : ga < w.heap.size := (Array.getElem?_eq_some_iff.1 h).1
  have c0 : w.cell? ⟨ga, 0, none⟩ = some (.string ⟨#[61]⟩) := by simp [World.cell?, h]
  have c1 : w.cell? ⟨ga, 1, none⟩ = some (.int .i64 m) := by simp [World.cell?, h]
  have hb1 := (Below.refl w.heap.size w).alloc (Nat.le_refl _) (.cells #[.bool true, .slice (some ⟨ga, 0, none⟩) 1 1] 49)
  have hb2 := hb1.alloc (by simp) (.cells #[.bool true, .slice (some ⟨ga, 0, none⟩) 1 1] 49)
  have hnb := nodeB_eq (⟨#[61]⟩, m) (⟨#[61]⟩, m)
  have g9 := guard46
  have q9 := eqNode ⟨#[61]⟩ ⟨#[61]⟩ m m
  rw [decide_eq_true rfl] at hnb
  simp only at hnb
  have HB2 := hide hb2
  clear h hb1 hb2
  go_enter Try.func11, Try.ntmps11
  go_wp2
  go_quiet (fail)
  go_wp2
  go_ret
  exact ⟨rfl, HB2.out.trans ((below_drawn ⟨_, rfl⟩).mono HB2.out.size)⟩

end Go.Proofs.Ytcpdadppblbndaa

namespace Go.Proofs.Ytcpdadppblbndaa
open Go.RowKit
set_option maxRecDepth 100000

theorem byteD_getD (s : ByteArray) (i : Nat) : byteD s i = (s.data.toList.getD i 0).toNat := by
  unfold byteD
  split
  · next h =>
    obtain ⟨⟨l⟩⟩ := s
    have hl : i < l.length := h
    simp [List.getD, hl]
    rfl
  · next h =>
    obtain ⟨⟨l⟩⟩ := s
    have hl : ¬ i < l.length := h
    simp [List.getD, List.getElem?_eq_none (show l.length ≤ i by omega)]
theorem byteD_256 (s : ByteArray) (i : Nat) : byteD s i < 256 := by
  rw [byteD_getD]
  exact UInt8.toNat_lt _

/-- The length of a character by its bytes; 0: there is none. -/
def chN (d : Nat × Nat) : Nat := if d.1 = 65533 ∧ d.2 = 1 then 0 else d.2
set_option maxHeartbeats 1000000 in
theorem chN_slow (n b0 b1 b2 b3 sz lo hi : Nat) (h2 : 2 ≤ sz) (h4 : sz ≤ 4) : chN (Lib.slowN n b0 b1 b2 b3 sz lo hi) = if n < sz ∨ b1 < lo ∨ hi < b1 ∨ (3 ≤ sz ∧ (b2 < 128 ∨ 191 < b2)) ∨ (4 ≤ sz ∧ (b3 < 128 ∨ 191 < b3)) then 0 else sz := by
  unfold chN Lib.slowN
  repeat' split
  all_goals first | rfl | omega | (exfalso; omega) | (simp only at *; omega)
/-- charAt by its bytes. -/
theorem charAt_N (s : ByteArray) (p z : Nat) (hz : szN (byteD s p) = z) (h2 : 2 ≤ z) (h4 : z ≤ 4) :
    charAt s p = if s.size < p + z ∨ (byteD s (p + 1) < 128 ∨ 191 < byteD s (p + 1)) ∨ (3 ≤ z ∧ (byteD s (p + 2) < 128 ∨ 191 < byteD s (p + 2))) ∨ (4 ≤ z ∧ (byteD s (p + 3) < 128 ∨ 191 < byteD s (p + 3))) ∨ badB (byteD s p) (byteD s (p + 1)) = true then 0 else z := by
  by_cases hsh : s.size < p + z
  · rw [charAt_short s p z hz (by omega) hsh, if_pos (Or.inl hsh)]
  · by_cases hall : ∀ i, 0 < i → i < z → contB (byteD s (p + i)) = true
    · rw [charAt_end s p z hz (by omega) hsh hall]
      have c1 := hall 1 (by omega) (by omega)
      have c2 : 3 ≤ z → contB (byteD s (p + 2)) = true := fun h => hall 2 (by omega) (by omega)
      have c3 : 4 ≤ z → contB (byteD s (p + 3)) = true := fun h => hall 3 (by omega) (by omega)
      simp only [contB, Bool.and_eq_true, decide_eq_true_eq] at c1 c2 c3
      by_cases hb : badB (byteD s p) (byteD s (p + 1)) = true
      · rw [if_pos hb, if_pos (by simp [hb])]
      · rw [if_neg hb, if_neg]
        intro h
        rcases h with h | h | h | h | h
        · omega
        · omega
        · have := c2 h.1; omega
        · have := c3 h.1; omega
        · exact hb h
    · obtain ⟨i, hi⟩ := Classical.not_forall.1 hall
      obtain ⟨hi0, hi⟩ := Classical.not_imp.1 hi
      obtain ⟨hiz, hi⟩ := Classical.not_imp.1 hi
      have hi' : contB (byteD s (p + i)) = false := by simpa using hi
      rw [charAt_not s p z i hz (by omega) hi0 hiz hi', if_pos]
      simp only [contB, Bool.and_eq_false_iff, decide_eq_false_iff_not] at hi'
      rcases (show i = 1 ∨ i = 2 ∨ i = 3 by omega) with rfl | rfl | rfl
      · right; left; omega
      · right; right; left; omega
      · right; right; right; left; omega
theorem char_decode (s : ByteArray) (p : Nat) (hp : p < s.size) : charAt s p = chN (Utf8.decode s p) := by
  rw [Lib.decode_N, ← byteD_getD, ← byteD_getD, ← byteD_getD, ← byteD_getD, ← size_data]
  have h0 := byteD_256 s p
  have h1 := byteD_256 s (p + 1)
  have h2 := byteD_256 s (p + 2)
  have h3 := byteD_256 s (p + 3)
  have hn : 1 ≤ s.size - p := by omega
  have hbad := bad_iff (byteD s p) (byteD s (p + 1))
  rcases (show byteD s p < 128 ∨ ((128 ≤ byteD s p ∧ byteD s p < 194) ∨ 245 ≤ byteD s p) ∨ (194 ≤ byteD s p ∧ byteD s p < 224) ∨ byteD s p = 224 ∨ ((225 ≤ byteD s p ∧ byteD s p < 237) ∨ (238 ≤ byteD s p ∧ byteD s p < 240)) ∨ byteD s p = 237 ∨ byteD s p = 240 ∨ (241 ≤ byteD s p ∧ byteD s p < 244) ∨ byteD s p = 244 by omega) with h | h | h | h | h | h | h | h | h
  · rw [charAt_one s p (by unfold szN; rw [if_pos h]; omega)]
    unfold szN Lib.decodeN chN
    rw [if_pos h, if_pos h, if_neg (by simp only; omega)]
  · have hz : szN (byteD s p) = 0 := by unfold szN; split <;> (try split) <;> (try split) <;> (try split) <;> (try split) <;> omega
    have hf : Lib.firstT (byteD s p) = 241 := by unfold Lib.firstT; (repeat' split) <;> omega
    rw [charAt_one s p (by omega), hz, Lib.bad_eq _ _ _ _ _ h0 hf]
    rfl
  · have hz : szN (byteD s p) = 2 := by unfold szN; split <;> (try split) <;> (try split) <;> (try split) <;> (try split) <;> omega
    rw [charAt_N s p 2 hz (by omega) (by omega), ← Lib.slow_C2 _ _ _ _ _ hn h1 h2 h3 h, chN_slow _ _ _ _ _ 2 _ _ (by omega) (by omega)]
    simp only [hbad]
    split <;> split <;> omega
  · have hz : szN (byteD s p) = 3 := by unfold szN; split <;> (try split) <;> (try split) <;> (try split) <;> (try split) <;> omega
    rw [charAt_N s p 3 hz (by omega) (by omega), ← Lib.slow_E0 _ _ _ _ _ hn h1 h2 h3 h, chN_slow _ _ _ _ _ 3 _ _ (by omega) (by omega)]
    simp only [hbad]
    split <;> split <;> omega
  · have hz : szN (byteD s p) = 3 := by unfold szN; split <;> (try split) <;> (try split) <;> (try split) <;> (try split) <;> omega
    rw [charAt_N s p 3 hz (by omega) (by omega), ← Lib.slow_E1 _ _ _ _ _ hn h1 h2 h3 h, chN_slow _ _ _ _ _ 3 _ _ (by omega) (by omega)]
    simp only [hbad]
    split <;> split <;> omega
  · have hz : szN (byteD s p) = 3 := by unfold szN; split <;> (try split) <;> (try split) <;> (try split) <;> (try split) <;> omega
    rw [charAt_N s p 3 hz (by omega) (by omega), ← Lib.slow_ED _ _ _ _ _ hn h1 h2 h3 h, chN_slow _ _ _ _ _ 3 _ _ (by omega) (by omega)]
    simp only [hbad]
    split <;> split <;> omega
  · have hz : szN (byteD s p) = 4 := by unfold szN; split <;> (try split) <;> (try split) <;> (try split) <;> (try split) <;> omega
    rw [charAt_N s p 4 hz (by omega) (by omega), ← Lib.slow_F0 _ _ _ _ _ hn h1 h2 h3 h, chN_slow _ _ _ _ _ 4 _ _ (by omega) (by omega)]
    simp only [hbad]
    split <;> split <;> omega
  · have hz : szN (byteD s p) = 4 := by unfold szN; split <;> (try split) <;> (try split) <;> (try split) <;> (try split) <;> omega
    rw [charAt_N s p 4 hz (by omega) (by omega), ← Lib.slow_F1 _ _ _ _ _ hn h1 h2 h3 h, chN_slow _ _ _ _ _ 4 _ _ (by omega) (by omega)]
    simp only [hbad]
    split <;> split <;> omega
  · have hz : szN (byteD s p) = 4 := by unfold szN; split <;> (try split) <;> (try split) <;> (try split) <;> (try split) <;> omega
    rw [charAt_N s p 4 hz (by omega) (by omega), ← Lib.slow_F4 _ _ _ _ _ hn h1 h2 h3 h, chN_slow _ _ _ _ _ 4 _ _ (by omega) (by omega)]
    simp only [hbad]
    split <;> split <;> omega
/-- Behind the first byte of a character stand no bytes below 128. -/
theorem char_tail (s : ByteArray) (p i : Nat) (hc : charAt s p ≠ 0) (h0 : 0 < i) (hi : i < charAt s p) : 128 ≤ byteD s (p + i) := by
  by_cases h1 : szN (byteD s p) ≤ 1
  · rw [charAt_one s p h1] at hi; omega
  · have h4 : szN (byteD s p) ≤ 4 := by unfold szN; split <;> (try split) <;> (try split) <;> (try split) <;> (try split) <;> omega
    cases hco : contB (byteD s (p + i))
    · have hle : charAt s p ≤ szN (byteD s p) := by
        simp only [charAt, if_neg h1]
        split
        · omega
        · split <;> omega
      exact absurd (charAt_not s p _ i rfl h1 h0 (by omega) hco) hc
    · simp only [contB, Bool.and_eq_true, decide_eq_true_eq] at hco
      exact hco.1

theorem mem_drop_step (s : ByteArray) (p : Nat) (hp : p < s.size) (hc : charAt s p ≠ 0) : (10 ∈ s.data.toList.drop p) ↔ byteD s p = 10 ∨ 10 ∈ s.data.toList.drop (p + charAt s p) := by
  have hle := charAt_le s p hp
  rw [List.mem_iff_getElem, List.mem_iff_getElem]
  constructor
  · rintro ⟨i, hi, he⟩
    simp only [List.length_drop, ← size_data, List.getElem_drop] at hi he
    have hbi : byteD s (p + i) = 10 := by rw [byteD_lt s (p + i) (by omega)]; show (s.data.toList[p + i]'_).toNat = 10; rw [he]; rfl
    by_cases hic : i < charAt s p
    · by_cases hi0 : i = 0
      · subst hi0; exact Or.inl hbi
      · have := char_tail s p i hc (by omega) hic; omega
    · refine Or.inr ⟨i - charAt s p, by simp only [List.length_drop, ← size_data]; omega, ?_⟩
      simp only [List.getElem_drop]
      have : p + charAt s p + (i - charAt s p) = p + i := by omega
      simp only [this]
      exact he
  · rintro (h | ⟨i, hi, he⟩)
    · refine ⟨0, by simp only [List.length_drop, ← size_data]; omega, ?_⟩
      simp only [List.getElem_drop, Nat.add_zero]
      rw [byteD_lt s p hp] at h
      have h' : (s.data.toList[p]'(by rw [← size_data]; exact hp)).toNat = 10 := h
      exact UInt8.toNat_inj.1 h'
    · simp only [List.length_drop, ← size_data, List.getElem_drop] at hi he
      refine ⟨charAt s p + i, by simp only [List.length_drop, ← size_data]; omega, ?_⟩
      simp only [List.getElem_drop]
      have : p + (charAt s p + i) = p + charAt s p + i := by omega
      simp only [this]
      exact he

theorem nameGo_eq (s : ByteArray) : ∀ f p m, s.size - p ≤ f →
    (nameGo s f p m = true ↔ Lib.validD (s.data.toList.drop p) = true ∧ ¬ 10 ∈ s.data.toList.drop p ∧ 1 ≤ m + Lib.runeCountFrom s f p ∧ m + Lib.runeCountFrom s f p ≤ 20) := by
  intro f
  induction f with
  | zero =>
    intro p m hf
    have hd : s.data.toList.drop p = [] := List.drop_eq_nil_of_le (by rw [← size_data]; omega)
    rw [hd]
    simp [nameGo, Lib.validD_nil, Lib.runeCountFrom]
  | succ f ih =>
    intro p m hf
    by_cases hp : p < s.size
    · have hne : s.data.toList.drop p ≠ [] := by
        intro h
        have := congrArg List.length h
        simp only [List.length_drop, ← size_data, List.length_nil] at this
        omega
      have hch := char_decode s p hp
      rw [Lib.validD_step _ hne, Lib.decodeL_drop, List.drop_drop]
      by_cases hbad : (Utf8.decode s p).1 = 65533 ∧ (Utf8.decode s p).2 = 1
      · have h0 : charAt s p = 0 := by rw [hch]; unfold chN; rw [if_pos hbad]
        rw [if_pos hbad, nameGo_bad s (f + 1) p m hp hf (Or.inl h0)]
        simp
      · have hw := Lib.decode_width_pos s p hp
        have hc : charAt s p = (Utf8.decode s p).2 := by rw [hch]; unfold chN; rw [if_neg hbad]
        rw [if_neg hbad, mem_drop_step s p hp (by omega)]
        have hrc : Lib.runeCountFrom s (f + 1) p = 1 + Lib.runeCountFrom s f (p + (Utf8.decode s p).2) := by simp [Lib.runeCountFrom, hp]
        rw [hrc]
        by_cases h10 : byteD s p = 10
        · rw [nameGo_bad s (f + 1) p m hp hf (Or.inr h10)]
          simp [h10]
        · have hstep : nameGo s (f + 1) p m = nameGo s f (p + charAt s p) (m + 1) := by
            simp only [nameGo, if_pos hp]
            rw [if_neg (by omega)]
          rw [hstep, ih (p + charAt s p) (m + 1) (by omega), hc]
          simp only [h10, false_or]
          constructor
          · rintro ⟨a, b, c, d⟩; exact ⟨a, b, by omega, by omega⟩
          · rintro ⟨a, b, c, d⟩; exact ⟨a, b, by omega, by omega⟩
    · have hd : s.data.toList.drop p = [] := List.drop_eq_nil_of_le (by rw [← size_data]; omega)
      rw [nameGo_end s (f + 1) p m hp, hd, Lib.runeCountFrom_end s (f + 1) p hp]
      simp [Lib.validD_nil]
/-- The two ways are one. -/
theorem isNameL_eq (s : ByteArray) : isNameL s = (Lib.validD s.data.toList && !decide (0 ≤ Lib.indexByte s.data.toList 10) && (decide (1 ≤ Lib.runeCount s) && decide (Lib.runeCount s ≤ 20))) := by
  rw [Bool.eq_iff_iff]
  unfold isNameL
  rw [nameGo_eq s s.size 0 0 (by omega), ← Lib.contains_iff_indexByte]
  have hr : Lib.runeCountFrom s s.size 0 = Lib.runeCount s := rfl
  rw [hr]
  simp [and_assoc]

end Go.Proofs.Ytcpdadppblbndaa

namespace Go.Proofs.Ytcpdadppblbndaa
open Go.RowKit
set_option maxRecDepth 100000

/-- A character, and where it begins. -/
abbrev Gl := Int × Nat
/-- The character at a place: -2 where there is none. -/
def glyC (s : ByteArray) (p : Nat) : Int := if (Utf8.decode s p).1 = 65533 ∧ (Utf8.decode s p).2 = 1 then -2 else ((Utf8.decode s p).1 : Int)
theorem decode_pos (s : ByteArray) (p : Nat) : 1 ≤ (Utf8.decode s p).2 ∧ (Utf8.decode s p).2 ≤ 4 := by
  rw [Lib.decode_N]
  unfold Lib.decodeN
  repeat' split
  all_goals simp
theorem decode_in (s : ByteArray) (p : Nat) (hp : p < s.size) : p + (Utf8.decode s p).2 ≤ s.size := by
  rw [Lib.decode_N, ← size_data]
  unfold Lib.decodeN
  repeat' split
  all_goals (simp only; omega)
def glyGo (s : ByteArray) : Nat → Nat → List Gl
  | 0, _ => [(-1, s.size)]
  | f + 1, p => if p < s.size then (glyC s p, p) :: glyGo s f (p + (Utf8.decode s p).2) else [(-1, s.size)]
theorem glyGo_more (s : ByteArray) : ∀ f p, s.size - p ≤ f → glyGo s f p = glyGo s (s.size - p) p := by
  intro f
  induction f using Nat.strongRecOn with
  | _ f ih =>
    intro p h
    by_cases hp : p < s.size
    · obtain ⟨f', rfl⟩ : ∃ f', f = f' + 1 := ⟨f - 1, by omega⟩
      obtain ⟨g, hg⟩ : ∃ g, s.size - p = g + 1 := ⟨s.size - p - 1, by omega⟩
      rw [hg]
      simp only [glyGo]
      rw [if_pos hp, if_pos hp]
      have h1 := (decode_pos s p).1
      rw [ih f' (by omega) _ (by omega)]
      by_cases hgf : g < f' + 1
      · rw [ih g (by omega) _ (by omega)]
      · omega
    · have h0 : s.size - p = 0 := by omega
      rw [h0]
      cases f with
      | zero => rfl
      | succ f => simp only [glyGo]; rw [if_neg hp]
/-- The characters from a place on, and the end. -/
def glyL (s : ByteArray) (p : Nat) : List Gl := glyGo s (s.size - p) p
theorem glyL_on {s : ByteArray} {p : Nat} (h : p < s.size) : glyL s p = (glyC s p, p) :: glyL s (p + (Utf8.decode s p).2) := by
  unfold glyL
  obtain ⟨g, hg⟩ : ∃ g, s.size - p = g + 1 := ⟨s.size - p - 1, by omega⟩
  rw [hg]
  simp only [glyGo]
  rw [if_pos h, glyGo_more s g _ (by have := (decode_pos s p).1; omega)]
theorem glyL_off {s : ByteArray} {p : Nat} (h : ¬ p < s.size) : glyL s p = [(-1, s.size)] := by
  unfold glyL
  rw [show s.size - p = 0 by omega]
  rfl
theorem glyL_len (s : ByteArray) : ∀ n p, s.size - p ≤ n → 1 ≤ (glyL s p).length ∧ (glyL s p).length ≤ n + 1 := by
  intro n
  induction n using Nat.strongRecOn with
  | _ n ih =>
    intro p h
    by_cases hp : p < s.size
    · rw [glyL_on hp]
      have h1 := (decode_pos s p).1
      have := ih (n - 1) (by omega) (p + (Utf8.decode s p).2) (by omega)
      simp only [List.length_cons]
      omega
    · rw [glyL_off hp]; simp
theorem prefix3 (l : List UInt8) (p : Nat) (a b c : UInt8) : [a, b, c].isPrefixOf (l.drop p) = true ↔ l[p]? = some a ∧ l[p + 1]? = some b ∧ l[p + 2]? = some c := by
  have h0 : (l.drop p)[0]? = l[p]? := by simp
  have h1 : (l.drop p)[1]? = l[p + 1]? := by simp
  have h2 : (l.drop p)[2]? = l[p + 2]? := by simp
  rw [← h0, ← h1, ← h2]
  generalize l.drop p = m
  match m with
  | [] => simp
  | [x] => simp
  | [x, y] => simp
  | x :: y :: z :: r => simp; constructor <;> (rintro ⟨rfl, rfl, rfl⟩; exact ⟨rfl, rfl, rfl⟩)
/-- The sign for what is no character is told from the character of that number. -/
theorem decode_fffd (s : ByteArray) (p : Nat) (h : (Utf8.decode s p).1 = 65533) :
    Lib.hasPrefix (s.data.toList.drop p) [239, 191, 189] = !decide ((Utf8.decode s p).2 = 1) := by
  have hpre := prefix3 s.data.toList p 239 191 189
  have key : (s.data.toList[p]? = some 239 ∧ s.data.toList[p + 1]? = some 191 ∧ s.data.toList[p + 2]? = some 189) ↔ byteD s p = 239 ∧ byteD s (p + 1) = 191 ∧ byteD s (p + 2) = 189 := by
    have kk : ∀ i (v : UInt8), v.toNat ≠ 0 → (s.data.toList[i]? = some v ↔ byteD s i = v.toNat) := by
      intro i v hv
      rw [byteD_getD]
      cases hq : s.data.toList[i]? with
      | none =>
        simp only [List.getD, hq, Option.getD_none]
        constructor
        · intro h; cases h
        · intro h; exact absurd h.symm hv
      | some x =>
        simp only [List.getD, hq, Option.getD_some, Option.some.injEq]
        exact ⟨fun h => by rw [h], fun h => UInt8.toNat_inj.1 h⟩
    rw [kk p 239 (by decide), kk (p + 1) 191 (by decide), kk (p + 2) 189 (by decide)]
    exact Iff.rfl
  rw [key] at hpre
  unfold Lib.hasPrefix
  have hd := Lib.decode_N s p
  rw [← byteD_getD, ← byteD_getD, ← byteD_getD, ← byteD_getD, ← size_data] at hd
  have b0 := byteD_256 s p
  have b1 := byteD_256 s (p + 1)
  have b2 := byteD_256 s (p + 2)
  have hn2 : byteD s (p + 2) ≠ 0 → 2 < s.size - p := by
    intro hne
    by_cases hlt : p + 2 < s.size
    · omega
    · unfold byteD at hne; rw [dif_neg hlt] at hne; exact absurd rfl hne
  generalize byteD s p = x0 at *
  generalize byteD s (p + 1) = x1 at *
  generalize byteD s (p + 2) = x2 at *
  generalize byteD s (p + 3) = x3 at *
  rw [hd] at h ⊢
  unfold Lib.decodeN at h ⊢
  cases hx : List.isPrefixOf [239, 191, 189] (s.data.toList.drop p)
  · have hno : ¬ (x0 = 239 ∧ x1 = 191 ∧ x2 = 189) := fun h => by rw [hpre.2 h] at hx; cases hx
    revert h
    repeat' split
    all_goals first | (intro h; simp only at h; exfalso; omega) | (intro h; rfl)
  · obtain ⟨rfl, rfl, rfl⟩ := hpre.1 hx
    have := hn2 (by decide)
    revert h
    repeat' split
    all_goals first | (intro h; rfl) | (intro h; exfalso; omega)
/-- The cells of characters. -/
def glyCells (l : List Gl) : List Value := l.flatMap fun g => [.int .i32 g.1, .int .i64 g.2]
theorem glyCells_length (l : List Gl) : (glyCells l).length = l.length * 2 := by
  induction l with
  | nil => rfl
  | cons x r ih => simp [glyCells] at ih ⊢; omega
theorem glyCells_snoc (l : List Gl) (g : Gl) : glyCells (l ++ [g]) = glyCells l ++ [.int .i32 g.1, .int .i64 g.2] := by simp [glyCells]
theorem glyCells_at (l : List Gl) : ∀ k (h : k < l.length), (glyCells l)[k * 2]? = some (.int .i32 l[k].1) ∧ (glyCells l)[k * 2 + 1]? = some (.int .i64 l[k].2) := by
  induction l with
  | nil => intro k h; simp at h
  | cons x r ih =>
    intro k h
    cases k with
    | zero => exact ⟨rfl, rfl⟩
    | succ k =>
      have := ih k (by simpa using h)
      rw [show glyCells (x :: r) = .int .i32 x.1 :: .int .i64 x.2 :: glyCells r from rfl, show (k + 1) * 2 = k * 2 + 1 + 1 by omega, show k * 2 + 1 + 1 + 1 = k * 2 + 1 + 1 + 1 from rfl]
      simpa using this
theorem infoGlyph : (Try.prog.info? 106).map (fun i => (i.zero, i.size, i.bytes)) = some (some (.agg #[.int .i32 0, .int .i64 0]), 2, 16) := by kernel_rfl

end Go.Proofs.Ytcpdadppblbndaa
