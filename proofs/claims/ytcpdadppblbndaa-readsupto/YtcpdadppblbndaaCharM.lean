/- The document's own answer: how many bytes the character has that begins at a place; may a name be so. The document's own answer: may a name be so. The document's own answer: is a list of nodes a term. -/
import Derived.Test.YtcpdadppblbndaaBase0M
namespace Go.Proofs.Ytcpdadppblbndaa
open Go.RowKit
set_option maxRecDepth 100000

/-- The byte at a place; 0 behind the end. -/
def byteD (s : ByteArray) (i : Nat) : Nat := if h : i < s.size then (s[i]'h).toNat else 0
theorem byteD_lt (s : ByteArray) (i : Nat) (h : i < s.size) : byteD s i = (s[i]'h).toNat := dif_pos h
/-- How many bytes a character has by its first; 0: it is none's. -/
def szN (b : Nat) : Nat := if b < 128 then 1 else if b < 194 then 0 else if b < 224 then 2 else if b < 240 then 3 else if b < 245 then 4 else 0
/-- Does a byte stand behind the first? -/
def contB (b : Nat) : Bool := decide (128 ≤ b) && decide (b ≤ 191)
/-- The second bytes that the first one bars. -/
def badB (b c : Nat) : Bool := (decide (b = 224) && decide (c < 160)) || (decide (b = 237) && decide (159 < c)) || (decide (b = 240) && decide (c < 144)) || (decide (b = 244) && decide (143 < c))
theorem bad_iff (b c : Nat) : badB b c = true ↔ (b = 224 ∧ c < 160) ∨ (b = 237 ∧ 159 < c) ∨ (b = 240 ∧ c < 144) ∨ (b = 244 ∧ 143 < c) := by
  simp [badB, or_assoc]
/-- How many bytes the character has that begins at a place (0: none does). -/
def charAt (s : ByteArray) (at' : Nat) : Nat :=
  let b := byteD s at'
  let z := szN b
  if z ≤ 1 then z
  else if s.size < at' + z then 0
  else if (List.range z).all (fun i => i == 0 || contB (byteD s (at' + i))) && !badB b (byteD s (at' + 1)) then z else 0
theorem charAt_one (s : ByteArray) (p : Nat) (h : szN (byteD s p) ≤ 1) : charAt s p = szN (byteD s p) := by simp [charAt, h]
theorem charAt_short (s : ByteArray) (p z : Nat) (hz : szN (byteD s p) = z) (h1 : ¬ z ≤ 1) (h : s.size < p + z) : charAt s p = 0 := by subst hz; simp [charAt, h1, h]
theorem charAt_not (s : ByteArray) (p z i : Nat) (hz : szN (byteD s p) = z) (h1 : ¬ z ≤ 1) (hi : 0 < i) (hiz : i < z) (hc : contB (byteD s (p + i)) = false) : charAt s p = 0 := by
  subst hz
  have : ((List.range (szN (byteD s p))).all (fun i => i == 0 || contB (byteD s (p + i)))) = false := by
    rw [Bool.eq_false_iff]
    intro h
    rw [List.all_eq_true] at h
    have := h i (by simpa using hiz)
    simp [hc] at this
    omega
  simp [charAt, h1, this]
theorem charAt_end (s : ByteArray) (p z : Nat) (hz : szN (byteD s p) = z) (h1 : ¬ z ≤ 1) (h : ¬ s.size < p + z) (hc : ∀ i, 0 < i → i < z → contB (byteD s (p + i)) = true) :
    charAt s p = if badB (byteD s p) (byteD s (p + 1)) then 0 else z := by
  subst hz
  have : ((List.range (szN (byteD s p))).all (fun i => i == 0 || contB (byteD s (p + i)))) = true := by
    rw [List.all_eq_true]
    intro i hi
    by_cases h0 : i = 0
    · simp [h0]
    · simp [hc i (by omega) (by simpa using hi)]
  simp only [charAt, if_neg h1, if_neg h, this, Bool.true_and]
  cases badB (byteD s p) (byteD s (p + 1)) <;> simp
theorem charAt_le (s : ByteArray) (p : Nat) (h : p < s.size) : p + charAt s p ≤ s.size := by
  by_cases h1 : szN (byteD s p) ≤ 1
  · rw [charAt_one s p h1]; omega
  · simp only [charAt, if_neg h1]
    split
    · omega
    · split <;> omega


set_option maxHeartbeats 400000 in
theorem char_1 (s : ByteArray) (p : Nat) (w : World) (hp : p < s.size) (h2 : byteD s p < 128) :
    Calls Try.prog 43 #[.string s, .int .i64 p] w fun e w' => e = .returned (.int .i64 (charAt s p)) ∧ w' = w := by
  have hz : szN (byteD s p) = 1 := by unfold szN; rw [if_pos h2]
  have HR := hide (charAt_one s p (by omega))
  have HZ := hide hz
  rw [byteD_lt s p hp] at h2
  clear hz
  have g2 : ((s[p]'hp).toNat : Int) < 128 := by omega
  go_enter Try.func43, Try.ntmps43
  go_wp2
  go_ret
  exact ⟨ret_int (by rw [HR.out, HZ.out]; rfl), rfl⟩

set_option maxHeartbeats 400000 in
theorem char_0 (s : ByteArray) (p : Nat) (w : World) (hp : p < s.size) (h2 : (128 ≤ byteD s p ∧ byteD s p < 194) ∨ 245 ≤ byteD s p) :
    Calls Try.prog 43 #[.string s, .int .i64 p] w fun e w' => e = .returned (.int .i64 (charAt s p)) ∧ w' = w := by
  have hz : szN (byteD s p) = 0 := by unfold szN; split <;> (try split) <;> (try split) <;> (try split) <;> (try split) <;> omega
  have HR := hide (charAt_one s p (by omega))
  have HZ := hide hz
  rw [byteD_lt s p hp] at h2
  clear hz
  have g2 : ((128 : Int) ≤ ((s[p]'hp).toNat : Int) ∧ ((s[p]'hp).toNat : Int) < 194) ∨ (245 : Int) ≤ ((s[p]'hp).toNat : Int) := by omega
  clear h2
  rcases g2 with ⟨g1, g2⟩ | g2
  all_goals
    go_enter Try.func43, Try.ntmps43
    go_wp2
    go_ret
    exact ⟨ret_int (by rw [HR.out, HZ.out]; rfl), rfl⟩

set_option maxHeartbeats 1000000 in
theorem char_2 (s : ByteArray) (p : Nat) (w : World) (hp : p < s.size) (hs : s.size ≤ 9223372036854775000) (h1 : 194 ≤ byteD s p) (h2 : byteD s p < 224) :
    Calls Try.prog 43 #[.string s, .int .i64 p] w fun e w' => e = .returned (.int .i64 (charAt s p)) ∧ w' = w := by
  have hz : szN (byteD s p) = 2 := by unfold szN; split <;> (try split) <;> (try split) <;> (try split) <;> (try split) <;> omega
  have HZ := hide hz
  have hb := byteD_lt s p hp
  have HB := hide hb
  rw [hb] at h1 h2
  clear hb hz
  have g1 : (194 : Int) ≤ ((s[p]'hp).toNat : Int) := by omega
  have g2 : ((s[p]'hp).toNat : Int) < 224 := by omega
  by_cases hsh : s.size < p + 2
  · have HR := hide (charAt_short s p 2 HZ.out (by omega) hsh)
    go_enter Try.func43, Try.ntmps43
    go_wp2
    go_ret
    exact ⟨ret_int (by rw [HR.out]; rfl), rfl⟩
  · go_enter Try.func43, Try.ntmps43
    go_wp2
    go_loop [7] (fun i => ∃ k : Nat, 1 ≤ k ∧ k ≤ 2 ∧ i = .int .i64 k ∧ ∀ j, 0 < j → j < k → contB (byteD s (p + j)) = true) (fun i => 2 - (intOf i).toNat)
    case atStart => exact ⟨1, by omega, by omega, rfl, fun j h1 h2 => by omega⟩
    case round =>
      obtain ⟨k, hk1, hk2, rfl, hc⟩ := hrel
      have HC := hide hc
      clear hc
      by_cases hlt : k < 2
      · have hpk : p + k < s.size := by omega
        have hbk := byteD_lt s (p + k) hpk
        have HBK := hide hbk
        clear hbk
        by_cases hco : 128 ≤ (s[p + k]'hpk).toNat ∧ (s[p + k]'hpk).toNat ≤ 191
        · obtain ⟨hc1, hc2⟩ := hco
          have hcz1 : (128 : Int) ≤ ((s[p + k]'hpk).toNat : Int) := by omega
          have hcz2 : ((s[p + k]'hpk).toNat : Int) ≤ 191 := by omega
          go_wp2
          go_round
          case rel =>
            refine ⟨k + 1, by omega, by omega, by go_num, fun j h1 h2 => ?_⟩
            by_cases hj : j = k
            · subst hj; rw [HBK.out]; simp [contB, hc1, hc2]
            · exact HC.out j h1 (by omega)
          case measure => simp [intOf]; omega
        · have HR := hide (charAt_not s p 2 k HZ.out (by omega) (by omega) hlt (by rw [HBK.out]; simp [contB]; omega))
          have hcz : ((s[p + k]'hpk).toNat : Int) < 128 ∨ (191 : Int) < ((s[p + k]'hpk).toNat : Int) := by omega
          clear hco
          rcases hcz with hcz | hcz
          all_goals
            go_wp2
            go_ret
            exact ⟨ret_int (by rw [HR.out]; rfl), rfl⟩
      · have hp1 : p + 1 < s.size := by omega
        have hkz : k = 2 := by omega
        have HR := hide (charAt_end s p 2 HZ.out (by omega) hsh (fun i h1 h2 => HC.out i h1 (by omega)))
        have HB1 := hide (byteD_lt s (p + 1) hp1)
        go_wp2
        all_goals
          go_ret
          refine ⟨ret_int ?_, rfl⟩
          rw [HR.out, HB.out, HB1.out]
          by_cases hbad : badB (s[p]'hp).toNat (s[p + 1]'hp1).toNat = true
          · rw [if_pos hbad]; rw [bad_iff] at hbad; first | rfl | (exfalso; omega)
          · rw [if_neg hbad]; rw [bad_iff] at hbad; first | rfl | (exfalso; omega)

set_option maxHeartbeats 1000000 in
theorem char_3 (s : ByteArray) (p : Nat) (w : World) (hp : p < s.size) (hs : s.size ≤ 9223372036854775000) (h1 : 224 ≤ byteD s p) (h2 : byteD s p < 240) :
    Calls Try.prog 43 #[.string s, .int .i64 p] w fun e w' => e = .returned (.int .i64 (charAt s p)) ∧ w' = w := by
  have hz : szN (byteD s p) = 3 := by unfold szN; split <;> (try split) <;> (try split) <;> (try split) <;> (try split) <;> omega
  have HZ := hide hz
  have hb := byteD_lt s p hp
  have HB := hide hb
  rw [hb] at h1 h2
  clear hb hz
  have g1 : (224 : Int) ≤ ((s[p]'hp).toNat : Int) := by omega
  have g2 : ((s[p]'hp).toNat : Int) < 240 := by omega
  by_cases hsh : s.size < p + 3
  · have HR := hide (charAt_short s p 3 HZ.out (by omega) hsh)
    go_enter Try.func43, Try.ntmps43
    go_wp2
    go_ret
    exact ⟨ret_int (by rw [HR.out]; rfl), rfl⟩
  · go_enter Try.func43, Try.ntmps43
    go_wp2
    go_loop [7] (fun i => ∃ k : Nat, 1 ≤ k ∧ k ≤ 3 ∧ i = .int .i64 k ∧ ∀ j, 0 < j → j < k → contB (byteD s (p + j)) = true) (fun i => 3 - (intOf i).toNat)
    case atStart => exact ⟨1, by omega, by omega, rfl, fun j h1 h2 => by omega⟩
    case round =>
      obtain ⟨k, hk1, hk2, rfl, hc⟩ := hrel
      have HC := hide hc
      clear hc
      by_cases hlt : k < 3
      · have hpk : p + k < s.size := by omega
        have hbk := byteD_lt s (p + k) hpk
        have HBK := hide hbk
        clear hbk
        by_cases hco : 128 ≤ (s[p + k]'hpk).toNat ∧ (s[p + k]'hpk).toNat ≤ 191
        · obtain ⟨hc1, hc2⟩ := hco
          have hcz1 : (128 : Int) ≤ ((s[p + k]'hpk).toNat : Int) := by omega
          have hcz2 : ((s[p + k]'hpk).toNat : Int) ≤ 191 := by omega
          go_wp2
          go_round
          case rel =>
            refine ⟨k + 1, by omega, by omega, by go_num, fun j h1 h2 => ?_⟩
            by_cases hj : j = k
            · subst hj; rw [HBK.out]; simp [contB, hc1, hc2]
            · exact HC.out j h1 (by omega)
          case measure => simp [intOf]; omega
        · have HR := hide (charAt_not s p 3 k HZ.out (by omega) (by omega) hlt (by rw [HBK.out]; simp [contB]; omega))
          have hcz : ((s[p + k]'hpk).toNat : Int) < 128 ∨ (191 : Int) < ((s[p + k]'hpk).toNat : Int) := by omega
          clear hco
          rcases hcz with hcz | hcz
          all_goals
            go_wp2
            go_ret
            exact ⟨ret_int (by rw [HR.out]; rfl), rfl⟩
      · have hp1 : p + 1 < s.size := by omega
        have hkz : k = 3 := by omega
        have HR := hide (charAt_end s p 3 HZ.out (by omega) hsh (fun i h1 h2 => HC.out i h1 (by omega)))
        have HB1 := hide (byteD_lt s (p + 1) hp1)
        go_wp2
        all_goals
          go_ret
          refine ⟨ret_int ?_, rfl⟩
          rw [HR.out, HB.out, HB1.out]
          by_cases hbad : badB (s[p]'hp).toNat (s[p + 1]'hp1).toNat = true
          · rw [if_pos hbad]; rw [bad_iff] at hbad; first | rfl | (exfalso; omega)
          · rw [if_neg hbad]; rw [bad_iff] at hbad; first | rfl | (exfalso; omega)

set_option maxHeartbeats 1000000 in
theorem char_4 (s : ByteArray) (p : Nat) (w : World) (hp : p < s.size) (hs : s.size ≤ 9223372036854775000) (h1 : 240 ≤ byteD s p) (h2 : byteD s p < 245) :
    Calls Try.prog 43 #[.string s, .int .i64 p] w fun e w' => e = .returned (.int .i64 (charAt s p)) ∧ w' = w := by
  have hz : szN (byteD s p) = 4 := by unfold szN; split <;> (try split) <;> (try split) <;> (try split) <;> (try split) <;> omega
  have HZ := hide hz
  have hb := byteD_lt s p hp
  have HB := hide hb
  rw [hb] at h1 h2
  clear hb hz
  have g1 : (240 : Int) ≤ ((s[p]'hp).toNat : Int) := by omega
  have g2 : ((s[p]'hp).toNat : Int) < 245 := by omega
  by_cases hsh : s.size < p + 4
  · have HR := hide (charAt_short s p 4 HZ.out (by omega) hsh)
    go_enter Try.func43, Try.ntmps43
    go_wp2
    go_ret
    exact ⟨ret_int (by rw [HR.out]; rfl), rfl⟩
  · go_enter Try.func43, Try.ntmps43
    go_wp2
    go_loop [7] (fun i => ∃ k : Nat, 1 ≤ k ∧ k ≤ 4 ∧ i = .int .i64 k ∧ ∀ j, 0 < j → j < k → contB (byteD s (p + j)) = true) (fun i => 4 - (intOf i).toNat)
    case atStart => exact ⟨1, by omega, by omega, rfl, fun j h1 h2 => by omega⟩
    case round =>
      obtain ⟨k, hk1, hk2, rfl, hc⟩ := hrel
      have HC := hide hc
      clear hc
      by_cases hlt : k < 4
      · have hpk : p + k < s.size := by omega
        have hbk := byteD_lt s (p + k) hpk
        have HBK := hide hbk
        clear hbk
        by_cases hco : 128 ≤ (s[p + k]'hpk).toNat ∧ (s[p + k]'hpk).toNat ≤ 191
        · obtain ⟨hc1, hc2⟩ := hco
          have hcz1 : (128 : Int) ≤ ((s[p + k]'hpk).toNat : Int) := by omega
          have hcz2 : ((s[p + k]'hpk).toNat : Int) ≤ 191 := by omega
          go_wp2
          go_round
          case rel =>
            refine ⟨k + 1, by omega, by omega, by go_num, fun j h1 h2 => ?_⟩
            by_cases hj : j = k
            · subst hj; rw [HBK.out]; simp [contB, hc1, hc2]
            · exact HC.out j h1 (by omega)
          case measure => simp [intOf]; omega
        · have HR := hide (charAt_not s p 4 k HZ.out (by omega) (by omega) hlt (by rw [HBK.out]; simp [contB]; omega))
          have hcz : ((s[p + k]'hpk).toNat : Int) < 128 ∨ (191 : Int) < ((s[p + k]'hpk).toNat : Int) := by omega
          clear hco
          rcases hcz with hcz | hcz
          all_goals
            go_wp2
            go_ret
            exact ⟨ret_int (by rw [HR.out]; rfl), rfl⟩
      · have hp1 : p + 1 < s.size := by omega
        have hkz : k = 4 := by omega
        have HR := hide (charAt_end s p 4 HZ.out (by omega) hsh (fun i h1 h2 => HC.out i h1 (by omega)))
        have HB1 := hide (byteD_lt s (p + 1) hp1)
        go_wp2
        all_goals
          go_ret
          refine ⟨ret_int ?_, rfl⟩
          rw [HR.out, HB.out, HB1.out]
          by_cases hbad : badB (s[p]'hp).toNat (s[p + 1]'hp1).toNat = true
          · rw [if_pos hbad]; rw [bad_iff] at hbad; first | rfl | (exfalso; omega)
          · rw [if_neg hbad]; rw [bad_iff] at hbad; first | rfl | (exfalso; omega)

theorem char_any (s : ByteArray) (p : Nat) (w : World) (hp : p < s.size) (hs : s.size ≤ 9223372036854775000) :
    Calls Try.prog 43 #[.string s, .int .i64 p] w fun e w' => e = .returned (.int .i64 (charAt s p)) ∧ w' = w := by
  rcases (show byteD s p < 128 ∨ ((128 ≤ byteD s p ∧ byteD s p < 194) ∨ 245 ≤ byteD s p) ∨ (194 ≤ byteD s p ∧ byteD s p < 224) ∨ (224 ≤ byteD s p ∧ byteD s p < 240) ∨ (240 ≤ byteD s p ∧ byteD s p < 245) by omega) with h | h | h | h | h
  · exact char_1 s p w hp h
  · exact char_0 s p w hp h
  · exact char_2 s p w hp hs h.1 h.2
  · exact char_3 s p w hp hs h.1 h.2
  · exact char_4 s p w hp hs h.1 h.2

end Go.Proofs.Ytcpdadppblbndaa

namespace Go.Proofs.Ytcpdadppblbndaa
open Go.RowKit
set_option maxRecDepth 100000

/-- The characters from a place on, behind some: are they a name's? -/
def nameGo (s : ByteArray) : Nat → Nat → Nat → Bool
  | 0, _, m => decide (1 ≤ m) && decide (m ≤ 20)
  | f + 1, p, m => if p < s.size then (if charAt s p = 0 ∨ byteD s p = 10 then false else nameGo s f (p + charAt s p) (m + 1)) else decide (1 ≤ m) && decide (m ≤ 20)
/-- May a name be so? -/
def isNameL (s : ByteArray) : Bool := nameGo s s.size 0 0
theorem nameGo_end (s : ByteArray) (f p m : Nat) (h : ¬ p < s.size) : nameGo s f p m = (decide (1 ≤ m) && decide (m ≤ 20)) := by
  cases f with
  | zero => rfl
  | succ f => simp [nameGo, h]
theorem nameGo_bad (s : ByteArray) (f p m : Nat) (h : p < s.size) (hf : s.size - p ≤ f) (hb : charAt s p = 0 ∨ byteD s p = 10) : nameGo s f p m = false := by
  obtain ⟨g, rfl⟩ : ∃ g, f = g + 1 := ⟨f - 1, by omega⟩
  simp only [nameGo, if_pos h, if_pos hb]
theorem nameGo_on (s : ByteArray) (f p m : Nat) (h : p < s.size) (hf : s.size - p ≤ f) (hb : ¬ (charAt s p = 0 ∨ byteD s p = 10)) :
    ∃ g, s.size - (p + charAt s p) ≤ g ∧ nameGo s f p m = nameGo s g (p + charAt s p) (m + 1) := by
  obtain ⟨g, rfl⟩ : ∃ g, f = g + 1 := ⟨f - 1, by omega⟩
  refine ⟨g, by omega, ?_⟩
  simp only [nameGo, if_pos h, if_neg hb]

set_option maxHeartbeats 400000 in
theorem rIsName_any (s : ByteArray) (w : World) (hs : s.size ≤ 9223372036854775000) :
    Calls Try.prog 42 #[.string s] w fun e w' => e = .returned (.bool (isNameL s)) ∧ w' = w := by
  go_enter Try.func42, Try.ntmps42
  go_wp2
  go_loop [3, 4] (fun q i => ∃ p m f : Nat, p ≤ s.size ∧ m ≤ p ∧ i = .int .i64 p ∧ q = .int .i64 m ∧ s.size - p ≤ f ∧ isNameL s = nameGo s f p m) (fun _ i => s.size - (intOf i).toNat)
  case atStart => exact ⟨0, 0, s.size, by omega, by omega, rfl, rfl, by omega, rfl⟩
  case round =>
    obtain ⟨p, m, f, hp, hm, rfl, rfl, hf, hg⟩ := hrel
    by_cases hlt : p < s.size
    · have cC := char_any s p w hlt hs
      have hle := charAt_le s p hlt
      have hb := byteD_lt s p hlt
      by_cases h0 : charAt s p = 0
      · rw [nameGo_bad s f p m hlt hf (Or.inl h0)] at hg
        rw [h0] at cC
        have HG := hide hg
        clear hg hb h0 hle
        go_wp2_with (go_at_call 43; refine cC.mono ?_; rintro e w' ⟨rfl, rfl⟩)
        go_ret
        exact ⟨ret_bool HG.out.symm, rfl⟩
      · generalize hn : charAt s p = n at *
        have hz : ((n : Int) == 0) = false := by rw [beq_eq_false_iff_ne]; omega
        by_cases h10 : byteD s p = 10
        · rw [nameGo_bad s f p m hlt hf (Or.inr h10)] at hg
          have HG := hide hg
          rw [h10] at hb
          have hc : ((s[p]'hlt).toNat : Int) = 10 := by omega
          have hce : (((s[p]'hlt).toNat : Int) == 10) = true := by rw [beq_iff_eq]; exact hc
          clear hg hb hn hc
          go_wp2_with (go_at_call 43; refine cC.mono ?_; rintro e w' ⟨rfl, rfl⟩)
          go_ret
          exact ⟨ret_bool HG.out.symm, rfl⟩
        · obtain ⟨g, hg1, hg2⟩ := nameGo_on s f p m hlt hf (by rw [hn]; omega)
          rw [hn] at hg1 hg2
          rw [hg2] at hg
          have HG := hide hg
          have hce : (((s[p]'hlt).toNat : Int) == 10) = false := by rw [beq_eq_false_iff_ne]; omega
          clear hg hb hn hg2 h10
          go_wp2_with (go_at_call 43; refine cC.mono ?_; rintro e w' ⟨rfl, rfl⟩)
          go_round
          case rel => exact ⟨p + n, m + 1, g, by omega, by omega, by go_num, by go_num, by omega, HG.out⟩
          case measure => simp [intOf]; omega
    · rw [nameGo_end s f p m hlt] at hg
      have HG := hide hg
      clear hg
      go_wp2
      all_goals
        go_ret
        refine ⟨ret_bool ?_, rfl⟩
        rw [HG.out, Bool.eq_iff_iff]
        simp
        omega

end Go.Proofs.Ytcpdadppblbndaa

namespace Go.Proofs.Ytcpdadppblbndaa
open Go.RowKit
set_option maxRecDepth 100000

/-- Is a node a variable? -/
def varB (n : Nd) : Bool := n.1.toList.isEmpty
/-- May a node stand in a term? -/
def nodeOk (n : Nd) : Bool := if varB n then decide (0 ≤ n.2) && decide (n.2 < 60) else isNameL n.1 && (decide (0 ≤ n.2) && decide (n.2 ≤ 5))
/-- How many terms are wanted behind a node. -/
def wants (n : Nd) : Nat := if varB n then 0 else n.2.toNat
/-- Nodes, where so many terms are wanted: are they just these? -/
def termGo : List Nd → Nat → Bool
  | [], q => decide (q = 0)
  | n :: r, q => if q = 0 then false else if nodeOk n then termGo r (q - 1 + wants n) else false
/-- Is a list of nodes a term, of a size that may be? -/
def isTermL (l : List Nd) : Bool := termGo l 1 && decide (l.length ≤ 60)
theorem termGo_zero (l : List Nd) (k : Nat) (h : k < l.length) : termGo (l.drop k) 0 = false := by
  rw [List.drop_eq_getElem_cons h]; simp [termGo]
theorem termGo_bad (l : List Nd) (k q : Nat) (h : k < l.length) (hb : nodeOk l[k] = false) : termGo (l.drop k) q = false := by
  rw [List.drop_eq_getElem_cons h]; simp [termGo, hb]
theorem termGo_on (l : List Nd) (k q : Nat) (h : k < l.length) (hq : q ≠ 0) (hb : nodeOk l[k] = true) : termGo (l.drop k) q = termGo (l.drop (k + 1)) (q - 1 + wants l[k]) := by
  rw [List.drop_eq_getElem_cons h]; simp [termGo, hb, hq]

end Go.Proofs.Ytcpdadppblbndaa
