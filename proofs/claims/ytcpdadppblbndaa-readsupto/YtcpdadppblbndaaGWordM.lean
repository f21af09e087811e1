/- The program's scanner: a word. Pure: a name between signs, by characters. -/
import Derived.Test.YtcpdadppblbndaaGScan0M
import Derived.Laws.Cover4
import Derived.Deep.RegionHeld3
import Derived.Lib.MapLaws
namespace Go.Proofs.Ytcpdadppblbndaa
open Go.RowKit
set_option maxRecDepth 100000

theorem infoRune : (Try.prog.info? 21).map (fun i => (i.zero, i.size, i.bytes)) = some (some (.int .i32 0), 1, 4) := by kernel_rfl
theorem one32 (x : Int) : ∀ u ∈ [Value.int .i32 x], u.oneCell' = true := by
  intro u hu
  simp at hu
  subst hu
  rfl
theorem encode_low (b : Nat) (h : b < 128) : Utf8.encode (b : Int) = ⟨#[UInt8.ofNat b]⟩ := by
  have hv : Utf8.valid (b : Int) = true := by rw [validRune_eq]; unfold validRune; simp; omega
  unfold Utf8.encode
  simp [hv, h]
theorem runesBytes_snoc (l : List Int) (r : Int) : runesBytes (l ++ [r]) = runesBytes l ++ Utf8.encode r := by
  unfold runesBytes
  rw [List.foldl_append]
  rfl
theorem extract_snoc (s : ByteArray) (p q : Nat) (hpq : p ≤ q) (hq : q < s.size) : s.extract p (q + 1) = s.extract p q ++ ⟨#[UInt8.ofNat (byteD s q)]⟩ := by
  have h1 : s.extract q (q + 1) = ⟨#[UInt8.ofNat (byteD s q)]⟩ := by
    rw [byteD_lt s q hq]
    apply ByteArray.ext
    rw [ByteArray.data_extract]
    apply Array.ext
    · simp; have : q < s.data.size := hq; omega
    · intro i h1 h2
      simp at h2
      subst h2
      simp
      rfl
  rw [← h1]
  apply ByteArray.ext
  simp only [ByteArray.data_append, ByteArray.data_extract]
  rw [Array.extract_append_extract]
  congr 1
  · omega
  · omega
/-- The letters from a place on, as runes. -/
def wordR (s : ByteArray) (p q : Nat) : List Int := (List.range q).map fun i => (byteD s (p + i) : Int)
theorem wordR_succ (s : ByteArray) (p q : Nat) : wordR s p (q + 1) = wordR s p q ++ [(byteD s (p + q) : Int)] := by simp [wordR, List.range_succ]
theorem wordR_bytes (s : ByteArray) (p : Nat) : ∀ q, p + q ≤ s.size → (∀ i, i < q → byteD s (p + i) < 128) → runesBytes (wordR s p q) = s.extract p (p + q) := by
  intro q
  induction q with
  | zero =>
    intro _ _
    have : s.extract p (p + 0) = ByteArray.empty := by
      apply ByteArray.ext
      rw [ByteArray.data_extract]
      apply Array.ext
      · simp; omega
      · intro i h1 h2; simp at h2
    rw [this]
    rfl
  | succ q ih =>
    intro h1 h2
    rw [wordR_succ, runesBytes_snoc, ih (by omega) (fun i hi => h2 i (by omega)), encode_low _ (h2 q (by omega)), ← extract_snoc s p (p + q) (by omega) (by omega)]
    rfl
theorem inside_low (c : Nat) (h : insideB (c : Int) = true) : c < 128 := by
  simp only [insideB, smallB, largeB, digitB, Bool.or_eq_true, Bool.and_eq_true, decide_eq_true_eq, beq_iff_eq] at h
  omega
theorem inside_gch (s : ByteArray) (p : Nat) : insideB (gch s p) = (decide (p < s.size) && insideB (byteD s p)) := by
  by_cases h : p < s.size
  · by_cases hb : byteD s p < 128
    · rw [(gch_low s p h hb).1]; simp [h]
    · have h2 : insideB (byteD s p : Int) = false := by
        cases hi : insideB (byteD s p : Int)
        · rfl
        · exact absurd (inside_low _ hi) hb
      rw [h2]
      rcases gch_high s p h (by omega) with e | e
      · rw [e]; simp; decide
      · have : insideB (gch s p) = false := by
          simp only [insideB, smallB, largeB, digitB, Bool.or_eq_false_iff, Bool.and_eq_false_iff, decide_eq_false_iff_not, beq_eq_false_iff_ne]
          omega
        rw [this]; simp
  · rw [gch_end s p h]; simp [h]; decide
section
variable {B : Nat} {pb : Nat} {s : ByteArray} {p g j m c : Nat} {k a : Int} {wd : ByteArray} {vC vP vM : Value}
/-- Some letters on. -/
theorem ScIn.letters {w : World} (h : ScIn B w pb s p g j m c k a wd vC vP vM) : ∀ q, p + q ≤ s.size → (∀ i, i < q → byteD s (p + i) < 128) → (glyL s 0).drop (j + q) = glyL s (p + q) ∧ q ≤ m := by
  intro q
  induction q with
  | zero => intro _ _; exact ⟨h.drop, Nat.zero_le _⟩
  | succ q ih =>
    intro h1 h2
    obtain ⟨i1, i2⟩ := ih (by omega) (fun i hi => h2 i (by omega))
    have hw := (gch_low s (p + q) (by omega) (h2 q (by omega))).2
    unfold gwd at hw
    have hd : (glyL s 0).drop (j + (q + 1)) = glyL s (p + (q + 1)) := by
      have e : (glyL s 0).drop (j + (q + 1)) = ((glyL s 0).drop (j + q)).drop 1 := by rw [List.drop_drop]; rfl
      rw [e, i1, glyL_on (by omega), hw]
      rfl
    refine ⟨hd, ?_⟩
    have := congrArg List.length hd
    rw [List.length_drop, h.len] at this
    have h3 := (glyL_len s _ (p + (q + 1)) (Nat.le_refl _)).1
    omega
theorem ScIn.cells {w : World} (h : ScIn B w pb s p g j m c k a wd vC vP vM) (q p' : Nat) (hd : (glyL s 0).drop (j + q) = glyL s p') (hp' : p' ≤ s.size) (hq : q ≤ m) : w.cell? ⟨g, j * 2 + q * 2, none⟩ = some (.int .i32 (gch s p')) ∧ w.cell? ⟨g, j * 2 + q * 2 + 1, none⟩ = some (.int .i64 p') := by
  obtain ⟨r, hr⟩ := glyL_first s p' hp'
  have hl := h.len
  have hj : j + q < (glyL s 0).length := by omega
  have he : (glyL s 0)[j + q] = (gch s p', p') := by
    have h1 : ((glyL s 0).drop (j + q))[0]? = some (gch s p', p') := by rw [hd, hr]; rfl
    rw [List.getElem?_drop, List.getElem?_eq_getElem (by omega)] at h1
    simpa using h1
  obtain ⟨q1, q2⟩ := glyCells_at (glyL s 0) (j + q) hj
  rw [he] at q1 q2
  rw [show (j + q) * 2 = j * 2 + q * 2 by omega] at q1 q2
  exact ⟨by rw [h.row.cellAt _ (by omega), q1], by rw [h.row.cellAt _ (by omega), q2]⟩
/-- What stands behind q characters. -/
theorem ScIn.jump {w : World} (q p' m' c' : Nat) (h : ScIn B w pb s p g j (m' + q) (c' + q) k a wd vC vP vM) (hd : (glyL s 0).drop (j + q) = glyL s p') (hp' : p' ≤ s.size) : ScIn B (w.setCell ⟨pb, 0, none⟩ (.slice (some ⟨g, j * 2 + q * 2, none⟩) (m' + 1) (c' + 1))) pb s p' g (j + q) m' c' k a wd vC vP vM := by
  rw [show j * 2 + q * 2 = (j + q) * 2 by omega]
  refine ⟨h.box.set0 _, h.high, ?_, by have := h.len; omega, hd, hp'⟩
  have := h.box.row h.row (by decide) 0 (.slice (some ⟨g, (j + q) * 2, none⟩) (m' + 1) (c' + 1))
  rw [show j + q + m' + 1 = j + (m' + q) + 1 by omega, show j + q + c' + 1 = j + (c' + q) + 1 by omega]
  exact this
theorem ScIn.mc {w : World} (h : ScIn B w pb s p g j m c k a wd vC vP vM) : m ≤ c := by
  obtain ⟨_, hr⟩ := h.row
  rcases hr with ⟨e, _⟩ | ⟨g', cap, cur, e, _, _, hc, _⟩
  · simp at e
  · simp at e
    obtain ⟨_, rfl⟩ := e
    omega
end

end Go.Proofs.Ytcpdadppblbndaa

namespace Go.Proofs.Ytcpdadppblbndaa
open Go.RowKit
set_option maxRecDepth 100000

/-- A character is told by its own bytes. -/
theorem charAt_local {s n : ByteArray} {q p : Nat} (hc : charAt s q ≠ 0) (hp : p + charAt s q ≤ n.size) (hb : ∀ i, i < charAt s q → byteD n (p + i) = byteD s (q + i)) : charAt n p = charAt s q := by
  have hb0 := hb 0 (by omega)
  simp only [Nat.add_zero] at hb0
  by_cases h1 : szN (byteD s q) ≤ 1
  · rw [charAt_one s q h1] at hc ⊢
    rw [charAt_one n p (by rw [hb0]; exact h1), hb0]
  · obtain ⟨z, hz⟩ : ∃ z, szN (byteD s q) = z := ⟨_, rfl⟩
    have h4 : z ≤ 4 := by rw [← hz]; unfold szN; split <;> (try split) <;> (try split) <;> (try split) <;> (try split) <;> omega
    have e1 := charAt_N s q z hz (by omega) h4
    have e2 := charAt_N n p z (by rw [hb0]; exact hz) (by omega) h4
    rw [e1] at hc
    split at hc
    · exact absurd rfl hc
    · rename_i hcond
      rw [if_neg hcond] at e1
      rw [e1] at hp hb ⊢
      rw [e2, if_neg]
      intro h
      apply hcond
      have b1 := hb 1 (by omega)
      rcases h with h | h | h | h | h
      · omega
      · right; left; rw [← b1]; exact h
      · right; right; left; exact ⟨h.1, by rw [← hb 2 (by omega)]; exact h.2⟩
      · right; right; right; left; exact ⟨h.1, by rw [← hb 3 (by omega)]; exact h.2⟩
      · right; right; right; right; rw [← hb0, ← b1]; exact h
/-- So many characters, none of them the end of a line, from a place to a place. -/
inductive CsTo (n : ByteArray) : Nat → Nat → Nat → Prop
  | done (p : Nat) : CsTo n p p 0
  | step {p e k : Nat} : p < n.size → charAt n p ≠ 0 → byteD n p ≠ 10 → CsTo n (p + charAt n p) e k → CsTo n p e (k + 1)
theorem CsTo.name {n : ByteArray} {p e k : Nat} (h : CsTo n p e k) (he : e = n.size) : ∀ f m, n.size - p ≤ f → nameGo n f p m = (decide (1 ≤ m + k) && decide (m + k ≤ 20)) := by
  induction h with
  | done p => intro f m _; rw [nameGo_end n f p m (by omega)]; rfl
  | @step p e k h1 h2 h3 _ ih =>
    intro f m hf
    obtain ⟨g, hg, e1⟩ := nameGo_on n f p m h1 hf (fun h => h.elim h2 h3)
    rw [e1, ih he g (m + 1) hg, show m + 1 + k = m + (k + 1) by omega]
theorem byteD_append (a b : ByteArray) (i : Nat) : byteD (a ++ b) i = if i < a.size then byteD a i else byteD b (i - a.size) := by
  rw [byteD_getD, byteD_getD, byteD_getD]
  have : (a ++ b).data.toList = a.data.toList ++ b.data.toList := by rw [ByteArray.data_append, Array.toList_append]
  rw [this, size_data]
  by_cases h : i < a.data.toList.length
  · rw [if_pos h, List.getD_eq_getElem?_getD, List.getD_eq_getElem?_getD, List.getElem?_append_left h]
  · rw [if_neg h, List.getD_eq_getElem?_getD, List.getD_eq_getElem?_getD, List.getElem?_append_right (by omega)]
theorem CsTo.grow {n x : ByteArray} {p e k : Nat} (h : CsTo n p e k) (he : e ≤ n.size) : CsTo (n ++ x) p e k := by
  induction h with
  | done p => exact .done p
  | @step p e k h1 h2 h3 _ ih =>
    have hle := charAt_le n p h1
    have hc : charAt (n ++ x) p = charAt n p := charAt_local h2 (by rw [ByteArray.size_append]; omega) (fun i hi => by rw [byteD_append, if_pos (by omega)])
    refine .step (by rw [ByteArray.size_append]; omega) (by rw [hc]; exact h2) (by rw [byteD_append, if_pos h1]; exact h3) ?_
    rw [hc]
    exact ih he
theorem CsTo.snoc {n : ByteArray} {p e k : Nat} (h : CsTo n p e k) (he : e < n.size) (hc : charAt n e ≠ 0) (hb : byteD n e ≠ 10) : CsTo n p (e + charAt n e) (k + 1) := by
  induction h with
  | done p => exact .step he hc hb (.done _)
  | step h1 h2 h3 _ ih => exact .step h1 h2 h3 (ih he hc hb)
/-- A character of a text is put behind. -/
theorem CsTo.char {n s : ByteArray} {k q : Nat} (h : CsTo n 0 n.size k) (hq : q < s.size) (hc : charAt s q ≠ 0) (hb : byteD s q ≠ 10) : CsTo (n ++ s.extract q (q + charAt s q)) 0 (n ++ s.extract q (q + charAt s q)).size (k + 1) := by
  have hle := charAt_le s q hq
  have hsz : (s.extract q (q + charAt s q)).size = charAt s q := by rw [ByteArray.size_extract]; omega
  have hx : ∀ i, i < charAt s q → byteD (n ++ s.extract q (q + charAt s q)) (n.size + i) = byteD s (q + i) := by
    intro i hi
    rw [byteD_append, if_neg (by omega), show n.size + i - n.size = i by omega, byteD_lt _ i (by omega), byteD_lt s (q + i) (by omega)]
    rw [ByteArray.getElem_extract]
  have e1 : charAt (n ++ s.extract q (q + charAt s q)) n.size = charAt s q := charAt_local hc (by rw [ByteArray.size_append, hsz]; omega) hx
  have h0 := hx 0 (by omega)
  simp only [Nat.add_zero] at h0
  have := (h.grow (x := s.extract q (q + charAt s q)) (Nat.le_refl _)).snoc (by rw [ByteArray.size_append, hsz]; omega) (by rw [e1]; exact hc) (by rw [h0]; exact hb)
  rw [e1] at this
  rw [ByteArray.size_append, hsz]
  exact this
theorem encode_Z (n : Nat) (hv : Utf8.valid (n : Int) = true) : (Utf8.encode (n : Int)).data.toList = Lib.encodeRune (n : Int) := by
  have hv' := hv
  rw [validRune_eq] at hv'
  unfold validRune at hv'
  rw [decide_eq_true_eq] at hv'
  unfold Lib.encodeRune Utf8.encode
  simp only [hv, if_true, Int.toNat_natCast]
  by_cases h1 : n < 128
  · rw [if_pos h1, Lib.encodeRuneZ_one (by omega) (by omega)]
    rfl
  · rw [if_neg h1]
    by_cases h2 : n < 2048
    · rw [if_pos h2, Lib.encodeRuneZ_two (by omega) (by omega)]
      have a : (192 + (n : Int) / 64).toNat = 192 + n / 64 := by omega
      have b : (128 + (n : Int) % 64).toNat = 128 + n % 64 := by omega
      simp only [List.map_cons, List.map_nil, a, b]
    · rw [if_neg h2]
      by_cases h3 : n < 65536
      · rw [if_pos h3, Lib.encodeRuneZ_three (by omega)]
        have a : (224 + (n : Int) / 4096).toNat = 224 + n / 4096 := by omega
        have b : (128 + (n : Int) / 64 % 64).toNat = 128 + n / 64 % 64 := by omega
        have c : (128 + (n : Int) % 64).toNat = 128 + n % 64 := by omega
        simp only [List.map_cons, List.map_nil, a, b, c]
      · rw [if_neg h3, Lib.encodeRuneZ_four (by omega) (by omega)]
        have a : (240 + (n : Int) / 262144).toNat = 240 + n / 262144 := by omega
        have b : (128 + (n : Int) / 4096 % 64).toNat = 128 + n / 4096 % 64 := by omega
        have c : (128 + (n : Int) / 64 % 64).toNat = 128 + n / 64 % 64 := by omega
        have d : (128 + (n : Int) % 64).toNat = 128 + n % 64 := by omega
        simp only [List.map_cons, List.map_nil, a, b, c, d]
/-- A character, written again. -/
theorem encode_gch (s : ByteArray) (q : Nat) (hq : q < s.size) (h : gch s q ≠ -2) : Utf8.encode (gch s q) = s.extract q (q + gwd s q) ∧ charAt s q = gwd s q := by
  have hv : ¬ ((Utf8.decode s q).1 = 65533 ∧ (Utf8.decode s q).2 = 1) := by
    intro e
    apply h
    unfold gch glyC
    rw [if_pos hq, if_pos e]
  have hg : gch s q = ((Utf8.decode s q).1 : Int) := by unfold gch glyC; rw [if_pos hq, if_neg hv]
  have hne : s.data.toList.drop q ≠ [] := by
    intro h
    have := congrArg List.length h
    simp only [List.length_drop, ← size_data, List.length_nil] at this
    omega
  have hen := Lib.encode_decode (s.data.toList.drop q) hne (by rw [Lib.decodeL_drop]; exact hv)
  rw [Lib.decodeL_drop] at hen
  have hin := gwd_in s q hq
  refine ⟨?_, by rw [char_decode s q hq]; unfold chN; rw [if_neg hv]; rfl⟩
  rw [hg]
  apply ByteArray.ext
  apply Array.toList_inj.1
  have hok := gch_ok s q
  have hval : Utf8.valid ((Utf8.decode s q).1 : Int) = true := by
    rcases hok with e | e | e
    · exact absurd e (gch_ne_end s q hq)
    · exact absurd e h
    · rw [← hg]; exact e
  have : (Utf8.encode ((Utf8.decode s q).1 : Int)).data.toList = Lib.encodeRune ((Utf8.decode s q).1 : Int) := encode_Z _ hval
  rw [this, hen, ByteArray.data_extract, Array.toList_extract]
  simp [gwd]

/-- A name's bytes, and a character more. -/
structure NmOk (rs : List Int) : Prop where
  cs : CsTo (runesBytes rs) 0 (runesBytes rs).size rs.length
theorem NmOk.nil : NmOk [] := ⟨.done _⟩
theorem NmOk.name {rs : List Int} (h : NmOk rs) : isNameL (runesBytes rs) = (decide (1 ≤ rs.length) && decide (rs.length ≤ 20)) := by
  unfold isNameL
  rw [h.cs.name rfl _ 0 (by omega)]
  simp
theorem NmOk.more {rs : List Int} {s : ByteArray} {q : Nat} (h : NmOk rs) (hq : q < s.size) (h2 : gch s q ≠ -2) (h10 : gch s q ≠ 10) : NmOk (rs ++ [gch s q]) := by
  obtain ⟨e1, e2⟩ := encode_gch s q hq h2
  have hw := gwd_pos s q
  refine ⟨?_⟩
  rw [runesBytes_snoc, e1, ← e2, List.length_append, List.length_singleton]
  exact h.cs.char hq (by omega) (fun e => h10 ((gch_iff s q hq 10 (by omega)).2 e))
section
variable {s : ByteArray} {rs : List Int} {f q : Nat}
theorem quo_end (hf : s.size ≤ q + f) (h : gch s q = 39) : q < s.size ∧ quoGo s f (runesBytes rs) q = if isNameL (runesBytes rs) then some (runesBytes rs, q + 1) else none := by
  have hlt : q < s.size := Classical.byContradiction fun hn => by rw [gch_end s q hn] at h; omega
  obtain ⟨f', rfl⟩ : ∃ f', f = f' + 1 := ⟨f - 1, by omega⟩
  refine ⟨hlt, ?_⟩
  rw [quoGo, if_pos hlt, if_pos ((gch_iff s q hlt 39 (by omega)).1 h)]
theorem quo_none (hf : s.size ≤ q + f) (h39 : gch s q ≠ 39) (h92 : gch s q ≠ 92) (h : gch s q = 10 ∨ gch s q = -2 ∨ gch s q = -1) : quoGo s f (runesBytes rs) q = none := by
  by_cases hlt : q < s.size
  · obtain ⟨f', rfl⟩ : ∃ f', f = f' + 1 := ⟨f - 1, by omega⟩
    rw [quoGo, if_pos hlt, if_neg (fun e => h39 ((gch_iff s q hlt 39 (by omega)).2 e)), if_neg (fun e => h92 ((gch_iff s q hlt 92 (by omega)).2 e)), if_pos]
    rcases h with h | h | h
    · exact Or.inr ((gch_iff s q hlt 10 (by omega)).1 h)
    · left
      unfold gch glyC at h
      rw [if_pos hlt] at h
      rw [char_decode s q hlt]
      unfold chN
      split at h
      · rename_i e; rw [if_pos e]
      · omega
    · exact absurd h (gch_ne_end s q hlt)
  · cases f with
    | zero => rfl
    | succ f => rw [quoGo, if_neg hlt]
theorem quo_char (hlt : q < s.size) (h39 : gch s q ≠ 39) (h92 : gch s q ≠ 92) (h10 : gch s q ≠ 10) (h2 : gch s q ≠ -2) : quoGo s (f + 1) (runesBytes rs) q = quoGo s f (runesBytes (rs ++ [gch s q])) (q + gwd s q) := by
  obtain ⟨e1, e2⟩ := encode_gch s q hlt h2
  have hw := gwd_pos s q
  rw [quoGo, if_pos hlt, if_neg (fun e => h39 ((gch_iff s q hlt 39 (by omega)).2 e)), if_neg (fun e => h92 ((gch_iff s q hlt 92 (by omega)).2 e)), if_neg, runesBytes_snoc, e1, e2]
  rintro (h | h)
  · omega
  · exact h10 ((gch_iff s q hlt 10 (by omega)).2 h)
theorem quo_esc (hlt : q < s.size) (h92 : gch s q = 92) : quoGo s (f + 1) (runesBytes rs) q = if escI (gch s (q + 1)) = true then quoGo s f (runesBytes (rs ++ [gch s (q + 1)])) (q + 2) else none := by
  have hb := (gch_iff s q hlt 92 (by omega)).1 h92
  rw [quoGo, if_pos hlt, if_neg (by rw [hb]; decide), if_pos hb]
  by_cases h1 : q + 1 < s.size
  · have i1 := gch_iff s (q + 1) h1 39 (by omega)
    have i2 := gch_iff s (q + 1) h1 92 (by omega)
    by_cases he : byteD s (q + 1) = 39 ∨ byteD s (q + 1) = 92
    · have hesc : escI (gch s (q + 1)) = true := by
        unfold escI
        rcases he with he | he
        · rw [i1.2 he]; rfl
        · rw [i2.2 he]; rfl
      have hlow : byteD s (q + 1) < 128 := by omega
      obtain ⟨g1, g2⟩ := gch_low s (q + 1) h1 hlow
      obtain ⟨e1, _⟩ := encode_gch s (q + 1) h1 (by rw [g1]; omega)
      rw [if_pos ⟨h1, he⟩, if_pos hesc, runesBytes_snoc, e1, g2]
    · have hesc : ¬ escI (gch s (q + 1)) = true := by
        unfold escI
        intro h
        simp only [Bool.or_eq_true, decide_eq_true_eq] at h
        rcases h with h | h
        · exact he (Or.inl (i1.1 h))
        · exact he (Or.inr (i2.1 h))
      rw [if_neg (fun h => he h.2), if_neg hesc]
  · rw [if_neg (fun h => h1 h.1), gch_end s (q + 1) h1]
    rfl
end

end Go.Proofs.Ytcpdadppblbndaa
