/- The program's scanner: what it holds in memory; pure: characters and bytes. The program's scanner: a bad token; gaps are left out. The program: kinds of characters. -/
import Derived.Test.YtcpdadppblbndaaShelfRM
import Derived.Test.YtcpdadppblbndaaSTok0M
import Derived.Test.YtcpdadppblbndaaSMemM
import Derived.Deep.LoopGhost
import Derived.Test.YtcpdadppblbndaaText0M
namespace Go.Proofs.Ytcpdadppblbndaa
open Go.RowKit
set_option maxRecDepth 100000

/-- The character at a place; -1: the end. -/
def gch (s : ByteArray) (p : Nat) : Int := if p < s.size then glyC s p else -1
def gwd (s : ByteArray) (p : Nat) : Nat := (Utf8.decode s p).2
theorem gch_low (s : ByteArray) (p : Nat) (hp : p < s.size) (h : byteD s p < 128) : gch s p = byteD s p ∧ gwd s p = 1 := by
  unfold gch gwd glyC
  rw [if_pos hp, Lib.decode_N, ← byteD_getD]
  unfold Lib.decodeN
  rw [if_pos h]
  simp only
  rw [if_neg (by omega)]
  refine ⟨?_, ?_⟩ <;> first | rfl | trivial
theorem gch_high (s : ByteArray) (p : Nat) (hp : p < s.size) (h : 128 ≤ byteD s p) : gch s p = -2 ∨ 128 ≤ gch s p := by
  unfold gch glyC
  rw [if_pos hp, Lib.decode_N, ← byteD_getD]
  have h0 := byteD_256 s p
  unfold Lib.decodeN
  simp only [if_neg (show ¬ byteD s p < 128 by omega)]
  repeat' split
  all_goals first | exact Or.inl rfl | (right; simp only at *; omega)
/-- The characters below 128 are the bytes. -/
theorem gch_iff (s : ByteArray) (p : Nat) (hp : p < s.size) (c : Nat) (hc : c < 128) : gch s p = (c : Int) ↔ byteD s p = c := by
  by_cases h : byteD s p < 128
  · rw [(gch_low s p hp h).1]; omega
  · rcases gch_high s p hp (by omega) with e | e
    · rw [e]; omega
    · omega
theorem gch_end (s : ByteArray) (p : Nat) (hp : ¬ p < s.size) : gch s p = -1 := if_neg hp
theorem gch_ne_end (s : ByteArray) (p : Nat) (hp : p < s.size) : gch s p ≠ -1 := by
  by_cases h : byteD s p < 128
  · rw [(gch_low s p hp h).1]; omega
  · rcases gch_high s p hp (by omega) with e | e
    · rw [e]; omega
    · omega
theorem gwd_pos (s : ByteArray) (p : Nat) : 1 ≤ gwd s p := (decode_pos s p).1
theorem gwd_in (s : ByteArray) (p : Nat) (hp : p < s.size) : p + gwd s p ≤ s.size := decode_in s p hp
theorem gch_ok (s : ByteArray) (p : Nat) : glyOk (gch s p) := by
  unfold gch
  split
  · exact glyC_ok s p
  · exact Or.inl rfl
/-- Within a character no byte is below 128. -/
theorem gwd_tail (s : ByteArray) (p i : Nat) (hp : p < s.size) (h0 : 0 < i) (hi : i < gwd s p) : 128 ≤ byteD s (p + i) := by
  have hd := char_decode s p hp
  unfold gwd at hi
  unfold chN at hd
  by_cases hx : (Utf8.decode s p).1 = 65533 ∧ (Utf8.decode s p).2 = 1
  · omega
  · rw [if_neg hx] at hd
    exact char_tail s p i (by omega) h0 (by omega)
theorem glyL_first (s : ByteArray) (p : Nat) (hp : p ≤ s.size) : ∃ r, glyL s p = (gch s p, p) :: r := by
  by_cases h : p < s.size
  · exact ⟨_, by rw [glyL_on h]; unfold gch; rw [if_pos h]⟩
  · have : p = s.size := by omega
    subst this
    exact ⟨[], by rw [glyL_off h]; unfold gch; rw [if_neg h]⟩
/-- The parser's box. -/
def ParBox (w : World) (pb : Nat) (left : Value) (k a : Int) (wd : ByteArray) (vC vP vM : Value) : Prop := w.heap[pb]? = some (.cells #[left, .int .i32 k, .int .i64 a, .string wd, vC, vP, vM] 78)
section
variable {w : World} {pb : Nat} {left : Value} {k a : Int} {wd : ByteArray} {vC vP vM : Value}
theorem ParBox.c0 (h : ParBox w pb left k a wd vC vP vM) : w.cell? ⟨pb, 0, none⟩ = some left := by unfold ParBox at h; simp [World.cell?, h]
theorem ParBox.c1 (h : ParBox w pb left k a wd vC vP vM) : w.cell? ⟨pb, 1, none⟩ = some (.int .i32 k) := by unfold ParBox at h; simp [World.cell?, h]
theorem ParBox.c2 (h : ParBox w pb left k a wd vC vP vM) : w.cell? ⟨pb, 2, none⟩ = some (.int .i64 a) := by unfold ParBox at h; simp [World.cell?, h]
theorem ParBox.c3 (h : ParBox w pb left k a wd vC vP vM) : w.cell? ⟨pb, 3, none⟩ = some (.string wd) := by unfold ParBox at h; simp [World.cell?, h]
theorem ParBox.c4 (h : ParBox w pb left k a wd vC vP vM) : w.cell? ⟨pb, 4, none⟩ = some vC := by unfold ParBox at h; simp [World.cell?, h]
theorem ParBox.c5 (h : ParBox w pb left k a wd vC vP vM) : w.cell? ⟨pb, 5, none⟩ = some vP := by unfold ParBox at h; simp [World.cell?, h]
theorem ParBox.c6 (h : ParBox w pb left k a wd vC vP vM) : w.cell? ⟨pb, 6, none⟩ = some vM := by unfold ParBox at h; simp [World.cell?, h]
theorem ParBox.soft (h : ParBox w pb left k a wd vC vP vM) (j : Nat) : w.frozen? ⟨pb, j, none⟩ = false := by unfold ParBox at h; simp [World.frozen?, h]
theorem ParBox.lt (h : ParBox w pb left k a wd vC vP vM) : pb < w.heap.size := (Array.getElem?_eq_some_iff.1 h).1
theorem ParBox.below (h : ParBox w pb left k a wd vC vP vM) {w' : World} {B : Nat} (q : Below B w w') (hB : w.heap.size ≤ B) : ParBox w' pb left k a wd vC vP vM := by
  have := h.lt
  unfold ParBox
  rw [q.block pb (by omega)]
  exact h
theorem ParBox.set0 (h : ParBox w pb left k a wd vC vP vM) (v : Value) : ParBox (w.setCell ⟨pb, 0, none⟩ v) pb v k a wd vC vP vM := heap_setCell_same w pb 0 _ _ _ h
theorem ParBox.row (h : ParBox w pb left k a wd vC vP vM) {B : Nat} {e : TypeId} {size : Nat} {v : Value} {n : Nat} {xs : List Value} (ho : w.ownsRow B e size v n xs) (he : e ≠ 78) (j : Nat) (u : Value) : (w.setCell ⟨pb, j, none⟩ u).ownsRow B e size v n xs := by
  refine ownsRow_setCell_other ho ?_ u
  intro hx
  obtain ⟨_, ⟨rfl, _⟩ | ⟨g, cap, cur, rfl, hb, hh, _⟩⟩ := ho
  · simp [Value.ownBlock] at hx
  · simp [Value.ownBlock] at hx
    subst hx
    unfold ParBox at h
    rw [h] at hh
    simp at hh
    exact he hh.2.symm
end
/-- The scanner in memory, at a place of the text. -/
structure ScIn (B : Nat) (w : World) (pb : Nat) (s : ByteArray) (p g j m c : Nat) (k a : Int) (wd : ByteArray) (vC vP vM : Value) : Prop where
  box : ParBox w pb (.slice (some ⟨g, j * 2, none⟩) (m + 1) (c + 1)) k a wd vC vP vM
  high : B ≤ pb
  row : w.ownsRow B 106 2 (.slice (some ⟨g, 0, none⟩) (j + m + 1) (j + c + 1)) (j + m + 1) (glyCells (glyL s 0))
  len : (glyL s 0).length = j + m + 1
  drop : (glyL s 0).drop j = glyL s p
  le : p ≤ s.size
section
variable {B : Nat} {w w' : World} {pb : Nat} {s : ByteArray} {p g j m c : Nat} {k a : Int} {wd : ByteArray} {vC vP vM : Value}
theorem ScIn.below (h : ScIn B w pb s p g j m c k a wd vC vP vM) (q : Below w.heap.size w w') : ScIn B w' pb s p g j m c k a wd vC vP vM :=
  ⟨h.box.below q (Nat.le_refl _), h.high, own_below h.row q (Nat.le_refl _), h.len, h.drop, h.le⟩
theorem ScIn.at0 (h : ScIn B w pb s p g j m c k a wd vC vP vM) : w.cell? ⟨g, j * 2, none⟩ = some (.int .i32 (gch s p)) ∧ w.cell? ⟨g, j * 2 + 1, none⟩ = some (.int .i64 p) := by
  obtain ⟨r, hr⟩ := glyL_first s p h.le
  have hj : j < (glyL s 0).length := by have := h.len; omega
  have he : (glyL s 0)[j] = (gch s p, p) := by
    have h1 : ((glyL s 0).drop j)[0]? = some (gch s p, p) := by rw [h.drop, hr]; rfl
    rw [List.getElem?_drop, List.getElem?_eq_getElem (by omega)] at h1
    simpa using h1
  obtain ⟨q1, q2⟩ := glyCells_at (glyL s 0) j hj
  rw [he] at q1 q2
  exact ⟨by rw [h.row.cellAt _ (by omega), q1], by rw [h.row.cellAt _ (by omega), q2]⟩
/-- A character further. -/
theorem ScIn.more (h : ScIn B w pb s p g j m c k a wd vC vP vM) (hp : p < s.size) : ∃ m' c', m = m' + 1 ∧ c = c' + 1 := by
  have hl := h.len
  have hd := congrArg List.length h.drop
  rw [List.length_drop, glyL_on hp, List.length_cons] at hd
  have h1 := (glyL_len s _ (p + (Utf8.decode s p).2) (Nat.le_refl _)).1
  have hr := h.row.2
  obtain ⟨_, hr⟩ := h.row
  rcases hr with ⟨e, _⟩ | ⟨g', cap, cur, e, _, _, hc, _⟩
  · simp at e
  · simp at e
    obtain ⟨_, rfl⟩ := e
    exact ⟨m - 1, c - 1, by omega, by omega⟩
theorem ScIn.step (h : ScIn B w pb s p g j (m + 1) (c + 1) k a wd vC vP vM) (hp : p < s.size) : ScIn B (w.setCell ⟨pb, 0, none⟩ (.slice (some ⟨g, j * 2 + 2, none⟩) (m + 1) (c + 1))) pb s (p + gwd s p) g (j + 1) m c k a wd vC vP vM := by
  rw [show j * 2 + 2 = (j + 1) * 2 by omega]
  refine ⟨h.box.set0 _, h.high, ?_, by have := h.len; omega, ?_, gwd_in s p hp⟩
  · have := h.box.row h.row (by decide) 0 (.slice (some ⟨g, (j + 1) * 2, none⟩) (m + 1) (c + 1))
    rw [show j + 1 + m + 1 = j + (m + 1) + 1 by omega, show j + 1 + c + 1 = j + (c + 1) + 1 by omega]
    exact this
  · have hd := h.drop
    rw [glyL_on hp] at hd
    have : (glyL s 0).drop (j + 1) = ((glyL s 0).drop j).drop 1 := by rw [List.drop_drop]
    rw [this, hd]
    rfl
end
/-- The same cell is written on both sides. -/
theorem below_setBoth {w W : World} (h : Below w.heap.size w W) {q : Addr} (hq : q.block < w.heap.size) (u : Value) : Below (w.setCell q u).heap.size (w.setCell q u) (W.setCell q u) := by
  refine ⟨h.os, h.tape, h.output, by have := h.size; simpa [World.setCell] using this, fun k hk => ?_⟩
  have hk' : k < w.heap.size := by simpa [World.setCell] using hk
  have e := h.block k hk'
  by_cases hkq : k = q.block
  · subst hkq
    have hW : q.block < W.heap.size := Nat.lt_of_lt_of_le hq h.size
    have e' : W.heap[q.block]? = w.heap[q.block]? := e
    simp only [World.setCell]
    rw [Array.getElem?_modify, Array.getElem?_modify]
    simp [e']
  · rw [Below.heap_setCell _ _ _ _ hkq, Below.heap_setCell _ _ _ _ hkq, e]
/-- The lines: by characters. -/
theorem lineP_skip {s : ByteArray} {p : Nat} (hp : p < s.size) (h : gch s p ≠ 10) : lineP s p = lineP s (p + gwd s p) := by
  have hb : byteD s p ≠ 10 := fun e => h ((gch_iff s p hp 10 (by omega)).2 e)
  have key : ∀ i, 1 ≤ i → i ≤ gwd s p → lineP s p = lineP s (p + i) := by
    intro i h1
    induction i with
    | zero => omega
    | succ i ih =>
      intro hi
      by_cases h0 : i = 0
      · subst h0; exact lineP_on hp hb
      · rw [ih (by omega) (by omega)]
        have hin := gwd_in s p hp
        exact lineP_on (by omega) (by have := gwd_tail s p i hp (by omega) (by omega); omega)
  exact key _ (gwd_pos s p) (Nat.le_refl _)

end Go.Proofs.Ytcpdadppblbndaa

namespace Go.Proofs.Ytcpdadppblbndaa
open Go.RowKit
set_option maxRecDepth 100000

/-- A token as a value. -/
def tokenV (k a : Int) (wd : ByteArray) : Value := .agg #[.int .i32 k, .int .i64 a, .string wd]
section
variable {B : Nat} {pb : Nat} {s : ByteArray} {p g j m c : Nat} {k a : Int} {wd : ByteArray} {vC vP vM : Value}
set_option maxHeartbeats 1000000 in
theorem sBad_any {w : World} (h : ScIn B w pb s p g j m c k a wd vC vP vM) : Calls Try.prog 53 #[.pointer (some ⟨pb, 0, none⟩)] w fun e w' => e = .returned (tokenV (-2) p ⟨#[]⟩) ∧ Below w.heap.size w w' := by
  have d0 := h.box.c0
  have e0 : ∀ o, (w.alloc o).cell? ⟨pb, 0, none⟩ = some (.slice (some ⟨g, j * 2, none⟩) (m + 1) (c + 1)) := fun o => Below.at' ((Below.refl _ w).alloc (Nat.le_refl _) o) (Nat.le_refl _) d0
  have e1 : ∀ o, (w.alloc o).cell? ⟨g, j * 2 + 1, none⟩ = some (.int .i64 p) := fun o => Below.at' ((Below.refl _ w).alloc (Nat.le_refl _) o) (Nat.le_refl _) h.at0.2
  clear h d0
  go_enter Try.func53, Try.ntmps53
  go_wp2
  go_returns
  exact ⟨rfl, (Below.refl _ w).alloc (Nat.le_refl _) _⟩

set_option maxHeartbeats 1000000 in
theorem sSkipC_any {w : World} (h : ScIn B w pb s p g j m c k a wd vC vP vM) : Calls Try.prog 63 #[.pointer (some ⟨pb, 0, none⟩)] w fun e w' => e = .returned (.tuple #[]) ∧ w.grownBy w' (some pb) ∧ ∃ j' m' c', ScIn B w' pb s (lineP s p) g j' m' c' k a wd vC vP vM := by
  have hle := h.le
  go_enter Try.func63, Try.ntmps63
  go_wp2
  go_loopg [] (s.size - p) (fun q wr => ∃ p' j' m' c', ScIn B wr pb s p' g j' m' c' k a wd vC vP vM ∧ lineP s p = lineP s p' ∧ q = s.size - p' ∧ w.grownBy wr (some pb))
  case atStart => exact ⟨p, j, m, c, h, rfl, rfl, World.grownBy.refl _ _⟩
  case round =>
    obtain ⟨p', j', m', c', hS, he, hq, hg⟩ := hrel
    have d0 := hS.box.c0
    have f0 := hS.box.soft 0
    have d1 := hS.at0.1
    have HS := hide hS
    have HE := hide he
    have HG := hide hg
    have hle' := hS.le
    by_cases h10 : gch s p' = 10
    · have hp' : p' < s.size := Classical.byContradiction fun hn => by rw [gch_end s p' hn] at h10; omega
      have HL : Hid (lineP s p = p') := hide (by rw [he]; exact lineP_off fun hx => hx.2 ((gch_iff s p' hp' 10 (by omega)).1 h10))
      rw [h10] at d1
      clear hS he hg h
      go_wp2
      go_returns
      exact ⟨rfl, HG.out, j', m', c', by rw [HL.out]; exact HS.out⟩
    · by_cases hp' : p' < s.size
      · have hne := gch_ne_end s p' hp'
        obtain ⟨m2, c2, rfl, rfl⟩ := hS.more hp'
        have HS2 := hide (hS.step hp')
        have HL2 := hide (lineP_skip hp' h10)
        have hw := gwd_pos s p'
        have hwi := gwd_in s p' hp'
        generalize gch s p' = cc at *
        have h10' : (cc != 10) = true := by simpa using h10
        have hne' : (cc != -1) = true := by simpa using hne
        clear hS he hg h
        go_wp2
        go_roundg (s.size - (p' + gwd s p'))
        case measure => omega
        case rel => exact ⟨p' + gwd s p', j' + 1, m2, c2, HS2.out, by rw [HE.out, HL2.out], rfl, grown_set HG.out _⟩
      · have hn1 := gch_end s p' hp'
        rw [hn1] at d1
        have HL : Hid (lineP s p = p') := hide (by rw [he]; exact lineP_off fun hx => hp' hx.1)
        clear hS he hg h
        go_wp2
        go_returns
        exact ⟨rfl, HG.out, j', m', c', by rw [HL.out]; exact HS.out⟩

theorem isBlank_any (ch : Int) (w : World) : Calls Try.prog 62 #[.int .i32 ch] w fun e w' => e = .returned (.bool (decide (ch = 32) || decide (ch = 9) || decide (ch = 10))) ∧ w' = w := by
  go_enter Try.func62, Try.ntmps62
  by_cases h1 : ch = 32
  · subst h1
    go_wp2
    go_ret
    exact ⟨rfl, rfl⟩
  · have q1 : (ch == 32) = false := by simpa using h1
    by_cases h2 : ch = 9
    · subst h2
      go_wp2
      go_ret
      exact ⟨rfl, rfl⟩
    · have q2 : (ch == 9) = false := by simpa using h2
      go_wp2
      go_ret
      exact ⟨ret_bool (by simp [h1, h2]; rfl), rfl⟩
/-- Behind gaps. -/
def skipP (s : ByteArray) : Nat → Nat → Nat
  | 0, p => p
  | f + 1, p => if p < s.size then if gapN (byteD s p) then skipP s f (p + 1) else if byteD s p = 37 then skipP s f (lineP s p) else p else p
theorem nextGo_skip (s : ByteArray) : ∀ f p, s.size < p + f → p ≤ s.size → nextGo s f p = (if skipP s f p < s.size then tokAt s (skipP s f p) else .stop s.size) ∧ skipP s f p ≤ s.size ∧ (skipP s f p < s.size → gapN (byteD s (skipP s f p)) = false ∧ byteD s (skipP s f p) ≠ 37) := by
  intro f
  induction f with
  | zero => intro p h1 h2; omega
  | succ f ih =>
    intro p h1 h2
    rw [nextGo, skipP]
    by_cases hp : p < s.size
    · rw [if_pos hp, if_pos hp]
      by_cases hg : gapN (byteD s p) = true
      · rw [if_pos hg, if_pos hg]
        exact ih (p + 1) (by omega) (by omega)
      · rw [if_neg hg, if_neg hg]
        by_cases h37 : byteD s p = 37
        · rw [if_pos h37, if_pos h37]
          have := lineP_gt hp h37
          exact ih _ (by omega) (lineP_le h2)
        · rw [if_neg h37, if_neg h37, if_pos hp]
          exact ⟨rfl, h2, fun _ => ⟨by simpa using hg, h37⟩⟩
    · rw [if_neg hp, if_neg hp, if_neg hp]
      have : p = s.size := by omega
      exact ⟨by rw [this], h2, fun h => absurd h hp⟩

set_option maxHeartbeats 1000000 in
theorem sSkip_any {w : World} (f : Nat) (h : ScIn B w pb s p g j m c k a wd vC vP vM) (hf : s.size < p + f) : Calls Try.prog 46 #[.pointer (some ⟨pb, 0, none⟩)] w fun e w' => e = .returned (.tuple #[]) ∧ w.grownBy w' (some pb) ∧ ∃ j' m' c', ScIn B w' pb s (skipP s f p) g j' m' c' k a wd vC vP vM := by
  go_enter Try.func46, Try.ntmps46
  go_wp2
  go_loopg [] f (fun q wr => ∃ p' j' m' c', ScIn B wr pb s p' g j' m' c' k a wd vC vP vM ∧ skipP s f p = skipP s q p' ∧ s.size < p' + q ∧ w.grownBy wr (some pb))
  case atStart => exact ⟨p, j, m, c, h, rfl, hf, World.grownBy.refl _ _⟩
  case round =>
    obtain ⟨p', j', m', c', hS, he, hq, hg⟩ := hrel
    have hle' := hS.le
    obtain ⟨q, rfl⟩ : ∃ q, gk = q + 1 := ⟨gk - 1, by omega⟩
    have d0 := hS.box.c0
    have f0 := hS.box.soft 0
    have d1 := hS.at0.1
    have HS := hide hS
    have HG := hide hg
    have CB := hide (fun wx => isBlank_any (gch s p') wx)
    rw [skipP] at he
    by_cases hp' : p' < s.size
    · rw [if_pos hp'] at he
      have hgap : (decide (gch s p' = 32) || decide (gch s p' = 9) || decide (gch s p' = 10)) = gapN (byteD s p') := by
        unfold gapN
        have q1 := gch_iff s p' hp' 32 (by omega)
        have q2 := gch_iff s p' hp' 9 (by omega)
        have q3 := gch_iff s p' hp' 10 (by omega)
        have q1 : (gch s p' = 32) = (byteD s p' = 32) := propext q1
        have q2 : (gch s p' = 9) = (byteD s p' = 9) := propext q2
        have q3 : (gch s p' = 10) = (byteD s p' = 10) := propext q3
        simp only [q1, q2, q3]
      rw [hgap] at CB
      have h37 := gch_iff s p' hp' 37 (by omega)
      by_cases hgp : gapN (byteD s p') = true
      · rw [if_pos hgp] at he
        rw [hgp] at CB
        obtain ⟨m2, c2, rfl, rfl⟩ := hS.more hp'
        have hlow : byteD s p' < 128 := by unfold gapN at hgp; simp at hgp; omega
        have HS2 := hide (hS.step hp')
        rw [(gch_low s p' hp' hlow).2] at HS2
        have HE := hide he
        clear hS he hg h hgap h37
        go_wp2_with (go_at_call 62; refine (unhide CB _).mono ?_; rintro e w1 ⟨rfl, rfl⟩)
        go_roundg q
        case measure => omega
        case rel => exact ⟨p' + 1, j' + 1, m2, c2, HS2.out, HE.out, by omega, grown_set HG.out _⟩
      · rw [if_neg hgp] at he
        have hgp' : gapN (byteD s p') = false := by simpa using hgp
        rw [hgp'] at CB
        by_cases hb37 : byteD s p' = 37
        · rw [if_pos hb37] at he
          have h37' := h37.2 hb37
          rw [h37'] at d1
          have hgt := lineP_gt hp' hb37
          have HE := hide he
          clear hS he hg h hgap h37
          go_wp2_with (first
            | (go_at_call 62; rw [h37'] at CB; refine (unhide CB _).mono ?_; rintro e w1 ⟨rfl, rfl⟩)
            | (go_at_call 63; refine (sSkipC_any HS.out).mono ?_; rintro e w1 ⟨rfl, hg1, j1, m1, c1, hS1⟩; have HG1 := hide hg1; have HS1 := hide hS1; clear hg1 hS1))
          go_roundg q
          case measure => omega
          case rel => exact ⟨lineP s p', j1, m1, c1, HS1.out, HE.out, by omega, HG.out.trans HG1.out⟩
        · rw [if_neg hb37] at he
          have hn37 : gch s p' ≠ 37 := fun e => hb37 (h37.1 e)
          have HE := hide he
          generalize gch s p' = cc at *
          have h37' : (cc == 37) = false := by simpa using hn37
          clear hS he hg h hgap h37
          go_wp2_with (go_at_call 62; refine (unhide CB _).mono ?_; rintro e w1 ⟨rfl, rfl⟩)
          go_returns
          exact ⟨rfl, HG.out, j', m', c', by rw [HE.out]; exact HS.out⟩
    · rw [if_neg hp'] at he
      have HE := hide he
      rw [gch_end s p' hp'] at d1 CB
      clear hS he hg h
      go_wp2_with (go_at_call 62; refine (unhide CB _).mono ?_; rintro e w1 ⟨rfl, rfl⟩)
      go_returns
      exact ⟨rfl, HG.out, j', m', c', by rw [HE.out]; exact HS.out⟩
end

end Go.Proofs.Ytcpdadppblbndaa

namespace Go.Proofs.Ytcpdadppblbndaa
open Go.RowKit
set_option maxRecDepth 100000

theorem isLower_any (c : Int) (w : World) : Calls Try.prog 47 #[.int .i32 c] w fun e w' => e = .returned (.bool (smallB c)) ∧ w' = w := by
  unfold smallB
  by_cases h : 97 ≤ c
  all_goals
    go_enter Try.func47, Try.ntmps47
    go_wp2
    go_ret
    exact ⟨ret_bool (by rw [Bool.eq_iff_iff]; simp; omega), rfl⟩
theorem isUpper_any (c : Int) (w : World) : Calls Try.prog 49 #[.int .i32 c] w fun e w' => e = .returned (.bool (largeB c)) ∧ w' = w := by
  unfold largeB
  by_cases h : 65 ≤ c
  all_goals
    go_enter Try.func49, Try.ntmps49
    go_wp2
    go_ret
    exact ⟨ret_bool (by rw [Bool.eq_iff_iff]; simp; omega), rfl⟩
theorem isDigit_any (c : Int) (w : World) : Calls Try.prog 72 #[.int .i32 c] w fun e w' => e = .returned (.bool (digitB c)) ∧ w' = w := by
  unfold digitB
  by_cases h : 48 ≤ c
  all_goals
    go_enter Try.func72, Try.ntmps72
    go_wp2
    go_ret
    exact ⟨ret_bool (by rw [Bool.eq_iff_iff]; simp; omega), rfl⟩
theorem isInWord_any (c : Int) (w : World) : Calls Try.prog 64 #[.int .i32 c] w fun e w' => e = .returned (.bool (insideB c)) ∧ w' = w := by
  have c1 := isLower_any c w
  have c2 := isUpper_any c w
  have c3 := isDigit_any c w
  have HI : Hid (insideB c = (smallB c || largeB c || digitB c || c == 95)) := rfl
  generalize smallB c = b1 at *
  generalize largeB c = b2 at *
  generalize digitB c = b3 at *
  go_enter Try.func64, Try.ntmps64
  cases b1 <;> cases b2 <;> cases b3
  all_goals
    go_wp2_with (first
      | (go_at_call 47; refine c1.mono ?_; rintro e w' ⟨rfl, rfl⟩)
      | (go_at_call 49; refine c2.mono ?_; rintro e w' ⟨rfl, rfl⟩)
      | (go_at_call 72; refine c3.mono ?_; rintro e w' ⟨rfl, rfl⟩))
    go_ret
    exact ⟨ret_bool (by rw [HI.out]; simp), rfl⟩
def escI (c : Int) : Bool := decide (c = 39) || decide (c = 92)
theorem isEscaped_any (c : Int) (w : World) : Calls Try.prog 65 #[.int .i32 c] w fun e w' => e = .returned (.bool (escI c)) ∧ w' = w := by
  by_cases h : c = 39
  · have h1 : (c == 39) = true := by simp [h]
    have HE := hide (show escI c = true by simp [escI, h])
    clear h
    go_enter Try.func65, Try.ntmps65
    go_wp2
    go_ret
    exact ⟨ret_bool HE.out.symm, rfl⟩
  · have h1 : (c == 39) = false := by simp [h]
    have HE := hide (show escI c = (c == 92) by simp [escI, h]; rfl)
    clear h
    go_enter Try.func65, Try.ntmps65
    go_wp2
    go_ret
    exact ⟨ret_bool HE.out.symm, rfl⟩

end Go.Proofs.Ytcpdadppblbndaa
