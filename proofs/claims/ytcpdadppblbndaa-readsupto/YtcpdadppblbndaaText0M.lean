/- How long a name can be. The document's own answer: letters, digits. Pure: the tokens of a text, character by character. The document: the place behind letters, digits and _; a name in quotes. -/
import Derived.Test.YtcpdadppblbndaaCharM
import Derived.Test.YtcpdadppblbndaaBase0M
import Derived.Laws.BytesArg
namespace Go.Proofs.Ytcpdadppblbndaa
open Go.RowKit

theorem size_data (x : ByteArray) : x.size = x.data.toList.length := rfl
theorem charAt_le4 (s : ByteArray) (p : Nat) : charAt s p ≤ 4 := by
  have hz : szN (byteD s p) ≤ 4 := by unfold szN; split <;> (try split) <;> (try split) <;> (try split) <;> (try split) <;> omega
  simp only [charAt]
  split
  · omega
  · split
    · omega
    · split <;> omega
theorem nameGo_size (s : ByteArray) : ∀ f p m, s.size - p ≤ f → m ≤ 20 → nameGo s f p m = true → s.size ≤ p + 4 * (20 - m) := by
  intro f
  induction f with
  | zero => intro p m hf hm h; omega
  | succ f ih =>
    intro p m hf hm h
    by_cases hp : p < s.size
    · by_cases hb : charAt s p = 0 ∨ byteD s p = 10
      · rw [nameGo_bad s (f + 1) p m hp hf hb] at h; simp at h
      · have hc := charAt_le4 s p
        simp only [nameGo, if_pos hp, if_neg hb] at h
        by_cases hm20 : m = 20
        · exfalso
          subst hm20
          have : ∀ f p m, 20 < m → nameGo s f p m = false := by
            intro f
            induction f with
            | zero => intro p m hm; simp [nameGo]; omega
            | succ f ih =>
              intro p m hm
              simp only [nameGo]
              split
              · split
                · rfl
                · exact ih _ _ (by omega)
              · simp; omega
          rw [this _ _ _ (by omega)] at h
          simp at h
        · have := ih (p + charAt s p) (m + 1) (by omega) (by omega) h
          omega
    · omega
theorem isNameL_size (s : ByteArray) (h : isNameL s = true) : 0 < s.size ∧ s.size ≤ 80 := by
  refine ⟨?_, ?_⟩
  · rcases Nat.eq_zero_or_pos s.size with h0 | h0
    · unfold isNameL at h; rw [h0] at h; simp [nameGo] at h
    · exact h0
  · have := nameGo_size s s.size 0 0 (by omega) (by omega) h
    omega

end Go.Proofs.Ytcpdadppblbndaa

namespace Go.Proofs.Ytcpdadppblbndaa
open Go.RowKit
set_option maxRecDepth 100000

def smallB (c : Int) : Bool := decide (97 ≤ c) && decide (c ≤ 122)
def largeB (c : Int) : Bool := decide (65 ≤ c) && decide (c ≤ 90)
def digitB (c : Int) : Bool := decide (48 ≤ c) && decide (c ≤ 57)
/-- May a character stand within a name? -/
def insideB (c : Int) : Bool := smallB c || largeB c || digitB c || c == 95

theorem small_any (c : Int) (w : World) : Calls Try.prog 27 #[.int .u8 c] w fun e w' => e = .returned (.bool (smallB c)) ∧ w' = w := by
  unfold smallB
  by_cases h : 97 ≤ c
  · go_enter Try.func27, Try.ntmps27
    go_wp2
    go_ret
    exact ⟨ret_bool (by rw [Bool.eq_iff_iff]; simp; omega), rfl⟩
  · go_enter Try.func27, Try.ntmps27
    go_wp2
    go_ret
    exact ⟨ret_bool (by rw [Bool.eq_iff_iff]; simp; omega), rfl⟩
theorem large_any (c : Int) (w : World) : Calls Try.prog 28 #[.int .u8 c] w fun e w' => e = .returned (.bool (largeB c)) ∧ w' = w := by
  unfold largeB
  by_cases h : 65 ≤ c
  · go_enter Try.func28, Try.ntmps28
    go_wp2
    go_ret
    exact ⟨ret_bool (by rw [Bool.eq_iff_iff]; simp; omega), rfl⟩
  · go_enter Try.func28, Try.ntmps28
    go_wp2
    go_ret
    exact ⟨ret_bool (by rw [Bool.eq_iff_iff]; simp; omega), rfl⟩
theorem digit_any (c : Int) (w : World) : Calls Try.prog 60 #[.int .u8 c] w fun e w' => e = .returned (.bool (digitB c)) ∧ w' = w := by
  unfold digitB
  by_cases h : 48 ≤ c
  · go_enter Try.func60, Try.ntmps60
    go_wp2
    go_ret
    exact ⟨ret_bool (by rw [Bool.eq_iff_iff]; simp; omega), rfl⟩
  · go_enter Try.func60, Try.ntmps60
    go_wp2
    go_ret
    exact ⟨ret_bool (by rw [Bool.eq_iff_iff]; simp; omega), rfl⟩

theorem inside_any (c : Int) (w : World) : Calls Try.prog 41 #[.int .u8 c] w fun e w' => e = .returned (.bool (insideB c)) ∧ w' = w := by
  have c1 := small_any c w
  have c2 := large_any c w
  have c3 := digit_any c w
  have HI : Hid (insideB c = (smallB c || largeB c || digitB c || c == 95)) := rfl
  generalize smallB c = b1 at *
  generalize largeB c = b2 at *
  generalize digitB c = b3 at *
  go_enter Try.func41, Try.ntmps41
  cases b1 <;> cases b2 <;> cases b3
  all_goals
    go_wp2_with (first
      | (go_at_call 27; refine c1.mono ?_; rintro e w' ⟨rfl, rfl⟩)
      | (go_at_call 28; refine c2.mono ?_; rintro e w' ⟨rfl, rfl⟩)
      | (go_at_call 60; refine c3.mono ?_; rintro e w' ⟨rfl, rfl⟩))
    go_ret
    exact ⟨ret_bool (by rw [HI.out]; simp), rfl⟩

end Go.Proofs.Ytcpdadppblbndaa

namespace Go.Proofs.Ytcpdadppblbndaa
open Go.RowKit
set_option maxRecDepth 100000

/-- The place behind letters, digits and _. -/
def runGo (s : ByteArray) : Nat → Nat → Nat
  | 0, p => p
  | f + 1, p => if p < s.size ∧ insideB (byteD s p) = true then runGo s f (p + 1) else p
def runP (s : ByteArray) (p : Nat) : Nat := runGo s (s.size - p) p
theorem runP_on {s : ByteArray} {p : Nat} (h : p < s.size) (hi : insideB (byteD s p) = true) : runP s p = runP s (p + 1) := by
  unfold runP
  obtain ⟨f, hf⟩ : ∃ f, s.size - p = f + 1 := ⟨s.size - p - 1, by omega⟩
  rw [hf, show s.size - (p + 1) = f by omega]
  simp only [runGo]
  rw [if_pos ⟨h, hi⟩]
theorem runP_off {s : ByteArray} {p : Nat} (h : ¬ (p < s.size ∧ insideB (byteD s p) = true)) : runP s p = p := by
  unfold runP
  cases hf : s.size - p with
  | zero => rfl
  | succ f => simp only [runGo]; rw [if_neg h]
theorem runGo_bounds (s : ByteArray) : ∀ f p, p ≤ runGo s f p ∧ (p ≤ s.size → runGo s f p ≤ s.size) := by
  intro f
  induction f with
  | zero => intro p; exact ⟨Nat.le_refl _, fun h => h⟩
  | succ f ih =>
    intro p
    simp only [runGo]
    split
    · rename_i h
      have := ih (p + 1)
      exact ⟨by omega, fun _ => this.2 (by omega)⟩
    · exact ⟨Nat.le_refl _, fun h => h⟩
theorem runP_ge (s : ByteArray) (p : Nat) : p ≤ runP s p := (runGo_bounds s _ p).1
theorem runP_le {s : ByteArray} {p : Nat} (h : p ≤ s.size) : runP s p ≤ s.size := (runGo_bounds s _ p).2 h
/-- The name between two signs, and the place behind. -/
def quoGo (s : ByteArray) : Nat → ByteArray → Nat → Option (ByteArray × Nat)
  | 0, _, _ => none
  | f + 1, name, p =>
    if p < s.size then
      if byteD s p = 39 then (if isNameL name then some (name, p + 1) else none)
      else
        if byteD s p = 92 then
          (if p + 1 < s.size ∧ (byteD s (p + 1) = 39 ∨ byteD s (p + 1) = 92) then quoGo s f (name ++ s.extract (p + 1) (p + 2)) (p + 2) else none)
        else if charAt s p = 0 ∨ byteD s p = 10 then none else quoGo s f (name ++ s.extract p (p + charAt s p)) (p + charAt s p)
    else none
def quoP (s : ByteArray) (p : Nat) : Option (ByteArray × Nat) := quoGo s s.size ⟨#[]⟩ (p + 1)
/-- The end of a line. -/
def lineGo (s : ByteArray) : Nat → Nat → Nat
  | 0, p => p
  | f + 1, p => if p < s.size ∧ byteD s p ≠ 10 then lineGo s f (p + 1) else p
def lineP (s : ByteArray) (p : Nat) : Nat := lineGo s (s.size - p) p
theorem lineP_on {s : ByteArray} {p : Nat} (h : p < s.size) (hi : byteD s p ≠ 10) : lineP s p = lineP s (p + 1) := by
  unfold lineP
  obtain ⟨f, hf⟩ : ∃ f, s.size - p = f + 1 := ⟨s.size - p - 1, by omega⟩
  rw [hf, show s.size - (p + 1) = f by omega]
  simp only [lineGo]
  rw [if_pos ⟨h, hi⟩]
theorem lineP_off {s : ByteArray} {p : Nat} (h : ¬ (p < s.size ∧ byteD s p ≠ 10)) : lineP s p = p := by
  unfold lineP
  cases hf : s.size - p with
  | zero => rfl
  | succ f => simp only [lineGo]; rw [if_neg h]
theorem lineGo_bounds (s : ByteArray) : ∀ f p, p ≤ lineGo s f p ∧ (p ≤ s.size → lineGo s f p ≤ s.size) := by
  intro f
  induction f with
  | zero => intro p; exact ⟨Nat.le_refl _, fun h => h⟩
  | succ f ih =>
    intro p
    simp only [lineGo]
    split
    · rename_i h
      have := ih (p + 1)
      exact ⟨by omega, fun _ => this.2 (by omega)⟩
    · exact ⟨Nat.le_refl _, fun h => h⟩
/-- A token: its kind, as the document numbers them, its text, where it begins. -/
structure Tk where
  kind : Nat
  txt : ByteArray
  pos : Nat
/-- What stands next in a text, from a place on. -/
inductive Nx where
  | tok (t : Tk) (next : Nat)
  | bad (p : Nat)
  | stop (p : Nat)
def markN (c : Nat) : Bool := decide (c = 124) || decide (c = 126) || decide (c = 40) || decide (c = 41) || decide (c = 44) || decide (c = 46)
/-- The token that begins at a place where no gap is. -/
def tokAt (s : ByteArray) (p : Nat) : Nx :=
  if smallB (byteD s p) || largeB (byteD s p) then
    (if runP s p - p > 20 then .bad p else .tok ⟨if largeB (byteD s p) then 118 else 110, s.extract p (runP s p), p⟩ (runP s p))
  else if byteD s p = 39 then (match quoP s p with | some (n, e) => .tok ⟨110, n, p⟩ e | none => .bad p)
  else if byteD s p = 36 then (if p + 6 ≤ s.size ∧ s.extract p (p + 6) = ⟨#[36, 102, 97, 108, 115, 101]⟩ then .tok ⟨102, ⟨#[]⟩, p⟩ (p + 6) else .bad p)
  else if markN (byteD s p) then .tok ⟨byteD s p, ⟨#[]⟩, p⟩ (p + 1)
  else .bad p
def gapN (c : Nat) : Bool := decide (c = 32) || decide (c = 9) || decide (c = 10)
/-- What stands next, behind gaps. -/
def nextGo (s : ByteArray) : Nat → Nat → Nx
  | 0, p => .stop p
  | f + 1, p =>
    if p < s.size then
      if gapN (byteD s p) then nextGo s f (p + 1)
      else if byteD s p = 37 then nextGo s f (lineP s p)
      else tokAt s p
    else .stop p
/-- The tokens of a text from a place on, and where one begins that is none. -/
def toksGo (s : ByteArray) : Nat → Nat → List Tk × Option Nat
  | 0, p => ([], some p)
  | f + 1, p =>
    if p < s.size then
      if gapN (byteD s p) then toksGo s f (p + 1)
      else if byteD s p = 37 then toksGo s f (lineP s p)
      else match tokAt s p with
        | .tok t e => (t :: (toksGo s f e).1, (toksGo s f e).2)
        | _ => ([], some p)
    else ([⟨101, ⟨#[]⟩, p⟩], none)

end Go.Proofs.Ytcpdadppblbndaa

namespace Go.Proofs.Ytcpdadppblbndaa
open Go.RowKit
set_option maxRecDepth 100000

theorem ret_pair {a b : Value} {c d : Value} (h : a = c) (k : b = d) : Ending.returned (.tuple #[a, b]) = .returned (.tuple #[c, d]) := by rw [h, k]
theorem rrun_any (s : ByteArray) (p : Nat) (w : World) (hs : s.size ≤ 1000000) (hp : p ≤ s.size) :
    Calls Try.prog 29 #[.string s, .int .i64 p] w fun e w' => e = .returned (.int .i64 (runP s p)) ∧ w' = w := by
  go_enter Try.func29, Try.ntmps29
  go_wp2
  go_loop [1] (fun q => ∃ k : Nat, k ≤ s.size ∧ q = .int .i64 k ∧ runP s k = runP s p) (fun q => s.size - (intOf q).toNat)
  case atStart => exact ⟨p, hp, rfl, rfl⟩
  case round =>
    obtain ⟨k, hk, rfl, hr⟩ := hrel
    by_cases hlt : k < s.size
    · have hlti : (k : Int) < (s.size : Int) := by omega
      have hb := byteD_lt s k hlt
      have cI := hide (inside_any ((s[k]'hlt).toNat : Int) w)
      cases hi : insideB ((s[k]'hlt).toNat : Int) with
      | true =>
        have HR := hide (hr.symm.trans (runP_on hlt (by rw [hb]; exact hi)))
        rw [hi] at cI
        clear hi hr hb
        go_wp2_with (go_at_call 41; refine (unhide cI).mono ?_; rintro e w' ⟨rfl, rfl⟩)
        go_round
        case rel => exact ⟨k + 1, by omega, by go_num, HR.out.symm⟩
        case measure => simp [intOf]; omega
      | false =>
        have HR := hide (hr.symm.trans (runP_off (fun h => by rw [hb, hi] at h; cases h.2)))
        rw [hi] at cI
        clear hi hr hb
        go_wp2_with (go_at_call 41; refine (unhide cI).mono ?_; rintro e w' ⟨rfl, rfl⟩)
        go_ret
        exact ⟨ret_int (by rw [HR.out]), rfl⟩
    · have hlti : ¬ (k : Int) < (s.size : Int) := by omega
      have HR := hide (hr.symm.trans (runP_off (fun h => hlt h.1)))
      clear hr
      go_wp2
      go_ret
      exact ⟨ret_int (by rw [HR.out]), rfl⟩

/-- What quoted answers. -/
def quoV (r : Option (ByteArray × Nat)) : Value := match r with | some (n, e) => .tuple #[.string n, .int .i64 e] | none => .tuple #[.string ⟨#[]⟩, .int .i64 (-1)]

set_option maxHeartbeats 1000000 in
theorem rquoted_any (s : ByteArray) (p : Nat) (w : World) (hs : s.size ≤ 1000000) (hp : p < s.size) :
    Calls Try.prog 30 #[.string s, .int .i64 p] w fun e w' => e = .returned (quoV (quoP s p)) ∧ w' = w := by
  go_enter Try.func30, Try.ntmps30
  go_wp2
  go_loop [1, 6] (fun q y => ∃ (k f : Nat) (nm : ByteArray), k ≤ s.size ∧ q = .int .i64 k ∧ y = .string nm ∧ nm.size ≤ k ∧ s.size < k + f ∧ quoP s p = quoGo s f nm k) (fun q _ => s.size - (intOf q).toNat)
  case atStart => exact ⟨p + 1, s.size, ⟨#[]⟩, by omega, by go_num, rfl, Nat.zero_le _, by omega, rfl⟩
  case round =>
    obtain ⟨k, f, nm, hk, rfl, rfl, hnm, hf, hq⟩ := hrel
    by_cases hlt : k < s.size
    · have hlti : (k : Int) < (s.size : Int) := by omega
      obtain ⟨f, rfl⟩ : ∃ g, f = g + 1 := ⟨f - 1, by omega⟩
      have hb := byteD_lt s k hlt
      simp only [quoGo] at hq
      rw [if_pos hlt] at hq
      have HQ := hide hq
      clear hq
      by_cases h39 : byteD s k = 39
      · have hce : (((s[k]'hlt).toNat : Int) == 39) = true := by rw [beq_iff_eq]; omega
        have CN := hide (rIsName_any nm w (by omega))
        have HQ2 := hide (HQ.out.trans (if_pos h39))
        clear HQ hb
        cases hi : isNameL nm with
        | true =>
          rw [hi] at CN HQ2
          clear hi h39
          go_wp2_with (go_at_call 42; refine (unhide CN).mono ?_; rintro e w' ⟨rfl, rfl⟩)
          go_ret2
          exact ⟨by rw [HQ2.out]; exact ret_pair rfl (by go_num), rfl⟩
        | false =>
          rw [hi] at CN HQ2
          clear hi h39
          go_wp2_with (go_at_call 42; refine (unhide CN).mono ?_; rintro e w' ⟨rfl, rfl⟩)
          go_ret2
          exact ⟨by rw [HQ2.out]; exact ret_pair rfl rfl, rfl⟩
      · have hce : (((s[k]'hlt).toNat : Int) == 39) = false := by rw [beq_eq_false_iff_ne]; omega
        have HQ1 := hide (HQ.out.trans (if_neg h39))
        clear HQ
        by_cases h92 : byteD s k = 92
        · have hce2 : (((s[k]'hlt).toNat : Int) == 92) = true := by rw [beq_iff_eq]; omega
          have HQ2 := hide (HQ1.out.trans (if_pos h92))
          clear HQ1 hb h39 h92
          by_cases hlt2 : k + 1 < s.size
          · have hlt2i : (k : Int) + 1 < (s.size : Int) := by omega
            have hge : ¬ (s.size : Int) ≤ (k : Int) + 1 := by omega
            have hb2 := byteD_lt s (k + 1) hlt2
            by_cases hok : byteD s (k + 1) = 39 ∨ byteD s (k + 1) = 92
            · have HQ3 := hide (HQ2.out.trans (if_pos ⟨hlt2, hok⟩))
              have hc1 : charAt s (k + 1) = 1 := by
                have hz : szN (byteD s (k + 1)) = 1 := by unfold szN; rw [if_pos (by omega)]
                rw [charAt_one s (k + 1) (by omega), hz]
              have cC := char_any s (k + 1) w hlt2 (by omega)
              rw [hc1] at cC
              have h10 : (((s[k + 1]'hlt2).toNat : Int) == 10) = false := by rw [beq_eq_false_iff_ne]; omega
              have hcc : (((s[k + 1]'hlt2).toNat : Int) != 39) = true ∧ (((s[k + 1]'hlt2).toNat : Int) != 92) = false ∨ (((s[k + 1]'hlt2).toNat : Int) != 39) = false := by
                rcases hok with h | h
                · right; rw [hb2] at h; simp; omega
                · left; rw [hb2] at h; simp; omega
              have HE : Hid ((nm ++ s.extract (k + 1) (k + 2)).size ≤ k + 2) := hide (by simp; omega)
              clear HQ2 hok hb2 hc1
              rcases hcc with ⟨hcc, hcc2⟩ | hcc
              · go_wp2_with (go_at_call 43; refine cC.mono ?_; rintro e w' ⟨rfl, rfl⟩)
                go_round
                case rel => exact ⟨k + 2, f, nm ++ s.extract (k + 1) (k + 2), by omega, by go_num, rfl, HE.out, by omega, HQ3.out⟩
                case measure => simp [intOf]; omega
              · go_wp2_with (go_at_call 43; refine cC.mono ?_; rintro e w' ⟨rfl, rfl⟩)
                go_round
                case rel => exact ⟨k + 2, f, nm ++ s.extract (k + 1) (k + 2), by omega, by go_num, rfl, HE.out, by omega, HQ3.out⟩
                case measure => simp [intOf]; omega
            · have HQ3 := hide (HQ2.out.trans (if_neg (fun h => hok h.2)))
              have hcc : (((s[k + 1]'hlt2).toNat : Int) != 39) = true ∧ (((s[k + 1]'hlt2).toNat : Int) != 92) = true := by
                rw [hb2] at hok; simp; omega
              obtain ⟨hcc, hcc2⟩ := hcc
              clear HQ2 hok hb2
              go_wp2
              go_ret2
              exact ⟨by rw [HQ3.out]; exact ret_pair rfl rfl, rfl⟩
          · have HQ3 := hide (HQ2.out.trans (if_neg (fun h => hlt2 h.1)))
            have hge : (s.size : Int) ≤ (k : Int) + 1 := by omega
            clear HQ2
            go_wp2
            go_ret2
            exact ⟨by rw [HQ3.out]; exact ret_pair rfl rfl, rfl⟩
        · have hce2 : (((s[k]'hlt).toNat : Int) == 92) = false := by rw [beq_eq_false_iff_ne]; omega
          have HQ2 := hide (HQ1.out.trans (if_neg h92))
          have cC := char_any s k w hlt (by omega)
          have HL := hide (charAt_le s k hlt)
          by_cases hz : charAt s k = 0
          · have HQ3 := hide (HQ2.out.trans (if_pos (Or.inl hz)))
            rw [hz] at cC
            clear HQ1 HQ2 hb h39 h92 hz HL
            go_wp2_with (go_at_call 43; refine cC.mono ?_; rintro e w' ⟨rfl, rfl⟩)
            go_ret2
            exact ⟨by rw [HQ3.out]; exact ret_pair rfl rfl, rfl⟩
          · by_cases h10 : byteD s k = 10
            · have HQ3 := hide (HQ2.out.trans (if_pos (Or.inr h10)))
              have hc10 : (((s[k]'hlt).toNat : Int) == 10) = true := by rw [beq_iff_eq]; omega
              have hnz : (((charAt s k : Nat) : Int) == 0) = false := by rw [beq_eq_false_iff_ne]; omega
              clear HQ1 HQ2 hb h39 h92 h10
              go_wp2_with (go_at_call 43; refine cC.mono ?_; rintro e w' ⟨rfl, rfl⟩)
              go_ret2
              exact ⟨by rw [HQ3.out]; exact ret_pair rfl rfl, rfl⟩
            · have HQ3 := hide (HQ2.out.trans (if_neg (fun h => h.elim hz h10)))
              have hc10 : (((s[k]'hlt).toNat : Int) == 10) = false := by rw [beq_eq_false_iff_ne]; omega
              have hnz : (((charAt s k : Nat) : Int) == 0) = false := by rw [beq_eq_false_iff_ne]; omega
              have hle := HL.out
              have HE : Hid ((nm ++ s.extract k (k + charAt s k)).size ≤ k + charAt s k) := hide (by simp; omega)
              clear HQ1 HQ2 hb h39 h92 h10 HL
              generalize charAt s k = n at *
              go_wp2_with (go_at_call 43; refine cC.mono ?_; rintro e w' ⟨rfl, rfl⟩)
              go_round
              case rel => exact ⟨k + n, f, nm ++ s.extract k (k + n), by omega, by go_num, rfl, HE.out, by omega, HQ3.out⟩
              case measure => simp [intOf]; omega
    · have hlti : ¬ (k : Int) < (s.size : Int) := by omega
      have HQ : Hid (quoP s p = none) := hide (by rw [hq]; cases f <;> simp [quoGo, hlt])
      clear hq
      go_wp2
      go_ret2
      exact ⟨by rw [HQ.out]; exact ret_pair rfl rfl, rfl⟩

end Go.Proofs.Ytcpdadppblbndaa
