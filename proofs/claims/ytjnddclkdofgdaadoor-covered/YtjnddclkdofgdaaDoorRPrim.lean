/- The document's own answer: letters, digits; a number as it is written; a name as it is written. -/
import Derived.Test.YtjnddclkdofgdaaDoorBase0
import Derived.Laws.BytesArg
namespace Go.Proofs.YtjnddclkdofgdaaDoor
open Go.RowKit
set_option maxRecDepth 100000

def smallB (c : Int) : Bool := decide (97 ≤ c) && decide (c ≤ 122)
def largeB (c : Int) : Bool := decide (65 ≤ c) && decide (c ≤ 90)
def digitB (c : Int) : Bool := decide (48 ≤ c) && decide (c ≤ 57)
/-- May a character stand within a name? -/
def insideB (c : Int) : Bool := smallB c || largeB c || digitB c || c == 95

theorem small_any (c : Int) (w : World) : Calls Tryd.prog 76 #[.int .u8 c] w fun e w' => e = .returned (.bool (smallB c)) ∧ w' = w := by
  unfold smallB
  by_cases h : 97 ≤ c
  · go_enter Tryd.func76, Tryd.ntmps76
    go_wp2
    go_ret
    exact ⟨ret_bool (by rw [Bool.eq_iff_iff]; simp; omega), rfl⟩
  · go_enter Tryd.func76, Tryd.ntmps76
    go_wp2
    go_ret
    exact ⟨ret_bool (by rw [Bool.eq_iff_iff]; simp; omega), rfl⟩
theorem large_any (c : Int) (w : World) : Calls Tryd.prog 97 #[.int .u8 c] w fun e w' => e = .returned (.bool (largeB c)) ∧ w' = w := by
  unfold largeB
  by_cases h : 65 ≤ c
  · go_enter Tryd.func97, Tryd.ntmps97
    go_wp2
    go_ret
    exact ⟨ret_bool (by rw [Bool.eq_iff_iff]; simp; omega), rfl⟩
  · go_enter Tryd.func97, Tryd.ntmps97
    go_wp2
    go_ret
    exact ⟨ret_bool (by rw [Bool.eq_iff_iff]; simp; omega), rfl⟩
theorem digit_any (c : Int) (w : World) : Calls Tryd.prog 98 #[.int .u8 c] w fun e w' => e = .returned (.bool (digitB c)) ∧ w' = w := by
  unfold digitB
  by_cases h : 48 ≤ c
  · go_enter Tryd.func98, Tryd.ntmps98
    go_wp2
    go_ret
    exact ⟨ret_bool (by rw [Bool.eq_iff_iff]; simp; omega), rfl⟩
  · go_enter Tryd.func98, Tryd.ntmps98
    go_wp2
    go_ret
    exact ⟨ret_bool (by rw [Bool.eq_iff_iff]; simp; omega), rfl⟩

theorem inside_any (c : Int) (w : World) : Calls Tryd.prog 77 #[.int .u8 c] w fun e w' => e = .returned (.bool (insideB c)) ∧ w' = w := by
  have c1 := small_any c w
  have c2 := large_any c w
  have c3 := digit_any c w
  have HI : Hid (insideB c = (smallB c || largeB c || digitB c || c == 95)) := rfl
  generalize smallB c = b1 at *
  generalize largeB c = b2 at *
  generalize digitB c = b3 at *
  go_enter Tryd.func77, Tryd.ntmps77
  cases b1 <;> cases b2 <;> cases b3
  all_goals
    go_wp2_with (first
      | (go_at_call 76; refine c1.mono ?_; rintro e w' ⟨rfl, rfl⟩)
      | (go_at_call 97; refine c2.mono ?_; rintro e w' ⟨rfl, rfl⟩)
      | (go_at_call 98; refine c3.mono ?_; rintro e w' ⟨rfl, rfl⟩))
    go_ret
    exact ⟨ret_bool (by rw [HI.out]; simp), rfl⟩

/-- A digit, as it is written. -/
def digU (n : Nat) : UInt8 := UInt8.ofNat (48 + n)
/-- A number from 0 to 99, as it is written. -/
def decB (n : Nat) : List UInt8 := if n < 10 then [digU n] else [digU (n / 10), digU (n % 10)]

theorem decB_len (n : Nat) : (decB n).length ≤ 2 := by
  unfold decB
  split <;> simp
theorem conv_one (w : World) (n : Int) : (convert 63 9 (.slice (some ⟨w.heap.size, 0, none⟩) 1 1)).run Tryd.prog (w.alloc (.cells #[.int .u8 n] 5)) = .ok (.string ⟨#[UInt8.ofNat n.toNat]⟩) (w.alloc (.cells #[.int .u8 n] 5)) := by
  rw [run_convert_bytes_string _ _ _ 5 _ _ _ Tryd.underlying63 Tryd.underlying5 Tryd.underlying9, run_bytesToString _ _ _ _ [n] ?_]
  · rfl
  · have := run_loadCells_list (P := Tryd.prog) (w.alloc (.cells #[.int .u8 n] 5)) ⟨w.heap.size, 0, none⟩ [.int .u8 n] (fun j v hj => by
      match j, hj with
      | 0, hj => simp at hj; subst hj; simp [Addr.add]
      | j + 1, hj => simp at hj)
    simpa using this

theorem conv_dig (w : World) (n : Nat) : (convert 63 9 (.slice (some ⟨w.heap.size, 0, none⟩) 1 1)).run Tryd.prog (w.alloc (.cells #[.int .u8 (48 + (n : Int) % 10)] 5)) = .ok (.string ⟨#[digU (n % 10)]⟩) (w.alloc (.cells #[.int .u8 (48 + (n : Int) % 10)] 5)) := by
  rw [conv_one]
  have : (48 + (n : Int) % 10).toNat = 48 + n % 10 := by omega
  rw [this]
  rfl

theorem decimal_one (n : Nat) (w : World) (h : n < 10) : Calls Tryd.prog 53 #[.int .i64 n] w fun e w' => e = .returned (.string ⟨(decB n).toArray⟩) ∧ Below w.heap.size w w' := by
  have hc := conv_dig w n
  have HR : Hid ((⟨#[digU (n % 10)]⟩ : ByteArray) = ⟨(decB n).toArray⟩) := by
    unfold decB
    rw [if_pos h]
    have : n % 10 = n := by omega
    rw [this]
    exact rfl
  go_enter Tryd.func53, Tryd.ntmps53
  go_wp2
  go_ret
  exact ⟨by rw [← HR.out]; rfl, (Below.refl _ _).alloc (Nat.le_refl _) _⟩

theorem decimal_any (n : Nat) (w : World) (h : n < 100) : Calls Tryd.prog 53 #[.int .i64 n] w fun e w' => e = .returned (.string ⟨(decB n).toArray⟩) ∧ Below w.heap.size w w' := by
  by_cases h10 : n < 10
  · exact decimal_one n w h10
  · have hc := conv_dig w n
    have HC := hide (fun wx => decimal_one (n / 10) wx (by omega))
    have HR : Hid ((⟨(decB (n / 10)).toArray⟩ : ByteArray) ++ ⟨#[digU (n % 10)]⟩ = ⟨(decB n).toArray⟩) := by
      unfold decB
      rw [if_neg h10, if_pos (by omega)]
      exact rfl
    have hdl := decB_len (n / 10)
    go_enter Tryd.func53, Tryd.ntmps53
    go_wp2_with (go_at_call 53; refine (unhide HC _).mono ?_; rintro e w' ⟨rfl, hb⟩; have HB := hide hb; clear hb)
    go_ret
    exact ⟨by rw [← HR.out]; rfl, ((Below.refl _ _).alloc (Nat.le_refl _) _).trans (HB.out.mono (by simp))⟩

end Go.Proofs.YtjnddclkdofgdaaDoor
