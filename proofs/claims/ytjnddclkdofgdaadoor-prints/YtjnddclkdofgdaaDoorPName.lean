/- The program: a name is written. -/
import Derived.Test.YtjnddclkdofgdaaDoorPOdds2
namespace Go.Proofs.YtjnddclkdofgdaaDoor
open Go.RowKit Go.Shelf
set_option maxRecDepth 100000

theorem isLower_any (c : Int) (w : World) : Calls Tryd.prog 95 #[.int .i32 c] w fun e w' => e = .returned (.bool (smallB c)) ∧ w' = w := by
  unfold smallB
  by_cases h : 97 ≤ c
  all_goals
    go_enter Tryd.func95, Tryd.ntmps95
    go_wp2
    go_ret
    exact ⟨ret_bool (by rw [Bool.eq_iff_iff]; simp; omega), rfl⟩
theorem isUpper_any (c : Int) (w : World) : Calls Tryd.prog 115 #[.int .i32 c] w fun e w' => e = .returned (.bool (largeB c)) ∧ w' = w := by
  unfold largeB
  by_cases h : 65 ≤ c
  all_goals
    go_enter Tryd.func115, Tryd.ntmps115
    go_wp2
    go_ret
    exact ⟨ret_bool (by rw [Bool.eq_iff_iff]; simp; omega), rfl⟩
theorem isDigit_any (c : Int) (w : World) : Calls Tryd.prog 116 #[.int .i32 c] w fun e w' => e = .returned (.bool (digitB c)) ∧ w' = w := by
  unfold digitB
  by_cases h : 48 ≤ c
  all_goals
    go_enter Tryd.func116, Tryd.ntmps116
    go_wp2
    go_ret
    exact ⟨ret_bool (by rw [Bool.eq_iff_iff]; simp; omega), rfl⟩
theorem isInWord_any (c : Int) (w : World) : Calls Tryd.prog 94 #[.int .i32 c] w fun e w' => e = .returned (.bool (insideB c)) ∧ w' = w := by
  have c1 := isLower_any c w
  have c2 := isUpper_any c w
  have c3 := isDigit_any c w
  have HI : Hid (insideB c = (smallB c || largeB c || digitB c || c == 95)) := rfl
  generalize smallB c = b1 at *
  generalize largeB c = b2 at *
  generalize digitB c = b3 at *
  go_enter Tryd.func94, Tryd.ntmps94
  cases b1 <;> cases b2 <;> cases b3
  all_goals
    go_wp2_with (first
      | (go_at_call 95; refine c1.mono ?_; rintro e w' ⟨rfl, rfl⟩)
      | (go_at_call 115; refine c2.mono ?_; rintro e w' ⟨rfl, rfl⟩)
      | (go_at_call 116; refine c3.mono ?_; rintro e w' ⟨rfl, rfl⟩))
    go_ret
    exact ⟨ret_bool (by rw [HI.out]; simp), rfl⟩
def escI (c : Int) : Bool := decide (c = 39) || decide (c = 92)
theorem isEscaped_any (c : Int) (w : World) : Calls Tryd.prog 73 #[.int .i32 c] w fun e w' => e = .returned (.bool (escI c)) ∧ w' = w := by
  by_cases h : c = 39
  · have h1 : (c == 39) = true := by simp [h]
    have HE := hide (show escI c = true by simp [escI, h])
    clear h
    go_enter Tryd.func73, Tryd.ntmps73
    go_wp2
    go_ret
    exact ⟨ret_bool HE.out.symm, rfl⟩
  · have h1 : (c == 39) = false := by simp [h]
    have HE := hide (show escI c = (c == 92) by simp [escI, h]; rfl)
    clear h
    go_enter Tryd.func73, Tryd.ntmps73
    go_wp2
    go_ret
    exact ⟨ret_bool HE.out.symm, rfl⟩

end Go.Proofs.YtjnddclkdofgdaaDoor
