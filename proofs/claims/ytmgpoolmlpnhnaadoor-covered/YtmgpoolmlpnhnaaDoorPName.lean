/- The program: a name is written. -/
import Derived.Test.YtmgpoolmlpnhnaaDoorPOdds2
namespace Go.Proofs.YtmgpoolmlpnhnaaDoor
open Go.RowKit Go.Shelf
set_option maxRecDepth 100000

theorem isLower_any (c : Int) (w : World) : Calls Tryd.prog 99 #[.int .i32 c] w fun e w' => e = .returned (.bool (smallB c)) ∧ w' = w := by
  unfold smallB
  by_cases h : 97 ≤ c
  all_goals
    go_enter Tryd.func99, Tryd.ntmps99
    go_wp2
    go_ret
    exact ⟨ret_bool (by rw [Bool.eq_iff_iff]; simp; omega), rfl⟩
theorem isUpper_any (c : Int) (w : World) : Calls Tryd.prog 121 #[.int .i32 c] w fun e w' => e = .returned (.bool (largeB c)) ∧ w' = w := by
  unfold largeB
  by_cases h : 65 ≤ c
  all_goals
    go_enter Tryd.func121, Tryd.ntmps121
    go_wp2
    go_ret
    exact ⟨ret_bool (by rw [Bool.eq_iff_iff]; simp; omega), rfl⟩
theorem isDigit_any (c : Int) (w : World) : Calls Tryd.prog 122 #[.int .i32 c] w fun e w' => e = .returned (.bool (digitB c)) ∧ w' = w := by
  unfold digitB
  by_cases h : 48 ≤ c
  all_goals
    go_enter Tryd.func122, Tryd.ntmps122
    go_wp2
    go_ret
    exact ⟨ret_bool (by rw [Bool.eq_iff_iff]; simp; omega), rfl⟩
theorem isInWord_any (c : Int) (w : World) : Calls Tryd.prog 98 #[.int .i32 c] w fun e w' => e = .returned (.bool (insideB c)) ∧ w' = w := by
  have c1 := isLower_any c w
  have c2 := isUpper_any c w
  have c3 := isDigit_any c w
  have HI : Hid (insideB c = (smallB c || largeB c || digitB c || c == 95)) := rfl
  generalize smallB c = b1 at *
  generalize largeB c = b2 at *
  generalize digitB c = b3 at *
  go_enter Tryd.func98, Tryd.ntmps98
  cases b1 <;> cases b2 <;> cases b3
  all_goals
    go_wp2_with (first
      | (go_at_call 99; refine c1.mono ?_; rintro e w' ⟨rfl, rfl⟩)
      | (go_at_call 121; refine c2.mono ?_; rintro e w' ⟨rfl, rfl⟩)
      | (go_at_call 122; refine c3.mono ?_; rintro e w' ⟨rfl, rfl⟩))
    go_ret
    exact ⟨ret_bool (by rw [HI.out]; simp), rfl⟩
def escI (c : Int) : Bool := decide (c = 39) || decide (c = 92)
theorem isEscaped_any (c : Int) (w : World) : Calls Tryd.prog 74 #[.int .i32 c] w fun e w' => e = .returned (.bool (escI c)) ∧ w' = w := by
  by_cases h : c = 39
  · have h1 : (c == 39) = true := by simp [h]
    have HE := hide (show escI c = true by simp [escI, h])
    clear h
    go_enter Tryd.func74, Tryd.ntmps74
    go_wp2
    go_ret
    exact ⟨ret_bool HE.out.symm, rfl⟩
  · have h1 : (c == 39) = false := by simp [h]
    have HE := hide (show escI c = (c == 92) by simp [escI, h]; rfl)
    clear h
    go_enter Tryd.func74, Tryd.ntmps74
    go_wp2
    go_ret
    exact ⟨ret_bool HE.out.symm, rfl⟩

end Go.Proofs.YtmgpoolmlpnhnaaDoor
