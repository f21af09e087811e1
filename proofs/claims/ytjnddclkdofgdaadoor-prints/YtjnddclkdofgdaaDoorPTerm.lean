/- The program: names, nodes, terms, atoms, sizes. -/
import Derived.Test.YtjnddclkdofgdaaDoorNameEq
import Derived.Test.YtjnddclkdofgdaaDoorShelf
import Derived.Test.YtjnddclkdofgdaaDoorRClause
namespace Go.Proofs.YtjnddclkdofgdaaDoor
open Go.RowKit Go.Shelf
set_option maxRecDepth 100000

/-- The library's two tables lie where the program has them. -/
def Tabs (w : World) : Prop := Lib.Utf8Tabs (ren.g 3) (ren.g 4) w
theorem Tabs.below {w w1 : World} (h : Tabs w) {B : Nat} (k : Below B w w1) (hB : w.heap.size ≤ B) : Tabs w1 :=
  ⟨fun c hc => Below.at' k hB (h.1 c hc), fun i hi => ⟨Below.at' k hB (h.2 i hi).1, Below.at' k hB (h.2 i hi).2⟩⟩

theorem isVariable_any (s : ByteArray) (x : Int) (w : World) :
    Calls Tryd.prog 47 #[.agg #[.string s, .int .i64 x]] w fun e w' => e = .returned (.bool s.toList.isEmpty) ∧ Below w.heap.size w w' := by
  go_enter Tryd.func47, Tryd.ntmps47
  go_wp2
  go_ret
  exact ⟨rfl, (Below.refl _ _).alloc (Nat.le_refl _) _⟩

set_option maxHeartbeats 400000 in
theorem lIsName_any (s : ByteArray) (w : World) (hs : s.size ≤ 140737488355328) (hT : Tabs w) :
    Calls Tryd.prog 99 #[.string s] w fun e w' => e = .returned (.bool (isNameL s)) ∧ Below w.heap.size w w' := by
  by_cases h80 : s.size ≤ 80
  · have cV : Calls Tryd.prog 118 #[.string s] w _ := Any.utf8_ValidString lays196 s w (by omega) hT
    have cC := fun wx => (Any.strings_Contains_one lays144 s 10 wx : Calls Tryd.prog 119 #[.string s, .string ⟨#[10]⟩] wx _)
    have cR := fun wx => (Any.utf8_RuneCountInString lays195 s wx (by omega) : Calls Tryd.prog 120 #[.string s] wx _)
    have heq := isNameL_eq s
    have hrc := Lib.runeCount_le s
    generalize Lib.validD s.data.toList = v at *
    generalize decide (0 ≤ Lib.indexByte s.data.toList 10) = n at *
    generalize Lib.runeCount s = r at *
    have HE := hide heq
    have HV := hide cV
    have HC := hide cC
    have HR := hide cR
    clear heq cV cC cR hT
    cases v
    · go_enter Tryd.func99, Tryd.ntmps99
      go_wp2_with (go_at_call 118; refine (unhide HV).mono ?_; rintro e w' ⟨rfl, hb⟩; have HB := hide hb; clear hb)
      go_ret
      exact ⟨ret_bool (by rw [HE.out]; rfl), HB.out⟩
    · cases n
      · go_enter Tryd.func99, Tryd.ntmps99
        go_wp2_with (first
          | (go_at_call 118; refine (unhide HV).mono ?_; rintro e w' ⟨rfl, hb⟩; have HB := hide hb; clear hb)
          | (go_at_call 119; refine (unhide HC _).mono ?_; rintro e w2 ⟨rfl, rfl⟩)
          | (go_at_call 120; refine (unhide HR _).mono ?_; rintro e w3 ⟨rfl, pos, rfl⟩))
        all_goals
          go_ret
          refine ⟨ret_bool ?_, HB.out.alloc HB.out.size _⟩
          rw [HE.out, Bool.eq_iff_iff]
          simp
          omega
      · go_enter Tryd.func99, Tryd.ntmps99
        go_wp2_with (first
          | (go_at_call 118; refine (unhide HV).mono ?_; rintro e w' ⟨rfl, hb⟩; have HB := hide hb; clear hb)
          | (go_at_call 119; refine (unhide HC _).mono ?_; rintro e w2 ⟨rfl, rfl⟩))
        go_ret
        exact ⟨ret_bool (by rw [HE.out]; rfl), HB.out⟩
  · have HE : Hid (isNameL s = false) := by
      cases h : isNameL s
      · exact rfl
      · have := (isNameL_size s h).2; omega
    clear hT
    go_enter Tryd.func99, Tryd.ntmps99
    go_wp2
    go_ret
    exact ⟨ret_bool HE.out.symm, Below.refl _ _⟩

end Go.Proofs.YtjnddclkdofgdaaDoor
