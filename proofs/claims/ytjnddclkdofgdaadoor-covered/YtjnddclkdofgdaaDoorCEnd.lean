/- The program: the place behind a term. -/
import Derived.Test.YtjnddclkdofgdaaDoorCBind
import Derived.Test.YtjnddclkdofgdaaDoorRCov1
namespace Go.Proofs.YtjnddclkdofgdaaDoor
open Go.RowKit Go.Shelf
set_option maxRecDepth 100000

set_option maxHeartbeats 400000 in
theorem end_any (a : Option Addr) (cp : Nat) (l : List Nd) (i q : Nat) (w : World) (h : NodesIn w a l) (h60 : l.length ≤ 60) (ht : termGo (l.drop i) (1 + q) = true) (hi : i ≤ l.length) :
    Calls Tryd.prog 128 #[.slice a l.length cp, .int .i64 i] w fun e w' => e = .returned (.int .i64 ((i + endGo (l.drop i) 1 : Nat))) ∧ Below w.heap.size w w' := by
  go_enter Tryd.func128, Tryd.ntmps128
  go_wp2
  go_loopw [1, 5] (fun j m wr => ∃ k p : Nat, k ≤ l.length ∧ p ≤ 1 + 5 * k ∧ j = .int .i64 k ∧ m = .int .i64 p ∧ Below w.heap.size w wr ∧ i + endGo (l.drop i) 1 = k + endGo (l.drop k) p ∧ termGo (l.drop k) (p + q) = true) (fun j _ _ => l.length - (intOf j).toNat)
  case atStart => exact ⟨i, 1, hi, by omega, rfl, rfl, Below.refl _ _, rfl, ht⟩
  case round =>
    obtain ⟨k, p, hk, hp, rfl, rfl, hb, he, hg⟩ := hrel
    cases p with
    | zero =>
      have HE := hide he
      have HB := hide hb
      clear he hb hg
      go_wp2
      go_ret
      exact ⟨ret_int (by rw [HE.out]; simp), HB.out⟩
    | succ p =>
      have hlt : k < l.length := term_left (q := p + q) (by rw [← hg]; congr 1; omega)
      obtain ⟨b, o, rfl, e1, f1⟩ := h.cell k hlt
      have e2 := Below.at' hb (Nat.le_refl _) e1
      have f2 := Below.at' hb (Nat.le_refl _) f1
      rw [endGo_step l k p hlt] at he
      rw [show p + 1 + q = (p + q) + 1 by omega, termGo_step l k (p + q) hlt, Bool.and_eq_true] at hg
      obtain ⟨hok, hg⟩ := hg
      generalize l[k] = nd at *
      obtain ⟨s, x⟩ := nd
      simp only at e2 f2
      clear e1 f1 h
      have hbs := hb.size
      have HB := hide hb
      have HE := hide he
      have HG := hide hg
      have CP := hide (fun wx => parts_any s x wx)
      clear hb he hg
      by_cases hv : s.toList.isEmpty = true
      · have HW : Hid (wants (s, x) = 0) := hide (wants_var hv)
        rw [if_pos hv] at CP
        clear hok hv
        go_wp2_with (go_at_call 79; refine (unhide CP _).mono ?_; rintro e w1 ⟨rfl, hb1⟩; have HB1 := hide (HB.out.trans (hb1.mono hbs)); clear hb1)
        go_roundw
        case rel => exact ⟨k + 1, p, by omega, by omega, by go_num, by go_num, HB1.out, by rw [HE.out, HW.out]; simp; omega, by have := HG.out; rw [HW.out] at this; rw [← this]; congr 1⟩
        case measure => simp [intOf]; omega
      · obtain ⟨hx1, hx2, hw⟩ := wants_name hok hv
        have HW := hide hw
        rw [if_neg hv] at CP
        clear hok hw hv
        go_wp2_with (go_at_call 79; refine (unhide CP _).mono ?_; rintro e w1 ⟨rfl, hb1⟩; have HB1 := hide (HB.out.trans (hb1.mono hbs)); clear hb1)
        go_roundw
        case rel => exact ⟨k + 1, p + x.toNat, by omega, by omega, by go_num, by go_num, HB1.out, by rw [HE.out, HW.out]; omega, by have := HG.out; rw [HW.out] at this; rw [← this]; congr 1; omega⟩
        case measure => simp [intOf]; omega

end Go.Proofs.YtjnddclkdofgdaaDoor
