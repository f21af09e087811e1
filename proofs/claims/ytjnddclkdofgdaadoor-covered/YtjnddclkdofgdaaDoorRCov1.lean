/- The document's own answer: the place behind a term. -/
import Derived.Test.YtjnddclkdofgdaaDoorCMem
import Derived.Test.YtjnddclkdofgdaaDoorRRen
namespace Go.Proofs.YtjnddclkdofgdaaDoor
open Go.RowKit
set_option maxRecDepth 100000

theorem wants_le {n : Nd} (h : nodeOk n = true) : wants n ≤ 5 := by
  by_cases hv : varB n = true
  · simp [wants, hv]
  · have : isNameL n.1 = true ∧ 0 ≤ n.2 ∧ n.2 ≤ 5 := by simpa [nodeOk, hv] using h
    simp [wants, hv]
    omega
theorem wants_name {s : ByteArray} {x : Int} (h : nodeOk (s, x) = true) (hv : ¬ s.toList.isEmpty = true) : 0 ≤ x ∧ x ≤ 5 ∧ wants (s, x) = x.toNat := by
  have h1 : isNameL s = true ∧ 0 ≤ x ∧ x ≤ 5 := by simpa [nodeOk, varB, hv] using h
  exact ⟨h1.2.1, h1.2.2, by unfold wants varB; rw [if_neg hv]⟩

set_option maxHeartbeats 400000 in
theorem behind_any (a : Option Addr) (cp : Nat) (l : List Nd) (i q : Nat) (w : World) (h : NodesIn w a l) (h60 : l.length ≤ 60) (ht : termGo (l.drop i) (1 + q) = true) (hi : i ≤ l.length) :
    Calls Tryd.prog 108 #[.slice a l.length cp, .int .i64 i] w fun e w' => e = .returned (.int .i64 ((i + endGo (l.drop i) 1 : Nat))) ∧ Below w.heap.size w w' := by
  go_enter Tryd.func108, Tryd.ntmps108
  go_wp2
  go_loopw [1, 5] (fun j m wr => ∃ k p : Nat, k ≤ l.length ∧ p ≤ 1 + 5 * k ∧ j = .int .i64 k ∧ m = .int .i64 p ∧ Below w.heap.size w wr ∧ i + endGo (l.drop i) 1 = k + endGo (l.drop k) p ∧ termGo (l.drop k) (p + q) = true) (fun j _ _ => l.length - (intOf j).toNat)
  case atStart => exact ⟨i, 1, hi, by omega, rfl, rfl, Below.refl _ _, rfl, ht⟩
  case round =>
    obtain ⟨k, p, hk, hp, rfl, rfl, hb, he, hg⟩ := hrel
    cases p with
    | zero =>
      have HE := hide he
      have HB := hide hb
      clear he hb hg
      go_wp2
      go_ret
      exact ⟨ret_int (by rw [HE.out]; simp), HB.out⟩
    | succ p =>
      have hlt : k < l.length := term_left (q := p + q) (by rw [← hg]; congr 1; omega)
      obtain ⟨b, o, rfl, e1, f1⟩ := h.cell k hlt
      have e2 := Below.at' hb (Nat.le_refl _) e1
      have f2 := Below.at' hb (Nat.le_refl _) f1
      rw [endGo_step l k p hlt] at he
      rw [show p + 1 + q = (p + q) + 1 by omega, termGo_step l k (p + q) hlt, Bool.and_eq_true] at hg
      obtain ⟨hok, hg⟩ := hg
      generalize l[k] = nd at *
      obtain ⟨s, x⟩ := nd
      simp only at e2 f2
      clear e1 f1 h
      have HB := hide hb
      have HE := hide he
      have HG := hide hg
      clear hb he hg
      by_cases hv : s.toList.isEmpty = true
      · have HW : Hid (wants (s, x) = 0) := hide (wants_var hv)
        clear hok
        go_wp2
        go_roundw
        case rel => exact ⟨k + 1, p, by omega, by omega, by go_num, by go_num, (by first | exact HB.out | exact HB.out.alloc HB.out.size _), by rw [HE.out, HW.out]; simp; omega, by have := HG.out; rw [HW.out] at this; rw [← this]; congr 1⟩
        case measure => simp [intOf]; omega
      · obtain ⟨hx1, hx2, hw⟩ := wants_name hok hv
        have HW := hide hw
        have hv' : s.toList.isEmpty = false := by simpa using hv
        clear hok hw hv
        go_wp2
        go_roundw
        case rel => exact ⟨k + 1, p + x.toNat, by omega, by omega, by go_num, by go_num, (by first | exact HB.out | exact HB.out.alloc HB.out.size _), by rw [HE.out, HW.out]; omega, by have := HG.out; rw [HW.out] at this; rw [← this]; congr 1; omega⟩
        case measure => simp [intOf]; omega

end Go.Proofs.YtjnddclkdofgdaaDoor
