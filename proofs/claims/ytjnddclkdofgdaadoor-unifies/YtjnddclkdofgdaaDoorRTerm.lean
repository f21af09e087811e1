/- The document's own answer: is a list of nodes a term. -/
import Derived.Test.YtjnddclkdofgdaaDoorBase
import Derived.Test.YtjnddclkdofgdaaDoorRName
namespace Go.Proofs.YtjnddclkdofgdaaDoor
open Go.RowKit
set_option maxRecDepth 100000

/-- Is a node a variable? -/
def varB (n : Nd) : Bool := n.1.toList.isEmpty
/-- May a node stand in a term? -/
def nodeOk (n : Nd) : Bool := if varB n then decide (0 ≤ n.2) && decide (n.2 < 60) else isNameL n.1 && (decide (0 ≤ n.2) && decide (n.2 ≤ 5))
/-- How many terms are wanted behind a node. -/
def wants (n : Nd) : Nat := if varB n then 0 else n.2.toNat
/-- Nodes, where so many terms are wanted: are they just these? -/
def termGo : List Nd → Nat → Bool
  | [], q => decide (q = 0)
  | n :: r, q => if q = 0 then false else if nodeOk n then termGo r (q - 1 + wants n) else false
/-- Is a list of nodes a term, of a size that may be? -/
def isTermL (l : List Nd) : Bool := termGo l 1 && decide (l.length ≤ 60)
theorem termGo_zero (l : List Nd) (k : Nat) (h : k < l.length) : termGo (l.drop k) 0 = false := by
  rw [List.drop_eq_getElem_cons h]; simp [termGo]
theorem termGo_bad (l : List Nd) (k q : Nat) (h : k < l.length) (hb : nodeOk l[k] = false) : termGo (l.drop k) q = false := by
  rw [List.drop_eq_getElem_cons h]; simp [termGo, hb]
theorem termGo_on (l : List Nd) (k q : Nat) (h : k < l.length) (hq : q ≠ 0) (hb : nodeOk l[k] = true) : termGo (l.drop k) q = termGo (l.drop (k + 1)) (q - 1 + wants l[k]) := by
  rw [List.drop_eq_getElem_cons h]; simp [termGo, hb, hq]

set_option maxHeartbeats 1000000 in
theorem rIsTerm_any (a : Option Addr) (cp : Nat) (l : List Nd) (w : World) (h : NodesIn w a l) :
    Calls Tryd.prog 37 #[.slice a l.length cp] w fun e w' => e = .returned (.bool (isTermL l)) ∧ Below w.heap.size w w' := by
  have hfew := h.few
  go_enter Tryd.func37, Tryd.ntmps37
  go_wp2
  go_loopw [3, 4] (fun q i wr => ∃ k m : Nat, k ≤ l.length ∧ m ≤ 1 + 5 * k ∧ i = .int .i64 k ∧ q = .int .i64 m ∧ Below w.heap.size w wr ∧ termGo l 1 = termGo (l.drop k) m) (fun _ i _ => l.length - (intOf i).toNat)
  case atStart => exact ⟨0, 1, by omega, by omega, rfl, rfl, Below.refl _ _, rfl⟩
  case round =>
    obtain ⟨k, m, hk, hm, rfl, rfl, hbel, hg⟩ := hrel
    by_cases hlt : k < l.length
    · obtain ⟨b, o, rfl, e1, f1⟩ := h.cell k hlt
      have e2 := Below.at' hbel (Nat.le_refl _) e1
      have f2 := Below.at' hbel (Nat.le_refl _) f1
      have hsh := h.short k hlt
      clear e1 f1 h
      by_cases hm0 : m = 0
      · subst hm0
        rw [termGo_zero l k hlt] at hg
        have HR : Hid (isTermL l = false) := by unfold isTermL; rw [hg]; rfl
        have HB := hide hbel
        clear hg hbel
        go_wp2
        go_ret
        exact ⟨ret_bool HR.out.symm, HB.out.alloc HB.out.size _⟩
      · have hb1 : ((m : Int) == 0) = false := by rw [beq_eq_false_iff_ne]; omega
        have hon := termGo_on l k m hlt hm0
        have hbad := termGo_bad l k m hlt
        generalize l[k] = nd at *
        obtain ⟨s, x⟩ := nd
        simp only at e2 f2 hsh
        have cN := fun wx => rIsName_any s wx (by omega)
        by_cases hok : nodeOk (s, x) = true
        · have hg2 := hg.trans (hon hok)
          have HG := hide hg2
          have HB := hide hbel
          clear hg hg2 hon hbad hbel
          by_cases hv : s.toList.isEmpty = true
          · have hx : 0 ≤ x ∧ x < 60 := by simpa [nodeOk, varB, hv] using hok
            have HW : Hid (wants (s, x) = 0) := by unfold wants varB; rw [if_pos hv]; exact rfl
            obtain ⟨hx1, hx2⟩ := hx
            clear hok
            go_wp2
            go_roundw
            case rel => exact ⟨k + 1, m - 1, by omega, by omega, by go_num, by go_num, HB.out.alloc HB.out.size _, by rw [HG.out, HW.out]; rfl⟩
            case measure => simp [intOf]; omega
          · have hx : isNameL s = true ∧ 0 ≤ x ∧ x ≤ 5 := by simpa [nodeOk, varB, hv] using hok
            have HW : Hid (wants (s, x) = x.toNat) := by unfold wants varB; rw [if_neg hv]; exact rfl
            obtain ⟨hn, hx1, hx2⟩ := hx
            simp only [hn] at cN
            have HC := hide cN
            have hv' : s.toList.isEmpty = false := by simpa using hv
            clear hok cN hn hv
            go_wp2_with (go_at_call 61; refine (unhide HC _).mono ?_; rintro e w' ⟨rfl, rfl⟩)
            go_roundw
            case rel => exact ⟨k + 1, m - 1 + x.toNat, by omega, by omega, by go_num, by go_num, HB.out.alloc HB.out.size _, by rw [HG.out, HW.out]⟩
            case measure => simp [intOf]; omega
        · have hok' : nodeOk (s, x) = false := by simpa using hok
          rw [hbad hok'] at hg
          have HR : Hid (isTermL l = false) := by unfold isTermL; rw [hg]; rfl
          have HB := hide hbel
          clear hg hon hbad hbel
          by_cases hv : s.toList.isEmpty = true
          · have hx : x < 0 ∨ 60 ≤ x := by
              have : ¬ (0 ≤ x ∧ x < 60) := by simpa [nodeOk, varB, hv] using hok
              omega
            clear hok hok'
            rcases hx with hx | hx
            all_goals
              go_wp2
              go_ret
              exact ⟨ret_bool HR.out.symm, HB.out.alloc HB.out.size _⟩
          · have hv' : s.toList.isEmpty = false := by simpa using hv
            have hx : isNameL s = false ∨ (isNameL s = true ∧ (x < 0 ∨ 5 < x)) := by
              cases hn : isNameL s
              · exact Or.inl rfl
              · have : ¬ (0 ≤ x ∧ x ≤ 5) := by simpa [nodeOk, varB, hv, hn] using hok
                exact Or.inr ⟨rfl, by omega⟩
            clear hok hok' hv
            rcases hx with hx | ⟨hx, hy | hy⟩
            all_goals
              simp only [hx] at cN
              have HC := hide cN
              clear cN hx
              go_wp2_with (go_at_call 61; refine (unhide HC _).mono ?_; rintro e w' ⟨rfl, rfl⟩)
              go_ret
              exact ⟨ret_bool HR.out.symm, HB.out.alloc HB.out.size _⟩
    · have hd : l.drop k = [] := List.drop_eq_nil_of_le (by omega)
      rw [hd] at hg
      have HR : Hid (isTermL l = (decide (m = 0) && decide (l.length ≤ 60))) := by unfold isTermL; rw [hg]; rfl
      have HB := hide hbel
      clear hg hd hbel
      go_wp2
      all_goals
        go_ret
        refine ⟨ret_bool ?_, HB.out⟩
        rw [HR.out, Bool.eq_iff_iff]
        simp
        omega

end Go.Proofs.YtjnddclkdofgdaaDoor
