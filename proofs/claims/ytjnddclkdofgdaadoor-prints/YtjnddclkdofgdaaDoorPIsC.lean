/- The program: IsClause. -/
import Derived.Test.YtjnddclkdofgdaaDoorPIn
namespace Go.Proofs.YtjnddclkdofgdaaDoor
open Go.RowKit Go.Shelf
set_option maxRecDepth 100000

set_option maxHeartbeats 400000 in
theorem inOrder_any (a : Option Addr) (cp : Nat) (c : List Lt) (w : World) (h : LitsIn w a c) (h60 : countL c ≤ 60) (hn : ∀ x ∈ c, NonNeg x.2) :
    Calls Tryd.prog 46 #[.slice a c.length cp] w fun e w' => e = .returned (.bool (decide (c = ordL c))) ∧ Below w.heap.size w w' := by
  have HE := hide (inOrder_eq c hn)
  have CD := hide (distinct_any a cp c w h)
  have hf := h.few
  have hdb := (dedL_bounds c).1
  have CN := hide (fun wx (hx : LitsIn wx a c) => isNumbered_any a cp c wx hx h60)
  have HH := hide h
  clear h hn
  by_cases hl : (dedL c).length = c.length
  · have hle : (((dedL c).length : Int) == (c.length : Int)) = true := by rw [beq_iff_eq]; omega
    have HR : Hid (decide (c = ordL c) = (numC c).isSome) := hide (by rw [HE.out, hl]; simp)
    clear hl
    generalize hdl : (dedL c).length = m at *
    go_enter Tryd.func46, Tryd.ntmps46
    go_wp2_with (first
      | (go_at_call 68; refine (unhide CD).mono ?_; rintro e w1 ⟨v, P, rfl, hP, hA, ho, hb⟩; obtain ⟨va, vcp, rfl⟩ := own_shape ho; have hPl : P.length = m := (by rw [← hdl, ← hP]; simp); rw [hPl]; have HB := hide hb; have hbs := hb.size; clear hP hA ho hb hPl)
      | (go_at_call 69; refine (unhide CN _ (HH.out.below HB.out (Nat.le_refl _))).mono ?_; rintro e w2 ⟨rfl, hb2⟩; have HB2 := hide (HB.out.trans (hb2.mono hbs)); clear hb2))
    go_ret
    exact ⟨ret_bool HR.out.symm, HB2.out⟩
  · have hle : (((dedL c).length : Int) == (c.length : Int)) = false := by rw [beq_eq_false_iff_ne]; omega
    have HR : Hid (decide (c = ordL c) = false) := hide (by rw [HE.out]; simp [hl])
    clear hl
    generalize hdl : (dedL c).length = m at *
    go_enter Tryd.func46, Tryd.ntmps46
    go_wp2_with (first
      | (go_at_call 68; refine (unhide CD).mono ?_; rintro e w1 ⟨v, P, rfl, hP, hA, ho, hb⟩; obtain ⟨va, vcp, rfl⟩ := own_shape ho; have hPl : P.length = m := (by rw [← hdl, ← hP]; simp); rw [hPl]; have HB := hide hb; clear hP hA ho hb hPl))
    go_ret
    exact ⟨ret_bool HR.out.symm, HB.out⟩

set_option maxHeartbeats 1000000 in
theorem lIsClause_any (a : Option Addr) (cp : Nat) (c : List Lt) (w : World) (h : LitsIn w a c) (hT : Tabs w) :
    Calls Tryd.prog 26 #[.slice a c.length cp] w fun e w' => e = .returned (.bool (isClauseL c)) ∧ Below w.heap.size w w' := by
  have hf := h.few
  have cF := lFits_any a cp c w h
  have HT := hide hT
  have HH := hide h
  clear hT
  by_cases hfit : fitsL c = true
  · have hcount : c.length ≤ 8 ∧ countL c ≤ 60 := by simpa [fitsL] using hfit
    rw [hfit] at cF
    have HF := hide cF
    have HE : Hid (isClauseL c = ((c.all fun l => atomB l.2) && decide (c = ordL c))) := by unfold isClauseL; rw [hfit]; exact Bool.true_and _ ▸ rfl
    obtain ⟨h8, h60⟩ := hcount
    clear cF hfit h
    go_enter Tryd.func26, Tryd.ntmps26
    go_wp2_with (go_at_call 44; refine (unhide HF).mono ?_; rintro e w0 ⟨rfl, hb0⟩)
    go_loopw [10] (fun i wr => ∃ k : Nat, k ≤ c.length ∧ i = .int .i64 k ∧ Below w.heap.size w wr ∧ ((c.take k).all fun l => atomB l.2) = true) (fun i _ => c.length - (intOf i).toNat)
    case atStart => exact ⟨0, Nat.zero_le _, rfl, hb0, rfl⟩
    case round =>
      obtain ⟨k, hk, rfl, hb, hall⟩ := hrel
      by_cases hlt : k < c.length
      · obtain ⟨b, q, aa, acp, rfl, e1, f1, g1⟩ := HH.out.cell k hlt
        have e2 := Below.at' hb (Nat.le_refl _) e1
        have f2 := Below.at' hb (Nat.le_refl _) f1
        have HSN : Hid (((c.take (k + 1)).all fun l => atomB l.2) = atomB c[k].2) := by
          rw [List.take_succ_eq_append_getElem hlt, List.all_append, hall]; exact Bool.and_true _ ▸ rfl
        have HN : Hid (atomB c[k].2 = false → isClauseL c = false) := fun hx => by
          rw [HE.out, Bool.and_eq_false_iff]
          left
          rw [List.all_eq_false]
          exact ⟨c[k], List.getElem_mem _, by simp [hx]⟩
        have hbs := hb.size
        generalize c[k] = x at *
        obtain ⟨xb, xl⟩ := x
        simp only at e2 f2 g1
        have hbx : Below w.heap.size w (wr.alloc (.cells #[.bool xb, .slice aa xl.length acp] 30)) := hb.alloc hbs _
        have cA := isAtom_any aa acp xl _ (g1.below hbx (Nat.le_refl _)) (HT.out.below hbx (Nat.le_refl _))
        have HBX := hide hbx
        clear e1 f1 hall hb g1 hbx
        cases ha : atomB xl
        · rw [ha] at cA
          have HV := hide (HN.out ha)
          have CA := hide cA
          clear cA ha HN HSN
          go_wp2_with (go_at_call 45; refine (unhide CA).mono ?_; rintro e w1 ⟨rfl, hb1⟩; have HB1 := hide (HBX.out.trans (hb1.mono HBX.out.size)); clear hb1)
          go_ret
          exact ⟨ret_bool HV.out.symm, HB1.out⟩
        · rw [ha] at cA
          have HV := hide (HSN.out.trans ha)
          have CA := hide cA
          clear cA ha HN HSN
          go_wp2_with (go_at_call 45; refine (unhide CA).mono ?_; rintro e w1 ⟨rfl, hb1⟩; have HB1 := hide (HBX.out.trans (hb1.mono HBX.out.size)); clear hb1)
          go_roundw
          case rel => exact ⟨k + 1, by omega, by go_num, HB1.out, HV.out⟩
          case measure => simp [intOf]; omega
      · have hk1 : c.take k = c := List.take_of_length_le (by omega)
        rw [hk1] at hall
        have HA : Hid (isClauseL c = decide (c = ordL c)) := by rw [HE.out, hall]; exact Bool.true_and _ ▸ rfl
        have hnn : ∀ x ∈ c, NonNeg x.2 := fun x hx => atom_nonneg (List.all_eq_true.1 hall x hx)
        have CO := hide (inOrder_any a cp c wr (HH.out.below hb (Nat.le_refl _)) h60 hnn)
        have HB := hide hb
        have hbs := hb.size
        clear hk1 hall hb hnn
        go_wp2_with (go_at_call 46; refine (unhide CO).mono ?_; rintro e w1 ⟨rfl, hb1⟩; have HB1 := hide (HB.out.trans (hb1.mono hbs)); clear hb1)
        go_ret
        exact ⟨ret_bool HA.out.symm, HB1.out⟩
  · have hfit' : fitsL c = false := by simpa using hfit
    rw [hfit'] at cF
    have HE : Hid (isClauseL c = false) := by unfold isClauseL; rw [hfit']; rfl
    have HF := hide cF
    clear cF hfit hfit' h
    go_enter Tryd.func26, Tryd.ntmps26
    go_wp2_with (go_at_call 44; refine (unhide HF).mono ?_; rintro e w' ⟨rfl, hb⟩; have HB := hide hb; clear hb)
    go_ret
    exact ⟨ret_bool HE.out.symm, HB.out⟩

end Go.Proofs.YtjnddclkdofgdaaDoor
