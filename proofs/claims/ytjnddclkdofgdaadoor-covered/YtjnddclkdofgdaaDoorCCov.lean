/- The program: Covers. -/
import Derived.Test.YtjnddclkdofgdaaDoorCNew
import Derived.Deep.Cut
import Derived.Test.YtjnddclkdofgdaaDoorPIsC
import Derived.Test.YtjnddclkdofgdaaDoorCaps
namespace Go.Proofs.YtjnddclkdofgdaaDoor
open Go.RowKit Go.Shelf
set_option maxRecDepth 100000

/-- What Covers answers. -/
def CovR (c d : List Lt) (r : Bool) (e : Int) : Prop := (isClauseL c = true ∧ isClauseL d = true ∧ e = 0 ∧ (r = true ↔ c.length ≤ d.length ∧ Cov d c [])) ∨ (¬ (isClauseL c = true ∧ isClauseL d = true) ∧ r = false ∧ e = 5)
theorem CovR.one {c d : List Lt} {r r' : Bool} {e e' : Int} (h : CovR c d r e) (h' : CovR c d r' e') : r = r' ∧ e = e' := by
  rcases h with ⟨h1, h2, rfl, h3⟩ | ⟨h1, rfl, rfl⟩ <;> rcases h' with ⟨h1', h2', rfl, h3'⟩ | ⟨h1', rfl, rfl⟩
  · exact ⟨Bool.eq_iff_iff.2 (h3.trans h3'.symm), rfl⟩
  · exact absurd ⟨h1, h2⟩ h1'
  · exact absurd ⟨h1', h2'⟩ h1
  · exact ⟨rfl, rfl⟩
theorem clause_fine {c : List Lt} (h : isClauseL c = true) : Fine c ∧ c.length ≤ 8 := by
  simp only [isClauseL, Bool.and_eq_true, fitsL, decide_eq_true_eq, List.all_eq_true] at h
  exact ⟨fun l hl => atom_parts (h.1.2 l hl), h.1.1.1⟩
theorem LitsK.of {w : World} {a : Option Addr} {c : List Lt} (h : LitsIn w a c) (hc : CapsIn w a c) (h8 : c.length ≤ 8) (hf : Fine c) : LitsK w w.heap.size a c := by
  refine ⟨h8, fun k hk => ?_⟩
  obtain ⟨b, o, aa, cap, e, h1, h2, h3⟩ := h.cell k hk
  refine ⟨b, o, aa, cap, e, Or.inl (World.block_lt_of_cell? w _ h1), h1, h2, hc k hk b o aa _ cap e h2, h3, fun p hp => ?_⟩
  have hn := term_ne (q := 0) (hf c[k] (List.getElem_mem _)).1
  have h0 : 0 < c[k].2.length := by
    rcases Nat.eq_zero_or_pos c[k].2.length with h | h
    · exact absurd (List.eq_nil_of_length_eq_zero h) hn
    · exact h
  obtain ⟨b', o', e', h4, _⟩ := h3.cell 0 h0
  rw [hp] at e'
  simp at e'
  rw [e']
  exact World.block_lt_of_cell? w _ h4
theorem CapsIn.below {w w1 : World} {a : Option Addr} {c : List Lt} (h : CapsIn w a c) (hl : LitsIn w a c) {B : Nat} (k : Below B w w1) (hB : w.heap.size ≤ B) : CapsIn w1 a c := by
  intro j hj b o aa n cap e hcell
  obtain ⟨b', o', aa', cap', e', h1, h2, _⟩ := hl.cell j hj
  rw [e] at e'
  obtain ⟨rfl, rfl⟩ : b = b' ∧ o = o' := by simpa using e'
  rw [Below.at' k hB h2] at hcell
  obtain ⟨rfl, rfl, rfl⟩ : aa' = aa ∧ _ = n ∧ cap' = cap := by simpa using hcell
  exact h j hj b o aa' _ cap' e h2

set_option maxHeartbeats 4000000 in
theorem coversInOrder_any (a1 a2 : Option Addr) (c1 c2 : Nat) (l1 l2 : List Lt) (w : World) (h1 : LitsIn w a1 l1) (h2 : LitsIn w a2 l2) (k1 : CapsIn w a1 l1) (k2 : CapsIn w a2 l2) (hc1 : l1.length ≤ c1) (i1 : isClauseL l1 = true) (i2 : isClauseL l2 = true) :
    Calls Tryd.prog 42 #[.slice a1 l1.length c1, .slice a2 l2.length c2] w fun e w' => ∃ r : Bool, e = .returned (.bool r) ∧ (r = true ↔ l1.length ≤ l2.length ∧ Cov l2 l1 []) ∧ Below w.heap.size w w' := by
  obtain ⟨f1, n1⟩ := clause_fine i1
  obtain ⟨f2, n2⟩ := clause_fine i2
  have HF1 := hide f1
  have HF2 := hide f2
  have H1 := hide h1
  have H2 := hide h2
  have K1 := hide k1
  have K2 := hide k2
  clear i1 i2 f1 f2 h1 h2 k1 k2
  go_enter Tryd.func42, Tryd.ntmps42
  go_upto_region 1 with (fail)
  apply wp_region_lit
  refine wpList_newM rfl rfl rfl rfl _ _ _ _ rfl rfl rfl rfl a2 l2.length c2 rfl (by rfl) (by rfl) (by rfl) ?_
  have hL1 := LitsK.of H1.out K1.out n1 HF1.out
  have hL2 := LitsK.of H2.out K2.out n2 HF2.out
  have hbm : Below w.heap.size w (w.alloc (.cells (mCells (.slice a2 l2.length c2)) 112)) := (Below.refl _ _).alloc (Nat.le_refl _) _
  have HB3 := hide hbm
  have CA := hide (all_spec l1.length w.heap.size w.heap.size a2 c2 l2 [] _ a1 c1 l1 (Nat.le_refl _) (MIn.new w (.slice a2 l2.length c2)) (hL2.fr (Fr.of_below hbm)) (hL1.fr (Fr.of_below hbm)) hc1 HF2.out HF1.out (by simp))
  clear hL1 hL2 hbm
  by_cases hle : l1.length ≤ l2.length
  · have hlei : (l1.length : Int) ≤ (l2.length : Int) := by omega
    go_wp2_with (go_at_call 65; refine (unhide CA).mono ?_; rintro e w4 ⟨r, L', rfl, hm4, hf4, -, hr1, hr2⟩; have HM4 := hide hm4; have HB4 := hide (HB3.out.trans ((hf4.below (by simp)).mono (Nat.le_refl _))); have HR1 := hide hr1; have HR2 := hide hr2; clear hm4 hf4 hr1 hr2)
    go_ret
    refine ⟨r, rfl, ?_, HB4.out⟩
    cases r with
    | true =>
      obtain ⟨hg, hmd⟩ := HR1.out rfl
      refine ⟨fun _ => ⟨hle, ?_⟩, fun _ => rfl⟩
      obtain ⟨σ, h1, h2, _⟩ := cov_nil (d := l2) HM4.out.ok.look
      exact ⟨σ, h1, hg.ext h2, hmd σ h1 h2⟩
    | false => exact ⟨fun h => by simp at h, fun h => absurd h.2 (HR2.out rfl)⟩
  · have hlei : decide ((l1.length : Int) ≤ (l2.length : Int)) = false := by rw [decide_eq_false_iff_not]; omega
    have hlt : (l2.length : Int) < (l1.length : Int) := by omega
    go_wp2
    go_ret
    exact ⟨false, rfl, ⟨fun h => by simp at h, fun h => absurd h.1 hle⟩, HB3.out⟩

set_option maxHeartbeats 4000000 in
theorem iCovers_any (a1 a2 : Option Addr) (c1 c2 : Nat) (l1 l2 : List Lt) (w : World) (h1 : LitsIn w a1 l1) (h2 : LitsIn w a2 l2) (k1 : CapsIn w a1 l1) (k2 : CapsIn w a2 l2) (hc1 : l1.length ≤ c1) (hT : Tabs w) :
    Calls Tryd.prog 24 #[.slice a1 l1.length c1, .slice a2 l2.length c2] w fun e w' => ∃ r x, e = .returned (.tuple #[.bool r, .int .i64 x]) ∧ CovR l1 l2 r x ∧ Below w.heap.size w w' := by
  have CI1 := hide (lIsClause_any a1 c1 l1 w h1 hT)
  have HT := hide hT
  have H1 := hide h1
  have H2 := hide h2
  have K1 := hide k1
  have K2 := hide k2
  clear h1 h2 k1 k2 hT
  cases i1 : isClauseL l1 with
  | false =>
    have HR : Hid (CovR l1 l2 false 5) := hide (Or.inr ⟨by simp [i1], rfl, rfl⟩)
    rw [i1] at CI1
    clear i1
    go_enter Tryd.func24, Tryd.ntmps24
    go_wp2_with (go_at_call 26; refine (unhide CI1).mono ?_; rintro e w1 ⟨rfl, hb1⟩; have HB1 := hide hb1; clear hb1)
    go_ret2
    exact ⟨false, 5, ret_two rfl rfl, HR.out, HB1.out⟩
  | true =>
    rw [i1] at CI1
    have CI2 := hide (fun wx (hx : Below w.heap.size w wx) => lIsClause_any a2 c2 l2 wx (H2.out.below hx (Nat.le_refl _)) (HT.out.below hx (Nat.le_refl _)))
    cases i2 : isClauseL l2 with
    | false =>
      have HR : Hid (CovR l1 l2 false 5) := hide (Or.inr ⟨by simp [i2], rfl, rfl⟩)
      rw [i2] at CI2
      clear i1 i2
      go_enter Tryd.func24, Tryd.ntmps24
      go_wp2_with (first
        | (go_at_call 26; refine (unhide CI2 _ HB1.out).mono ?_; rintro e w2 ⟨rfl, hb2⟩; have HB2 := hide (HB1.out.trans (hb2.mono hb1s)); clear hb2)
        | (go_at_call 26; refine (unhide CI1).mono ?_; rintro e w1 ⟨rfl, hb1⟩; have HB1 := hide hb1; have hb1s := hb1.size; clear hb1))
      go_ret2
      exact ⟨false, 5, ret_two rfl rfl, HR.out, HB2.out⟩
    | true =>
      rw [i2] at CI2
      have CO := hide (fun wx (hx : Below w.heap.size w wx) => coversInOrder_any a1 a2 c1 c2 l1 l2 wx (H1.out.below hx (Nat.le_refl _)) (H2.out.below hx (Nat.le_refl _)) (K1.out.below H1.out hx (Nat.le_refl _)) (K2.out.below H2.out hx (Nat.le_refl _)) hc1 i1 i2)
      have HI := hide (And.intro i1 i2)
      clear i1 i2
      go_enter Tryd.func24, Tryd.ntmps24
      go_wp2_with (first
        | (go_at_call 42; refine (unhide CO _ HB2.out).mono ?_; rintro e w3 ⟨r, rfl, hr, hb3⟩; have HR := hide hr; have HB3 := hide (HB2.out.trans (hb3.mono hb2s)); clear hr hb3)
        | (go_at_call 26; refine (unhide CI2 _ HB1.out).mono ?_; rintro e w2 ⟨rfl, hb2⟩; have HB2 := hide (HB1.out.trans (hb2.mono hb1s)); have hb2s := HB2.out.size; clear hb2)
        | (go_at_call 26; refine (unhide CI1).mono ?_; rintro e w1 ⟨rfl, hb1⟩; have HB1 := hide hb1; have hb1s := hb1.size; clear hb1))
      go_ret2
      exact ⟨r, 0, ret_two rfl rfl, Or.inl ⟨HI.out.1, HI.out.2, rfl, HR.out⟩, HB3.out⟩

theorem mCovers_any (a1 a2 : Option Addr) (c1 c2 : Nat) (l1 l2 : List Lt) (w : World) (h1 : LitsIn w a1 l1) (h2 : LitsIn w a2 l2) (k1 : CapsIn w a1 l1) (k2 : CapsIn w a2 l2) (hc1 : l1.length ≤ c1) (hT : Tabs w) :
    Calls Tryd.prog 10 #[.slice a1 l1.length c1, .slice a2 l2.length c2] w fun e w' => ∃ r x, e = .returned (.tuple #[.bool r, .int .i64 x]) ∧ CovR l1 l2 r x ∧ Below w.heap.size w w' := by
  have C := hide (iCovers_any a1 a2 c1 c2 l1 l2 w h1 h2 k1 k2 hc1 hT)
  clear h1 h2 k1 k2 hT
  go_enter Tryd.func10, Tryd.ntmps10
  go_wp2_with (go_at_call 24; refine (unhide C).mono ?_; rintro e w1 ⟨r, x, rfl, hr, hb⟩; have HR := hide hr; have HB := hide hb; clear hr hb)
  go_ret2
  exact ⟨r, x, ret_two rfl rfl, HR.out, HB.out⟩

end Go.Proofs.YtjnddclkdofgdaaDoor
