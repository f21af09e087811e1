/- The document's own answer: are two lists of nodes the same, are two clauses, how many nodes has a clause, does it fit. -/
import Derived.Test.YtjnddclkdofgdaaDoorBase
namespace Go.Proofs.YtjnddclkdofgdaaDoor
open Go.RowKit

set_option maxHeartbeats 400000 in
theorem sameNodes_any (a1 a2 : Option Addr) (c1 c2 : Nat) (l1 l2 : List (ByteArray × Int)) (w : World) (h1 : NodesIn w a1 l1) (h2 : NodesIn w a2 l2) :
    Calls Tryd.prog 20 #[.slice a1 l1.length c1, .slice a2 l2.length c2] w fun e w' => e = .returned (.bool (decide (l1 = l2))) ∧ ∃ n, w' = w.drewN n := by
  have b1 := h1.few
  have b2 := h2.few
  by_cases hl : l1.length = l2.length
  · have hn : ((l1.length : Int) != (l2.length : Int)) = false := by rw [hl]; simp
    have HL : Hid (l1.length = l2.length) := hl
    clear hl
    go_enter Tryd.func20, Tryd.ntmps20
    go_wp2
    go_loopw [5] (fun i wr => ∃ k : Nat, k ≤ l1.length ∧ i = .int .i64 k ∧ (∃ n, wr = w.drewN n) ∧ l1.take k = l2.take k) (fun i _ => l1.length - (intOf i).toNat)
    case atStart => exact ⟨0, Nat.zero_le _, rfl, ⟨0, rfl⟩, rfl⟩
    case round =>
      obtain ⟨k, hk, rfl, ⟨n, rfl⟩, ht⟩ := hrel
      by_cases hlt : k < l1.length
      · obtain ⟨p1, o1, rfl, e1, f1⟩ := h1.cell k hlt
        have hlt2 : (k : Int) < (l2.length : Int) := by have := HL.out; omega
        have hlt3 : k < l2.length := by omega
        obtain ⟨p2, o2, rfl, e2, f2⟩ := h2.cell k hlt3
        have hb := nodeB_eq l1[k] l2[k]
        have g := guard27
        have q := eqNode l1[k].1 l2[k].1 l1[k].2 l2[k].2
        clear h1 h2
        by_cases he : l1[k] = l2[k]
        · rw [decide_eq_true he] at hb
          have HE : Hid (l1[k] = l2[k]) := he
          clear he
          go_wp2
          go_quiet (fail)
          go_wp2
          go_roundw
          case rel => exact ⟨k + 1, by omega, by go_num, (by first | exact draw2 _ _ _ | exact ⟨_, rfl⟩), by rw [List.take_succ_eq_append_getElem hlt, List.take_succ_eq_append_getElem hlt3, ht, HE.out]⟩
          case measure => simp [intOf]; omega
        · rw [decide_eq_false he] at hb
          have HE : Hid (¬ l1[k] = l2[k]) := he
          clear he
          go_wp2
          go_quiet (fail)
          go_wp2
          go_ret
          refine ⟨?_, (by first | exact draw2 _ _ _ | exact ⟨_, rfl⟩)⟩
          have : ¬ l1 = l2 := fun h => HE.out (by subst h; rfl)
          simp [this]
      · go_wp2
        go_ret
        refine ⟨?_, ⟨_, rfl⟩⟩
        have hk1 : l1.take k = l1 := List.take_of_length_le (by omega)
        have hk2 : l2.take k = l2 := List.take_of_length_le (by have := HL.out; omega)
        rw [hk1, hk2] at ht
        simp [ht]
  · have hn : ((l1.length : Int) != (l2.length : Int)) = true := by rw [bne_iff_ne]; omega
    have hne : ¬ l1 = l2 := fun h => hl (by rw [h])
    have HN : Hid (¬ l1 = l2) := hne
    clear hne hl
    go_enter Tryd.func20, Tryd.ntmps20
    go_wp2
    go_ret
    exact ⟨by simp [HN.out], 0, rfl⟩

/-- Are two literals the same? -/
def litB (x y : Lt) : Bool := decide (x.2 = y.2) && x.1 == y.1
theorem litB_eq (x y : Lt) : litB x y = decide (x = y) := by
  rw [Bool.eq_iff_iff]
  simp [litB, Prod.ext_iff, and_comm]

set_option maxHeartbeats 400000 in
theorem sameClause_any (a1 a2 : Option Addr) (c1 c2 : Nat) (l1 l2 : List Lt) (w : World) (h1 : LitsIn w a1 l1) (h2 : LitsIn w a2 l2) :
    Calls Tryd.prog 15 #[.slice a1 l1.length c1, .slice a2 l2.length c2] w fun e w' => e = .returned (.bool (decide (l1 = l2))) ∧ ∃ n, w' = w.drewN n := by
  have b1 := h1.few
  have b2 := h2.few
  by_cases hl : l1.length = l2.length
  · have hn : ((l1.length : Int) != (l2.length : Int)) = false := by rw [hl]; simp
    have HL : Hid (l1.length = l2.length) := hl
    clear hl
    go_enter Tryd.func15, Tryd.ntmps15
    go_wp2
    go_loopw [5] (fun i wr => ∃ k : Nat, k ≤ l1.length ∧ i = .int .i64 k ∧ (∃ n, wr = w.drewN n) ∧ l1.take k = l2.take k) (fun i _ => l1.length - (intOf i).toNat)
    case atStart => exact ⟨0, Nat.zero_le _, rfl, ⟨0, rfl⟩, rfl⟩
    case round =>
      obtain ⟨k, hk, rfl, hq, ht⟩ := hrel
      replace h1 := h1.drawn hq
      replace h2 := h2.drawn hq
      have HQ := hide hq
      clear hq
      by_cases hlt : k < l1.length
      · obtain ⟨p1, o1, aa1, cp1, rfl, e1, f1, g1⟩ := h1.cell k hlt
        have hlt2 : (k : Int) < (l2.length : Int) := by have := HL.out; omega
        have hlt3 : k < l2.length := by omega
        obtain ⟨p2, o2, aa2, cp2, rfl, e2, f2, g2⟩ := h2.cell k hlt3
        have cS := fun m => sameNodes_any aa1 aa2 cp1 cp2 l1[k].2 l2[k].2 (wr.drewN m) (g1.drewN m) (g2.drewN m)
        clear h1 h2 g1 g2
        by_cases hs : l1[k].2 = l2[k].2
        · rw [decide_eq_true hs] at cS
          have HC := hide cS
          have HS := hide hs
          clear cS hs
          go_wp2
          go_quiet ((go_at_call 20; exact Calls.quiet_of (unhide HC _)))
          go_wp2
          go_quiet (fail)
          go_wp2
          · go_ret
            refine ⟨?_, drawn_trans HQ.out (by first | exact draw2 _ _ _ | exact ⟨_, rfl⟩)⟩
            have hne : (!l1[k].1 == l2[k].1) = true := by assumption
            have : ¬ l1 = l2 := fun h => by subst h; simp at hne
            simp [this]
          · have heq : (!l1[k].1 == l2[k].1) = false := by assumption
            have he : l1[k] = l2[k] := Prod.ext (by simpa using heq) HS.out
            go_roundw
            case rel => exact ⟨k + 1, by omega, by go_num, drawn_trans HQ.out (by first | exact draw2 _ _ _ | exact ⟨_, rfl⟩), by rw [List.take_succ_eq_append_getElem hlt, List.take_succ_eq_append_getElem hlt3, ht, he]⟩
            case measure => simp [intOf]; omega
        · rw [decide_eq_false hs] at cS
          have HC := hide cS
          have HS := hide hs
          clear cS hs
          go_wp2
          go_quiet ((go_at_call 20; exact Calls.quiet_of (unhide HC _)))
          go_wp2
          go_quiet (fail)
          go_wp2
          go_ret
          refine ⟨?_, drawn_trans HQ.out (by first | exact draw2 _ _ _ | exact ⟨_, rfl⟩)⟩
          have : ¬ l1 = l2 := fun h => HS.out (by subst h; rfl)
          simp [this]
      · go_wp2
        go_ret
        refine ⟨?_, HQ.out⟩
        have hk1 : l1.take k = l1 := List.take_of_length_le (by omega)
        have hk2 : l2.take k = l2 := List.take_of_length_le (by have := HL.out; omega)
        rw [hk1, hk2] at ht
        simp [ht]
  · have hn : ((l1.length : Int) != (l2.length : Int)) = true := by rw [bne_iff_ne]; omega
    have hne : ¬ l1 = l2 := fun h => hl (by rw [h])
    have HN : Hid (¬ l1 = l2) := hne
    clear hne hl
    go_enter Tryd.func15, Tryd.ntmps15
    go_wp2
    go_ret
    exact ⟨by simp [HN.out], 0, rfl⟩

/-- How many nodes literals have. -/
def countL (c : List Lt) : Nat := (c.map fun l => l.2.length).sum
theorem countL_snoc (c : List Lt) (x : Lt) : countL (c ++ [x]) = countL c + x.2.length := by simp [countL]
theorem countL_le (c : List Lt) (h : ∀ k (h : k < c.length), (c[k]).2.length ≤ 5864062014805) : countL c ≤ c.length * 5864062014805 := by
  induction c with
  | nil => simp [countL]
  | cons x r ih =>
    have h0 := h 0 (by simp)
    have hr := ih (fun k hk => by have := h (k + 1) (by simpa using hk); simpa using this)
    simp [countL] at h0 hr ⊢
    omega
theorem countL_take_le (c : List Lt) (k : Nat) : countL (c.take k) ≤ countL c := by
  have h := congrArg countL (List.take_append_drop k c)
  simp only [countL, List.map_append, List.sum_append] at h ⊢
  omega

set_option maxHeartbeats 400000 in
theorem count_any (a : Option Addr) (cp : Nat) (c : List Lt) (w : World) (h : LitsIn w a c) (h8 : c.length ≤ 8) :
    Calls Tryd.prog 75 #[.slice a c.length cp] w fun e w' => e = .returned (.int .i64 (countL c)) ∧ w' = w := by
  have hc : countL c ≤ 8 * 5864062014805 := Nat.le_trans (countL_le c fun k hk => by obtain ⟨_, _, _, _, _, _, _, g⟩ := h.cell k hk; exact g.few) (Nat.mul_le_mul_right _ h8)
  go_enter Tryd.func75, Tryd.ntmps75
  go_wp2
  go_loop [3, 4] (fun s i => ∃ k : Nat, k ≤ c.length ∧ i = .int .i64 k ∧ s = .int .i64 (countL (c.take k))) (fun _ i => c.length - (intOf i).toNat)
  case atStart => exact ⟨0, Nat.zero_le _, rfl, rfl⟩
  case round =>
    obtain ⟨k, hk, rfl, rfl⟩ := hrel
    have hct := countL_take_le c k
    by_cases hlt : k < c.length
    · obtain ⟨p1, o1, aa1, cp1, rfl, e1, f1, g1⟩ := h.cell k hlt
      have hg := g1.few
      have HS : Hid (countL (c.take (k + 1)) = countL (c.take k) + c[k].2.length) := by
        rw [List.take_succ_eq_append_getElem hlt, countL_snoc]
        exact rfl
      clear h g1
      go_wp2
      go_round
      case rel => exact ⟨k + 1, by omega, by go_num, by rw [HS.out]; go_num⟩
      case measure => simp [intOf]; omega
    · go_wp2
      go_ret
      have hk1 : c.take k = c := List.take_of_length_le (by omega)
      rw [hk1]
      exact ⟨rfl, rfl⟩

/-- Is a clause not above its size? -/
def fitsL (c : List Lt) : Bool := decide (c.length ≤ 8) && decide (countL c ≤ 60)

set_option maxHeartbeats 400000 in
theorem rFits_any (a : Option Addr) (cp : Nat) (c : List Lt) (w : World) (h : LitsIn w a c) :
    Calls Tryd.prog 51 #[.slice a c.length cp] w fun e w' => e = .returned (.bool (fitsL c)) ∧ w' = w := by
  have b := h.few
  by_cases h8 : c.length ≤ 8
  · have cC := count_any a cp c w h h8
    have HF := hide (show fitsL c = decide ((countL c : Int) ≤ 60) by simp [fitsL, h8]; omega)
    go_enter Tryd.func51, Tryd.ntmps51
    go_wp2_with (go_at_call 75; refine cC.mono ?_; rintro e w' ⟨rfl, rfl⟩)
    go_ret
    exact ⟨ret_bool HF.out.symm, rfl⟩
  · have hf : fitsL c = false := by simp [fitsL, h8]
    rw [hf]
    clear hf
    go_enter Tryd.func51, Tryd.ntmps51
    go_wp2
    go_ret
    exact ⟨rfl, rfl⟩

end Go.Proofs.YtjnddclkdofgdaaDoor
