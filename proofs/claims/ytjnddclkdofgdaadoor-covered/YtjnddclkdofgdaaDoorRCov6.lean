/- The document's own answer: Covers. -/
import Derived.Test.YtjnddclkdofgdaaDoorRCov5
import Derived.Test.YtjnddclkdofgdaaDoorCCov
namespace Go.Proofs.YtjnddclkdofgdaaDoor
open Go.RowKit Go.Shelf
set_option maxRecDepth 100000

theorem cover_spec : ∀ n, CoverSpec n
  | 0 => fun B ca ccap c da dcap d lv L fv ks w hn _ _ _ _ _ hL _ hI _ => by
    have hk : ks = [] := List.eq_nil_of_length_eq_zero (by omega)
    subst hk
    exact cover_nil ca ccap c da dcap d lv L fv w hL hI
  | n + 1 => cover_succ n (cover_spec n)
theorem pick_all (c : List Lt) : pick c (List.range c.length) = c := by
  unfold pick
  refine List.ext_getElem (by simp) fun k h1 h2 => ?_
  simp [h2]
theorem intCells_snoc (ks : List Nat) (k : Nat) : intCells (ks ++ [k]) = intCells ks ++ [.int .i64 (k : Int)] := by simp [intCells]

set_option maxHeartbeats 1000000 in
theorem rCover_any (B : Nat) (ca : Option Addr) (ccap : Nat) (c : List Lt) (da : Option Addr) (dcap : Nat) (d : List Lt) (w : World) (hC : LitsK w B ca c) (hD : LitsK w B da d) (hfc : Fine c) (hfd : Fine d) :
    Calls Tryd.prog 43 #[.slice ca c.length ccap, .slice da d.length dcap] w fun e w' => ∃ r : Bool, e = .returned (.bool r) ∧ (r = true ↔ c.length ≤ d.length ∧ Cov d c []) ∧ Below w.heap.size w w' := by
  obtain ⟨iI, hI0, hI1, hI2, hI3⟩ := info_parts infoInt
  have hc8 := hC.few
  have hd8 := hD.few
  have HC := hide hC
  have HD := hide hD
  have HFC := hide hfc
  have HFD := hide hfd
  clear hC hD hfc hfd
  go_enter Tryd.func43, Tryd.ntmps43
  go_wp2
  go_loopw [5, 6] (fun a i wr => ∃ k : Nat, k ≤ c.length ∧ i = .int .i64 k ∧ wr.ownsRow w.heap.size 3 1 a k (intCells (List.range k)) ∧ Below w.heap.size w wr) (fun _ i _ => c.length - (intOf i).toNat)
  case atStart => exact ⟨0, Nat.zero_le _, rfl, World.ownsRow_nil _ _ _ _, Below.refl _ _⟩
  case round =>
    obtain ⟨k, hk, rfl, ho, hb⟩ := hrel
    have hbs := hb.size
    have HB := hide hb
    clear hb
    by_cases hlt : k < c.length
    · have hlti : (k : Int) < (c.length : Int) := by omega
      go_wp2_with (first
        | (at_builtin; refine wpList_append_own _ rfl _ _ 34 rfl w.heap.size 3 iI (.int .i64 0) 1 8 Tryd.underlying34 hI0 hI1 hI2 hI3 rfl (by decide) _ _ _ rfl (ho.alloc _) ⟨wr.heap.size, 0, none⟩ 1 1 [.int .i64 (k : Int)] (by rfl) rfl ?d1 ?d2 ?d3 ?d4 ?d5 ?_)
        | go_in)
      case d1 => exact new1 _ _ _ _ (by simp)
      case d2 => exact one1 _
      case d3 => unfold maxLen; omega
      case d4 => omega
      case d5 => simp; omega
      intro v' w2 ho2 hg2 _
      have HN : Hid (w2.ownsRow w.heap.size 3 1 v' (k + 1) (intCells (List.range (k + 1)))) := hide (by rw [List.range_succ, intCells_snoc]; exact ho2)
      have HB2 := hide ((HB.out.alloc hbs _).grown hg2 (by simp; omega) fun q e => (own_lt ho q e).1)
      clear ho2 hg2 ho
      go_wp2
      go_roundw
      case rel => exact ⟨k + 1, by omega, by go_num, HN.out, HB2.out⟩
      case measure => simp [intOf]; omega
    · have hk' : k = c.length := by omega
      subst hk'
      have hiv : IntsV wr u5 (List.range c.length) := by
        unfold IntsV
        rw [List.length_range]
        exact own_mono ho (Nat.zero_le _)
      have CR := hide (cover_spec c.length B ca ccap c da dcap d (.slice none 0 0) [] u5 (List.range c.length) wr (by simp) (by simp) (HC.out.fr (Fr.of_below HB.out)) (HD.out.fr (Fr.of_below HB.out)) HFC.out HFD.out LOk.nil (BdsV.nil _) hiv (by simpa using hc8))
      rw [pick_all] at CR
      clear ho hiv
      by_cases hle : c.length ≤ d.length
      · have hlei : (c.length : Int) ≤ (d.length : Int) := by omega
        go_wp2_with (go_at_call 66; refine (unhide CR).mono ?_; rintro e w3 ⟨r, rfl, hr, hb3⟩; have HR := hide hr; have HB3 := hide (HB.out.trans (hb3.mono hbs)); clear hr hb3)
        go_ret
        exact ⟨r, rfl, ⟨fun h => ⟨hle, HR.out.1 h⟩, fun h => HR.out.2 h.2⟩, HB3.out⟩
      · have hlei : (d.length : Int) < (c.length : Int) := by omega
        go_wp2
        go_ret
        exact ⟨false, rfl, ⟨fun h => by simp at h, fun h => absurd h.1 hle⟩, HB.out⟩

set_option maxHeartbeats 1000000 in
theorem rCovers_any (a1 a2 : Option Addr) (c1 c2 : Nat) (l1 l2 : List Lt) (w : World) (h1 : LitsIn w a1 l1) (h2 : LitsIn w a2 l2) (k1 : CapsIn w a1 l1) (k2 : CapsIn w a2 l2) :
    Calls Tryd.prog 25 #[.slice a1 l1.length c1, .slice a2 l2.length c2] w fun e w' => ∃ r x, e = .returned (.tuple #[.bool r, .int .i64 x]) ∧ CovR l1 l2 r x ∧ Below w.heap.size w w' := by
  have CI1 := hide (rIsClause_any a1 c1 l1 w h1)
  have CI2 := hide (fun wx (hx : Below w.heap.size w wx) => rIsClause_any a2 c2 l2 wx (h2.below hx (Nat.le_refl _)))
  have H1 := hide h1
  have H2 := hide h2
  have K1 := hide k1
  have K2 := hide k2
  clear h1 h2 k1 k2
  cases i1 : isClauseL l1 with
  | false =>
    have HR : Hid (CovR l1 l2 false 5) := hide (Or.inr ⟨by simp [i1], rfl, rfl⟩)
    rw [i1] at CI1
    clear i1
    go_enter Tryd.func25, Tryd.ntmps25
    go_wp2_with (first
      | (go_at_call 33; refine (unhide CI2 _ HB1.out).mono ?_; rintro e w2 ⟨rfl, hb2⟩; have HB2 := hide (HB1.out.trans (hb2.mono hb1s)); clear hb2)
      | (go_at_call 33; refine (unhide CI1).mono ?_; rintro e w1 ⟨rfl, hb1⟩; have HB1 := hide hb1; have hb1s := hb1.size; clear hb1))
    go_ret2
    exact ⟨false, 5, ret_two rfl rfl, HR.out, HB2.out⟩
  | true =>
    rw [i1] at CI1
    cases i2 : isClauseL l2 with
    | false =>
      have HR : Hid (CovR l1 l2 false 5) := hide (Or.inr ⟨by simp [i2], rfl, rfl⟩)
      rw [i2] at CI2
      clear i1 i2
      go_enter Tryd.func25, Tryd.ntmps25
      go_wp2_with (first
        | (go_at_call 33; refine (unhide CI2 _ HB1.out).mono ?_; rintro e w2 ⟨rfl, hb2⟩; have HB2 := hide (HB1.out.trans (hb2.mono hb1s)); clear hb2)
        | (go_at_call 33; refine (unhide CI1).mono ?_; rintro e w1 ⟨rfl, hb1⟩; have HB1 := hide hb1; have hb1s := hb1.size; clear hb1))
      go_ret2
      exact ⟨false, 5, ret_two rfl rfl, HR.out, HB2.out⟩
    | true =>
      rw [i2] at CI2
      obtain ⟨f1, n1⟩ := clause_fine i1
      obtain ⟨f2, n2⟩ := clause_fine i2
      have HI := hide (And.intro i1 i2)
      have HF1 := hide f1
      have HF2 := hide f2
      have CV := hide (fun wx (hx : Below w.heap.size w wx) => rCover_any wx.heap.size a1 c1 l1 a2 c2 l2 wx (LitsK.of (H1.out.below hx (Nat.le_refl _)) (K1.out.below H1.out hx (Nat.le_refl _)) n1 f1) (LitsK.of (H2.out.below hx (Nat.le_refl _)) (K2.out.below H2.out hx (Nat.le_refl _)) n2 f2) f1 f2)
      clear i1 i2 f1 f2
      go_enter Tryd.func25, Tryd.ntmps25
      go_wp2_with (first
        | (go_at_call 33; refine (unhide CI2 _ HB1.out).mono ?_; rintro e w2 ⟨rfl, hb2⟩; have HB2 := hide (HB1.out.trans (hb2.mono hb1s)); have hb2s := HB2.out.size; clear hb2)
        | (go_at_call 33; refine (unhide CI1).mono ?_; rintro e w1 ⟨rfl, hb1⟩; have HB1 := hide hb1; have hb1s := hb1.size; clear hb1)
        | (go_at_call 43; refine (unhide CV _ HB2.out).mono ?_; rintro e w3 ⟨r, rfl, hr, hb3⟩; have HR := hide hr; have HB3 := hide (HB2.out.trans (hb3.mono hb2s)); clear hr hb3))
      go_ret2
      exact ⟨r, 0, ret_two rfl rfl, Or.inl ⟨HI.out.1, HI.out.2, rfl, HR.out⟩, HB3.out⟩

end Go.Proofs.YtjnddclkdofgdaaDoor
