/- The document's own answer: how many literals one can be made. -/
import Derived.Test.YtjnddclkdofgdaaDoorRCov3
import Derived.Test.YtjnddclkdofgdaaDoorCShare
namespace Go.Proofs.YtjnddclkdofgdaaDoor
open Go.RowKit Go.Shelf
set_option maxRecDepth 100000

theorem rMatch_no (aa ba : Option Addr) (ac bc : Nat) (a b : List Nd) (lv : Value) (L : Bd') (w : World) (hA : NodesIn w aa a) (hB : NodesIn w ba b) (hbc : b.length ≤ bc) (ta : termGo a 1 = true) (tb : termGo b 1 = true) (a60 : a.length ≤ 60) (b60 : b.length ≤ 60) (hL : LOk L) (hV : BdsV w lv L) (hm : matchGo a b L = none) :
    ∀ wx, (∃ n, wx = w.drewN n) → Calls Tryd.prog 89 #[.slice aa a.length ac, .slice ba b.length bc, lv] wx fun e w' => ∃ rv, e = .returned (.tuple #[rv, .bool false]) ∧ Below w.heap.size w w' := by
  intro wx hx
  refine (rMatch_any aa ba ac bc a b lv L wx (hA.drawn hx) (hB.drawn hx) hbc ta tb a60 b60 hL (hV.below (below_drawn hx))).mono ?_
  rintro e w' ⟨rv, r, rfl, hr, _, hb⟩
  rw [hm] at hr
  simp at hr
  subst hr
  exact ⟨rv, rfl, undraw hx hb⟩
theorem rMatch_yes (aa ba : Option Addr) (ac bc : Nat) (a b : List Nd) (lv : Value) (L L1 : Bd') (w : World) (hA : NodesIn w aa a) (hB : NodesIn w ba b) (hbc : b.length ≤ bc) (ta : termGo a 1 = true) (tb : termGo b 1 = true) (a60 : a.length ≤ 60) (b60 : b.length ≤ 60) (hL : LOk L) (hV : BdsV w lv L) (hm : matchGo a b L = some L1) :
    ∀ wx, (∃ n, wx = w.drewN n) → Calls Tryd.prog 89 #[.slice aa a.length ac, .slice ba b.length bc, lv] wx fun e w' => ∃ rv, e = .returned (.tuple #[rv, .bool true]) ∧ BdsV w' rv L1 ∧ Below w.heap.size w w' := by
  intro wx hx
  refine (rMatch_any aa ba ac bc a b lv L wx (hA.drawn hx) (hB.drawn hx) hbc ta tb a60 b60 hL (hV.below (below_drawn hx))).mono ?_
  rintro e w' ⟨rv, r, rfl, hr, hv, hb⟩
  have := hv L1 hm
  rw [hm] at hr
  simp at hr
  subst hr
  exact ⟨rv, rfl, this, undraw hx hb⟩
/-- What fits counts. -/
def FitPost (d : List Lt) (x : Lt) (L : Bd') (n : Nat) : Prop := 0 < n ↔ ∃ y ∈ d, ∃ L', matchL x y L = some L'
theorem FitPost.no {d : List Lt} {x y : Lt} {L : Bd'} {n : Nat} (h : FitPost d x L n) (hy : matchL x y L = none) : FitPost (d ++ [y]) x L n := by
  unfold FitPost at h ⊢
  rw [h]
  constructor
  · rintro ⟨z, hz, L', e⟩; exact ⟨z, List.mem_append_left _ hz, L', e⟩
  · rintro ⟨z, hz, L', e⟩
    rcases List.mem_append.1 hz with hz | hz
    · exact ⟨z, hz, L', e⟩
    · simp at hz; subst hz; rw [hy] at e; simp at e
theorem FitPost.yes {d : List Lt} {x y : Lt} {L L' : Bd'} {n : Nat} (hy : matchL x y L = some L') : FitPost (d ++ [y]) x L (n + 1) :=
  ⟨fun _ => ⟨y, by simp, L', hy⟩, fun _ => by omega⟩

set_option maxHeartbeats 4000000 in
theorem rFitsN_any (B : Nat) (da : Option Addr) (dcap : Nat) (d : List Lt) (xb : Bool) (xa : Option Addr) (xc : Nat) (xl : List Nd) (lv : Value) (L : Bd') (w : World) (hD : LitsK w B da d) (hX : NodesIn w xa xl) (tx : termGo xl 1 = true) (x60 : xl.length ≤ 60) (hd : Fine d) (hL : LOk L) (hV : BdsV w lv L) :
    Calls Tryd.prog 88 #[.agg #[.bool xb, .slice xa xl.length xc], .slice da d.length dcap, lv] w fun e w' => ∃ n : Nat, e = .returned (.int .i64 n) ∧ n ≤ 8 ∧ FitPost d (xb, xl) L n ∧ Below w.heap.size w w' := by
  have hb0 : Below w.heap.size w (w.alloc (.cells #[.bool xb, .slice xa xl.length xc] 30)) := (Below.refl _ _).alloc (Nat.le_refl _) _
  have hbx := box2 w (.bool xb) (.slice xa xl.length xc) 30
  have HD1 := hide (hD.fr (Fr.of_below hb0))
  have HX1 := hide (hX.below hb0 (Nat.le_refl _))
  have HV1 := hide (hV.below hb0)
  have HFD := hide hd
  have HLO := hide hL
  have HBX := hide hbx
  have HB0 := hide hb0
  have hd8 := hD.few
  clear hD hX hV hd hL hb0 hbx
  go_enter Tryd.func88, Tryd.ntmps88
  go_wp2
  generalize hW : w.alloc (.cells #[.bool xb, .slice xa xl.length xc] 30) = W at *
  clear hW
  go_loopw [7, 8] (fun c i wr => ∃ k n : Nat, k ≤ d.length ∧ n ≤ k ∧ i = .int .i64 k ∧ c = .int .i64 n ∧ FitPost (d.take k) (xb, xl) L n ∧ Below W.heap.size W wr) (fun _ i _ => d.length - (intOf i).toNat)
  case atStart => exact ⟨0, 0, Nat.zero_le _, Nat.zero_le _, rfl, rfl, ⟨fun h => absurd h (Nat.lt_irrefl 0), fun ⟨y, hy, _⟩ => absurd hy (by simp)⟩, Below.refl _ _⟩
  case round =>
    obtain ⟨k, n, hk, hn, rfl, rfl, hfp, hb⟩ := hrel
    by_cases hlt : k < d.length
    · obtain ⟨b, o, ya, yc, rfl, hs, e1, f1, hyc, hY⟩ := (HD1.out.fr (Fr.of_below hb)).cell k hlt
      obtain ⟨hty, hy60⟩ := HFD.out d[k] (List.getElem_mem _)
      have htk : d.take (k + 1) = d.take k ++ [d[k]] := List.take_succ_eq_append_getElem hlt
      have hlti : (k : Int) < (d.length : Int) := by omega
      generalize d[k] = y at *
      obtain ⟨yb, yl⟩ := y
      simp only at e1 f1 hty hy60 hY hyc
      have x0 := Below.at' hb (Nat.le_refl _) HBX.out.1
      have x1 := Below.at' hb (Nat.le_refl _) HBX.out.2
      have hX := HX1.out.below hb (Nat.le_refl _)
      have hV := HV1.out.below hb
      have HTK := hide htk
      have HFP := hide hfp
      have HB := hide hb
      have hbs := hb.size
      cases hmg : matchGo xl yl L with
      | none =>
        have CM := hide (rMatch_no xa ya xc yc xl yl lv L wr hX hY.nodes hyc tx hty x60 hy60 HLO.out hV hmg)
        have HML : Hid (matchL (xb, xl) (yb, yl) L = none) := hide (by unfold matchL; split <;> simp [hmg])
        clear hmg hX hV hY hs hyc hty hy60 htk hfp hb
        go_wp2_with fail
        go_region_held3 (fun w' => w'.cell? ⟨w.heap.size, 1, none⟩ = some (.slice xa xl.length xc) ∧ w'.cell? ⟨b, o + k * 2 + 1, none⟩ = some (.slice ya yl.length yc)) (go_keep)
          ((go_at_call 89; refine (unhide CM _ (by first | exact ⟨0, rfl⟩ | exact ⟨1, rfl⟩ | exact ⟨_, rfl⟩)).mono ?_; rintro e w1 ⟨rv, rfl, hb1⟩; have c0 := Below.at' hb1 (Nat.le_refl _) x0; have c1 := Below.at' hb1 (Nat.le_refl _) x1; have c2 := Below.at' hb1 (Nat.le_refl _) e1; have c3 := Below.at' hb1 (Nat.le_refl _) f1; have HB2 := hide (HB.out.trans (hb1.mono hbs)); clear hb1))
        go_wp2_with fail
        go_quiet (fail)
        go_wp2
        go_roundw
        case rel => exact ⟨k + 1, n, by omega, by omega, by go_num, rfl, by rw [HTK.out]; exact HFP.out.no HML.out, HB2.out.trans ((below_drawn (by first | exact ⟨_, rfl⟩ | exact draw2 _ _ _ | exact draw3 _ _ _ _)).mono HB2.out.size)⟩
        case measure => simp [intOf]; omega
      | some L1 =>
        have CM := hide (fun wx hx => (rMatch_yes xa ya xc yc xl yl lv L L1 wr hX hY.nodes hyc tx hty x60 hy60 HLO.out hV hmg wx hx).mono (R' := fun e w' => ∃ rv, e = .returned (.tuple #[rv, .bool true]) ∧ Below wr.heap.size wr w') (by rintro e w' ⟨rv, h1, _, h3⟩; exact ⟨rv, h1, h3⟩))
        by_cases hxy : xb = yb
        · have HML : Hid (matchL (xb, xl) (yb, yl) L = some L1) := hide (by simp [matchL, hxy, hmg])
          have hbe : (xb == yb) = true := by simp [hxy]
          clear hmg hX hV hY hs hyc hty hy60 htk hfp hb hxy
          go_wp2_with fail
          go_region_held3 (fun w' => w'.cell? ⟨w.heap.size, 1, none⟩ = some (.slice xa xl.length xc) ∧ w'.cell? ⟨b, o + k * 2 + 1, none⟩ = some (.slice ya yl.length yc)) (go_keep)
            ((go_at_call 89; refine (unhide CM _ (by first | exact ⟨0, rfl⟩ | exact ⟨1, rfl⟩ | exact ⟨_, rfl⟩)).mono ?_; rintro e w1 ⟨rv, rfl, hb1⟩; have c0 := Below.at' hb1 (Nat.le_refl _) x0; have c1 := Below.at' hb1 (Nat.le_refl _) x1; have c2 := Below.at' hb1 (Nat.le_refl _) e1; have c3 := Below.at' hb1 (Nat.le_refl _) f1; have HB2 := hide (HB.out.trans (hb1.mono hbs)); clear hb1))
          go_wp2_with fail
          go_quiet (fail)
          go_wp2
          go_roundw
          case rel => exact ⟨k + 1, n + 1, by omega, by omega, by go_num, by go_num, by rw [HTK.out]; exact FitPost.yes HML.out, HB2.out.trans ((below_drawn (by first | exact ⟨_, rfl⟩ | exact draw2 _ _ _ | exact draw3 _ _ _ _)).mono HB2.out.size)⟩
          case measure => simp [intOf]; omega
        · have HML : Hid (matchL (xb, xl) (yb, yl) L = none) := hide (by simp [matchL, hxy])
          have hbe : (xb == yb) = false := by simp [hxy]
          clear hmg hX hV hY hs hyc hty hy60 htk hfp hb hxy
          go_wp2_with fail
          go_region_held3 (fun w' => w'.cell? ⟨w.heap.size, 1, none⟩ = some (.slice xa xl.length xc) ∧ w'.cell? ⟨b, o + k * 2 + 1, none⟩ = some (.slice ya yl.length yc)) (go_keep)
            ((go_at_call 89; refine (unhide CM _ (by first | exact ⟨0, rfl⟩ | exact ⟨1, rfl⟩ | exact ⟨_, rfl⟩)).mono ?_; rintro e w1 ⟨rv, rfl, hb1⟩; have c0 := Below.at' hb1 (Nat.le_refl _) x0; have c1 := Below.at' hb1 (Nat.le_refl _) x1; have c2 := Below.at' hb1 (Nat.le_refl _) e1; have c3 := Below.at' hb1 (Nat.le_refl _) f1; have HB2 := hide (HB.out.trans (hb1.mono hbs)); clear hb1))
          go_wp2_with fail
          go_quiet (fail)
          go_wp2
          go_roundw
          case rel => exact ⟨k + 1, n, by omega, by omega, by go_num, rfl, by rw [HTK.out]; exact HFP.out.no HML.out, HB2.out.trans ((below_drawn (by first | exact ⟨_, rfl⟩ | exact draw2 _ _ _ | exact draw3 _ _ _ _)).mono HB2.out.size)⟩
          case measure => simp [intOf]; omega
    · have htk : d.take k = d := List.take_of_length_le (by omega)
      rw [htk] at hfp
      have HFP := hide hfp
      have HB := hide hb
      clear hfp hb htk
      go_wp2
      go_ret
      exact ⟨n, rfl, by omega, HFP.out, HB0.out.trans (HB.out.mono HB0.out.size)⟩

end Go.Proofs.YtjnddclkdofgdaaDoor
