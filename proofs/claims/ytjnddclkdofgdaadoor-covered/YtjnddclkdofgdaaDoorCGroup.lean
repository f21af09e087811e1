/- The program: can literals that hang together be made ones that are among others? -/
import Derived.Test.YtjnddclkdofgdaaDoorCAll
namespace Go.Proofs.YtjnddclkdofgdaaDoor
open Go.RowKit Go.Shelf
set_option maxRecDepth 100000

theorem mMatch_none (B g : Nat) (dv : Value) (L : Bd') (w : World) (xb yb : Bool) (aa ba : Option Addr) (ac bc : Nat) (a b : List Nd) (hM : MIn w B g dv L) (hA : NodesB w B aa a) (hB : NodesB w B ba b) (hbc : b.length ≤ bc) (ta : termGo a 1 = true) (tb : termGo b 1 = true) (a60 : a.length ≤ 60) (b60 : b.length ≤ 60) (hm : matchL (xb, a) (yb, b) L = none) :
    ∀ wx, (∃ n, wx = w.drewN n) → Calls Tryd.prog 106 #[.pointer (some ⟨g, 0, none⟩), .agg #[.bool xb, .slice aa a.length ac], .agg #[.bool yb, .slice ba b.length bc]] wx fun e w' => e = .returned (.bool false) ∧ (∃ M, MIn w' B g dv (L ++ M)) ∧ Fr B w w' := by
  intro wx hx
  refine (mMatch_any B g dv L wx xb yb aa ba ac bc a b (hM.drawn hx) (hA.fr ((Fr.refl _ _).drawn hx)) (hB.fr ((Fr.refl _ _).drawn hx)) hbc ta tb a60 b60).mono ?_
  rintro e w' ⟨r, L', rfl, hm', hf, ⟨M, rfl⟩, h1, h2⟩
  cases r with
  | true => rw [hm] at h1; simp at h1
  | false => exact ⟨rfl, ⟨M, hm'⟩, ((Fr.refl _ _).drawn hx).trans hf⟩
theorem mMatch_some (B g : Nat) (dv : Value) (L L1 : Bd') (w : World) (xb yb : Bool) (aa ba : Option Addr) (ac bc : Nat) (a b : List Nd) (hM : MIn w B g dv L) (hA : NodesB w B aa a) (hB : NodesB w B ba b) (hbc : b.length ≤ bc) (ta : termGo a 1 = true) (tb : termGo b 1 = true) (a60 : a.length ≤ 60) (b60 : b.length ≤ 60) (hm : matchL (xb, a) (yb, b) L = some L1) :
    ∀ wx, (∃ n, wx = w.drewN n) → Calls Tryd.prog 106 #[.pointer (some ⟨g, 0, none⟩), .agg #[.bool xb, .slice aa a.length ac], .agg #[.bool yb, .slice ba b.length bc]] wx fun e w' => e = .returned (.bool true) ∧ MIn w' B g dv L1 ∧ Fr B w w' := by
  intro wx hx
  refine (mMatch_any B g dv L wx xb yb aa ba ac bc a b (hM.drawn hx) (hA.fr ((Fr.refl _ _).drawn hx)) (hB.fr ((Fr.refl _ _).drawn hx)) hbc ta tb a60 b60).mono ?_
  rintro e w' ⟨r, L', rfl, hm', hf, _, h1, h2⟩
  cases r with
  | true =>
    have := h1 rfl
    rw [hm] at this
    simp at this
    subst this
    exact ⟨rfl, hm', ((Fr.refl _ _).drawn hx).trans hf⟩
  | false => rw [hm] at h2; simp at h2
theorem LitsK.take {w : World} {B b o : Nat} {c : List Lt} (h : LitsK w B (some ⟨b, o, none⟩) c) (k : Nat) : LitsK w B (some ⟨b, o, none⟩) (c.take k) := by
  refine ⟨by have := h.few; simp; omega, fun j hj => ?_⟩
  have hj' : j < c.length := by simp at hj; omega
  have := h.cell j hj'
  simpa using this
theorem LitsK.drop {w : World} {B b o : Nat} {c : List Lt} (h : LitsK w B (some ⟨b, o, none⟩) c) (k : Nat) : LitsK w B (some ⟨b, o + k * 2, none⟩) (c.drop k) := by
  refine ⟨by have := h.few; simp; omega, fun j hj => ?_⟩
  have hj' : k + j < c.length := by simp at hj; omega
  obtain ⟨b', o', aa, cap, e, hs, h1, h2, h3, h4⟩ := h.cell (k + j) hj'
  obtain ⟨rfl, rfl⟩ : b = b' ∧ o = o' := by simpa using e
  have ht : (c.drop k)[j] = c[k + j] := by simp
  rw [ht]
  exact ⟨b, o + k * 2, aa, cap, rfl, hs, by rw [show o + k * 2 + j * 2 = o + (k + j) * 2 by omega]; exact h1, by rw [show o + k * 2 + j * 2 + 1 = o + (k + j) * 2 + 1 by omega]; exact h2, h3, h4⟩
theorem mem_rest (c : List Lt) (k : Nat) (h : k < c.length) : ∀ l, l ∈ c ↔ l = c[k] ∨ l ∈ c.take k ++ c.drop (k + 1) := by
  intro l
  have e : c = c.take k ++ c[k] :: c.drop (k + 1) := by rw [← List.drop_eq_getElem_cons h, List.take_append_drop]
  constructor
  · intro hl
    rw [e] at hl
    rcases List.mem_append.1 hl with hl | hl
    · exact Or.inr (List.mem_append_left _ hl)
    · rcases List.mem_cons.1 hl with hl | hl
      · exact Or.inl hl
      · exact Or.inr (List.mem_append_right _ hl)
  · rintro (rfl | hl)
    · exact List.getElem_mem _
    · rcases List.mem_append.1 hl with hl | hl
      · exact List.mem_of_mem_take hl
      · exact List.mem_of_mem_drop hl

set_option maxHeartbeats 4000000 in
theorem group_of_all (n : Nat) (hS : AllSpec n) : GroupSpec (n + 1) := by
  intro B g da dcap d L w b o ccap c hn h0 hM hD hC hcap hfd hfc hBw
  have CT := hide (mTight_any B g da dcap d L w (some ⟨b, o, none⟩) ccap c hM hD hC hfd hfc h0)
  have HS := hide hS
  have HM := hide hM
  have HD := hide hD
  have HC := hide hC
  have HFD := hide hfd
  have HFC := hide hfc
  have hc8 := hC.few
  have hd8 := hD.few
  clear hS hM hD hC hfd hfc
  go_enter Tryd.func87, Tryd.ntmps87
  go_wp2_with (go_at_call 104; refine (unhide CT).mono ?_; rintro e w1 ⟨k, rfl, hk, hm1, hf1⟩; have HM1 := hide hm1; have HF1 := hide hf1; have hw1 := hf1.size; clear hm1 hf1)
  have hi1 : (k : Int) ≤ (ccap : Int) := by omega
  have hi2 : (k : Int) + 1 ≤ (c.length : Int) := by omega
  have hi3 : (c.length : Int) ≤ (ccap : Int) := by omega
  have hi4 : (0 : Int) ≤ (k : Int) := by omega
  have hi5 : (k : Int) + 1 ≤ (ccap : Int) := by omega
  have hi6 : (0 : Int) ≤ (k : Int) + 1 := by omega
  have hi7 : ((k : Int) + 1).toNat = k + 1 := by omega
  have hw : IntKind.i64.wrap ((k : Int) + 1) = (k : Int) + 1 := by rw [IntKind.wrap_i64]; omega
  obtain ⟨b2, o2, hra, hdr⟩ : ∃ b2 o2, (if ccap = k + 1 then some (⟨b, o, none⟩ : Addr) else some ⟨b, o + (k + 1) * 2, none⟩) = some ⟨b2, o2, none⟩ ∧ LitsK w1 B (some ⟨b2, o2, none⟩) (c.drop (k + 1)) := by
    by_cases h1 : ccap = k + 1
    · have : c.drop (k + 1) = [] := List.drop_eq_nil_of_le (by omega)
      rw [this]
      exact ⟨b, o, if_pos h1, ⟨by simp, fun k hk => by simp at hk⟩⟩
    · exact ⟨b, o + (k + 1) * 2, if_neg h1, (HC.out.fr HF1.out).drop (k + 1)⟩
  have hb2 : Below w1.heap.size w1 (w1.alloc (.cells #[.slice (some ⟨b, o, none⟩) k ccap, .slice (some ⟨b2, o2, none⟩) (c.length - (k + 1)) (ccap - (k + 1))] 22)) := (Below.refl _ _).alloc (Nat.le_refl _) _
  have hbx := box2 w1 (.slice (some ⟨b, o, none⟩) k ccap) (.slice (some ⟨b2, o2, none⟩) (c.length - (k + 1)) (ccap - (k + 1))) 22
  have hlt1 : (c.take k).length = k := by simp; omega
  have hlt2 : (c.drop (k + 1)).length = c.length - (k + 1) := by simp
  have CC := hide (fun wx (hx : ∃ n, wx = (w1.alloc (.cells #[.slice (some ⟨b, o, none⟩) k ccap, .slice (some ⟨b2, o2, none⟩) (c.length - (k + 1)) (ccap - (k + 1))] 22)).drewN n) =>
    concat_any B w1.heap.size b o ccap b2 o2 (ccap - (k + 1)) (c.take k) (c.drop (k + 1)) wx (((((HC.out.fr HF1.out).take k).fr (Fr.of_below hb2)).fr ((Fr.refl _ _).drawn hx))) ((hdr.fr (Fr.of_below hb2)).fr ((Fr.refl _ _).drawn hx)) (by rw [hlt1]; obtain ⟨m, rfl⟩ := hx; exact hbx.1) (by rw [hlt2]; obtain ⟨m, rfl⟩ := hx; exact hbx.2))
  have hrl : (c.take k ++ c.drop (k + 1)).length + 1 = c.length := by simp; omega
  have HB2 := hide hb2
  have HX1 := hide (HC.out.cell k hk)
  have HXF := hide (HFC.out c[k] (List.getElem_mem _))
  have HMR := hide (mem_rest c k hk)
  have HFR : Hid (Fine (c.take k ++ c.drop (k + 1))) := hide (HFC.out.of fun l hl => (mem_rest c k hk l).2 (Or.inr hl))
  generalize hrest : c.take k ++ c.drop (k + 1) = rest at *
  obtain ⟨x, hx⟩ : ∃ x, x = c[k] := ⟨_, rfl⟩
  rw [← hx] at HX1 HXF HMR
  clear hb2 hbx hlt1 hlt2 hdr hrest hx
  go_region_held3 (fun _ => True) (trivial) ((go_at_call 105; refine (unhide CC _ (by first | exact ⟨0, rfl⟩ | exact ⟨1, rfl⟩ | exact ⟨_, rfl⟩)).mono ?_; rintro e w2 ⟨v, rfl, hrow, hb3⟩; have HB4 := hide hb3; replace hb3 := undraw (W := w1.alloc (.cells #[.slice (some ⟨b, o, none⟩) k ccap, .slice (some ⟨b2, o2, none⟩) (c.length - (k + 1)) (ccap - (k + 1))] 22)) (by first | exact ⟨0, rfl⟩ | exact ⟨1, rfl⟩ | exact ⟨_, rfl⟩) hb3; have HROW := hide hrow; have HB3 := hide hb3; clear hrow hb3))
  have hB2 : Below w1.heap.size w1 w2 := HB2.out.trans (HB3.out.mono (by simp))
  have hbase : Below ((w1.alloc (.cells #[.slice (some ⟨b, o, none⟩) k ccap, .slice (some ⟨b2, o2, none⟩) (c.length - (k + 1)) (ccap - (k + 1))] 22)).drew).heap.size ((w1.alloc (.cells #[.slice (some ⟨b, o, none⟩) k ccap, .slice (some ⟨b2, o2, none⟩) (c.length - (k + 1)) (ccap - (k + 1))] 22)).drew) w2 := HB4.out
  obtain ⟨ra, rcap, rfl, hrc, hRL, -⟩ := HROW.out.lits hbase (by omega)
  have HF2 : Hid (Fr B w w2) := hide (HF1.out.trans (Fr.of_below hB2))
  have HM2 := hide (HM1.out.below hB2)
  have HRL := hide hRL
  have ham := HM2.out.among
  have hw2 := (HF2.out).size
  clear hB2 hbase hRL hra hi1 hi2 hi3 hi4 hi5 hi6 hi7 hw
  go_wp2
  go_loopw [27] (fun i wr => ∃ j : Nat, j ≤ d.length ∧ i = .int .i64 j ∧ MIn wr B g (.slice da d.length dcap) L ∧ Fr B w2 wr ∧ (∀ y ∈ d.take j, ∀ L', matchL x y L = some L' → ¬ Cov d rest L')) (fun i _ => d.length - (intOf i).toNat)
  case atStart => exact ⟨0, Nat.zero_le _, rfl, HM2.out, Fr.refl _ _, by simp⟩
  case round =>
    obtain ⟨j, hj, rfl, hM, hF, hno⟩ := hrel
    by_cases hlt : j < d.length
    · obtain ⟨b4, o4, ya, yc, rfl, hs4, y1, y2, hyc, hY⟩ := ((HD.out.fr HF2.out).fr hF).cell j hlt
      obtain ⟨hty, hy60⟩ := HFD.out d[j] (List.getElem_mem _)
      obtain ⟨b3, o3, xa, xc, e3, hs30, x10, x20, hxc, hX0⟩ := HX1.out
      obtain ⟨rfl, rfl⟩ : b = b3 ∧ o = o3 := by simpa using e3
      have hFw := HF2.out.trans hF
      have x1 := hFw.cell x10 hs30
      have x2 := hFw.cell x20 hs30
      have hX := hX0.fr hFw
      have hs3 := hs30.fr (World.block_lt_of_cell? w _ x10) hFw
      obtain ⟨htx, hx60⟩ := HXF.out
      obtain ⟨ba, bcap, hbl⟩ := hM.len
      have hlb : (L.length : Int) ≤ 60 := by have := hM.ok.few; omega
      have htk : d.take (j + 1) = d.take j ++ [d[j]] := List.take_succ_eq_append_getElem hlt
      have hyd : d[j] ∈ d := List.getElem_mem _
      have hki : (k : Int) < (c.length : Int) := by omega
      generalize d[j] = y at *
      obtain ⟨yb, yl⟩ := y
      obtain ⟨xb, xl⟩ := x
      simp only at y1 y2 hty hy60 hY hyc x1 x2 hX htx hx60 hxc
      have hb5 : Below wr.heap.size wr (wr.alloc (.cells #[.bool yb, .slice ya yl.length yc] 30)) := (Below.refl _ _).alloc (Nat.le_refl _) _
      have hbx := box2 wr (.bool yb) (.slice ya yl.length yc) 30
      have hs5 := stays_new (w := wr) (B := B) #[.bool yb, .slice ya yl.length yc] 30 (by decide) (by decide)
      have hs6 : Stays (wr.alloc (.cells #[.bool yb, .slice ya yl.length yc] 30)) B b := hs3.fr (World.block_lt_of_cell? wr _ x1) (Fr.of_below hb5)
      have x12 := Below.at' hb5 (Nat.le_refl _) x1
      have x22 := Below.at' hb5 (Nat.le_refl _) x2
      have hbl2 := Below.at' hb5 (Nat.le_refl _) hbl
      obtain ⟨hbx0, hbx1⟩ := hbx
      have hM5 := hM.below hb5
      have hX5 := hX.fr (Fr.of_below hb5)
      have hY5 := hY.fr (Fr.of_below hb5)
      have HF5 := hide (hF.trans (Fr.of_below hb5))
      have HNO := hide hno
      have HTK := hide htk
      have HYD := hide hyd
      have HS5 := hide hs5
      have HS6 := hide hs6
      have hws5 := (HF5.out).size
      clear hno htk hyd hM hF hFw hs3 hs30 hs4 hs5 hs6 hX0 hX hY x10 x20 e3 x1 x2 hbl
      cases hml : matchL (xb, xl) (yb, yl) L with
      | none =>
        have CM := hide (mMatch_none B g (.slice (some ⟨b4, o4, none⟩) d.length dcap) L _ xb yb xa ya xc yc xl yl hM5 hX5 hY5 hyc htx hty hx60 hy60 hml)
        have HML := hide hml
        clear hM5 hX5 hY5 hml hyc hty hy60 htx hx60 hb5
        go_wp2_with fail
        generalize hWI : wr.alloc (.cells #[.bool yb, .slice ya yl.length yc] 30) = WI at *
        clear hWI
        first | go_region_with (go_at_call 106; refine (unhide CM _ (by first | exact ⟨0, rfl⟩ | exact ⟨1, rfl⟩ | exact ⟨_, rfl⟩)).mono ?_; rintro e w3 ⟨rfl, ⟨M, hm3⟩, hf3⟩; have c0 := hf3.cell x12 HS6.out; have c1 := hf3.cell x22 HS6.out; have c2 := hf3.cell hbx0 HS5.out; have c3 := hf3.cell hbx1 HS5.out; have CF := hide (mFree_any B g _ L M w3 hm3); have HF6 := hide (HF5.out.trans hf3); clear hm3 hf3) | fail
        all_goals
          go_wp2_with (go_at_call 107; refine (unhide CF).mono ?_; rintro e w5 ⟨rfl, hm5, hf5⟩; have HM5 := hide hm5; have HF7 := hide (HF6.out.trans hf5); clear hm5 hf5)
          go_roundw
          case rel => exact ⟨j + 1, by omega, by go_num, HM5.out, HF7.out, by
            intro y hy L' hL'
            rw [HTK.out] at hy
            rcases List.mem_append.1 hy with hy | hy
            · exact HNO.out y hy L' hL'
            · simp at hy
              subst hy
              rw [HML.out] at hL'
              simp at hL'⟩
          case measure => simp [intOf]; omega
      | some L1 =>
        have CM := hide (mMatch_some B g (.slice (some ⟨b4, o4, none⟩) d.length dcap) L L1 _ xb yb xa ya xc yc xl yl hM5 hX5 hY5 hyc htx hty hx60 hy60 hml)
        obtain ⟨M1, hM1, hgr⟩ := matchL_grow (x := (xb, xl)) (y := (yb, yl)) htx hty hml
        have HML := hide hml
        have HG1 := hide hM1
        have HTX := hide (And.intro htx hty)
        have HGV := hide hgr
        clear hM5 hX5 hY5 hml hyc hty hy60 htx hx60 hb5 hM1 hgr
        go_wp2_with fail
        generalize hWI : wr.alloc (.cells #[.bool yb, .slice ya yl.length yc] 30) = WI at *
        clear hWI
        go_region_held3 (fun w' => w'.cell? ⟨b, o + k * 2, none⟩ = some (.bool xb) ∧ w'.cell? ⟨b, o + k * 2 + 1, none⟩ = some (.slice xa xl.length xc) ∧ w'.cell? ⟨wr.heap.size, 0, none⟩ = some (.bool yb) ∧ w'.cell? ⟨wr.heap.size, 1, none⟩ = some (.slice ya yl.length yc)) (go_keep)
          (first
            | (go_at_call 106; refine (unhide CM _ (by first | exact ⟨0, rfl⟩ | exact ⟨1, rfl⟩ | exact ⟨_, rfl⟩)).mono ?_; rintro e w3 ⟨rfl, hm3, hf3⟩; have c0 := hf3.cell x12 HS6.out; have c1 := hf3.cell x22 HS6.out; have c2 := hf3.cell hbx0 HS5.out; have c3 := hf3.cell hbx1 HS5.out; have hws3 := hf3.size; have CA := hide (HS.out B g (some ⟨b4, o4, none⟩) dcap d L1 w3 ra rcap rest (by omega) hm3 (((HD.out.fr HF2.out).fr HF5.out).fr hf3) ((HRL.out.fr HF5.out).fr hf3) hrc HFD.out HFR.out (by omega)); have HF3 := hide hf3; clear hm3 hf3)
            | (go_at_call 65; refine (unhide CA).mono ?_; rintro e w4 ⟨r, L2, rfl, hm4, hf4, ⟨M2, hM2⟩, hr1, hr2⟩; have k0 := hf4.cell c0 (HS6.out.fr (World.block_lt_of_cell? _ _ x12) HF3.out); have k1 := hf4.cell c1 (HS6.out.fr (World.block_lt_of_cell? _ _ x22) HF3.out); have k2 := hf4.cell c2 (HS5.out.fr (World.block_lt_of_cell? _ _ hbx0) HF3.out); have k3 := hf4.cell c3 (HS5.out.fr (World.block_lt_of_cell? _ _ hbx1) HF3.out); have CF := hide (mFree_any B g (.slice (some ⟨b4, o4, none⟩) d.length dcap) L (M1 ++ M2) w4 (by rw [← List.append_assoc, ← HG1.out, ← hM2]; exact hm4)); have HM4 := hide hm4; have HF6 := hide ((HF5.out.trans HF3.out).trans hf4); have HR1 := hide hr1; have HR2 := hide hr2; have HM2' := hide hM2; clear hm4 hf4 hr1 hr2 hM2))
        go_wp2_with (go_at_call 107; refine (unhide CF).mono ?_; rintro e w5 ⟨rfl, hm5, hf5⟩; have HM5 := hide hm5; have HF7 := hide (HF6.out.trans hf5); clear hm5 hf5)
        · have hr : r = true := by first | assumption | (cases r <;> simp_all)
          subst hr
          go_ret
          obtain ⟨hg2, hmd⟩ := HR1.out rfl
          have hsp := matchL_some (x := (xb, xl)) (y := (yb, yl)) HTX.out.1 HTX.out.2 HML.out
          refine ⟨true, L2, rfl, HM4.out, HF2.out.trans HF6.out, ⟨M1 ++ M2, by rw [HM2'.out, HG1.out]; simp⟩, fun _ => ⟨?_, ?_⟩, by simp⟩
          · refine Grown.trans (c := [(xb, xl)]) ⟨M1, HG1.out, fun p hp => ⟨⟨(xb, xl), by simp, (HGV.out p hp).1⟩, (HGV.out p hp).2⟩⟩ hg2 (fun l hl => ?_) (fun l hl => (HMR.out l).2 (Or.inr hl))
            simp at hl
            rw [hl]
            exact (HMR.out _).2 (Or.inl rfl)
          · intro σ hσ he l hl
            rcases (HMR.out l).1 hl with rfl | hl
            · rw [((hsp σ hσ).1 (hg2.ext he)).2]; exact HYD.out
            · exact hmd σ hσ he l hl
        · have hr : r = false := by first | assumption | (cases r <;> simp_all)
          subst hr
          go_roundw
          case rel => exact ⟨j + 1, by omega, by go_num, HM5.out, HF7.out, by
            intro y hy L' hL'
            rw [HTK.out] at hy
            rcases List.mem_append.1 hy with hy | hy
            · exact HNO.out y hy L' hL'
            · simp at hy
              subst hy
              rw [HML.out] at hL'
              simp at hL'
              subst hL'
              exact HR2.out rfl⟩
          case measure => simp [intOf]; omega
    · have htk : d.take j = d := List.take_of_length_le (by omega)
      rw [htk] at hno
      have HM3 := hide hM
      have HF3 := hide hF
      have HN : Hid (¬ Cov d c L) := hide (by
        intro hc
        obtain ⟨y, hy, L', h1, h2⟩ := (cov_first (fun l hl => (HFD.out l hl).1) HXF.out.1 HMR.out).1 hc
        exact hno y hy L' h1 h2)
      clear htk hno hM hF
      go_wp2
      go_ret
      exact ⟨false, L, rfl, HM3.out, HF2.out.trans HF3.out, ⟨[], by simp⟩, by simp, fun _ => HN.out⟩
theorem group_spec : ∀ n, GroupSpec n
  | 0 => fun B g da dcap d L w b o ccap c hn h0 => by omega
  | n + 1 => group_of_all n (all_of_group n (group_spec n))
theorem all_spec (n : Nat) : AllSpec n := all_of_group n (group_spec n)

end Go.Proofs.YtjnddclkdofgdaaDoor
