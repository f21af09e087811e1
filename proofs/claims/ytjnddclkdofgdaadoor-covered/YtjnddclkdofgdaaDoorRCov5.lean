/- The document's own answer: can literals that are left be made others? -/
import Derived.Test.YtjnddclkdofgdaaDoorRCov4
import Derived.Test.YtjnddclkdofgdaaDoorCGroup
namespace Go.Proofs.YtjnddclkdofgdaaDoor
open Go.RowKit Go.Shelf
set_option maxRecDepth 100000

/-- A list of places. -/
def intCells (ks : List Nat) : List Value := ks.map fun (k : Nat) => .int .i64 (k : Int)
def IntsV (w : World) (v : Value) (ks : List Nat) : Prop := w.ownsRow 0 3 1 v ks.length (intCells ks)
theorem IntsV.below {w w1 : World} {v : Value} {ks : List Nat} (h : IntsV w v ks) (k : Below w.heap.size w w1) : IntsV w1 v ks := own_below h k (Nat.le_refl _)
theorem IntsV.cell {w : World} {v : Value} {ks : List Nat} (h : IntsV w v ks) (h0 : 0 < ks.length) : ∃ g cap, v = .slice (some ⟨g, 0, none⟩) ks.length cap ∧ ks.length ≤ cap ∧ ∀ k (hk : k < ks.length), w.cell? ⟨g, k, none⟩ = some (.int .i64 (ks[k] : Int)) := by
  have h' := h
  obtain ⟨h1, ⟨rfl, h2⟩ | ⟨g, cap, cur, rfl, hb, hh, hc, hm, hz, ht⟩⟩ := h'
  · omega
  · refine ⟨g, cap, rfl, hc, fun k hk => ?_⟩
    have := World.ownsRow.cellAt h k (by omega)
    rw [this]
    simp [intCells, hk]
theorem intCells_one (ks : List Nat) : ∀ u ∈ intCells ks, u.oneCell' = true := by
  intro u hu
  simp only [intCells, List.mem_map] at hu
  obtain ⟨k, _, rfl⟩ := hu
  rfl
theorem intCells_get {ks : List Nat} {j : Nat} {u : Value} (h : (intCells ks)[j]? = some u) : ∃ hj : j < ks.length, u = .int .i64 (ks[j] : Int) := by
  have hj : j < (intCells ks).length := (List.getElem?_eq_some_iff.1 h).1
  have hj' : j < ks.length := by simpa [intCells] using hj
  refine ⟨hj', ?_⟩
  simp [intCells, hj'] at h
  exact h.symm
/-- The literals at places. -/
def pick (c : List Lt) (ks : List Nat) : List Lt := ks.map fun k => c.getD k (false, [])
theorem pick_rest (c : List Lt) (ks : List Nat) (i : Nat) (h : i < ks.length) : ∀ l, l ∈ pick c ks ↔ l = c.getD ks[i] (false, []) ∨ l ∈ pick c (ks.take i ++ ks.drop (i + 1)) := by
  intro l
  have e : ks = ks.take i ++ ks[i] :: ks.drop (i + 1) := by rw [← List.drop_eq_getElem_cons h, List.take_append_drop]
  simp only [pick, List.mem_map, List.mem_append]
  constructor
  · rintro ⟨k, hk, rfl⟩
    rw [e] at hk
    rcases List.mem_append.1 hk with hk | hk
    · exact Or.inr ⟨k, Or.inl hk, rfl⟩
    · rcases List.mem_cons.1 hk with hk | hk
      · exact Or.inl (by rw [hk])
      · exact Or.inr ⟨k, Or.inr hk, rfl⟩
  · rintro (rfl | ⟨k, hk, rfl⟩)
    · exact ⟨ks[i], List.getElem_mem _, rfl⟩
    · rcases hk with hk | hk
      · exact ⟨k, List.mem_of_mem_take hk, rfl⟩
      · exact ⟨k, List.mem_of_mem_drop hk, rfl⟩
theorem getD_at (c : List Lt) (k : Nat) (h : k < c.length) : c.getD k (false, []) = c[k] := by simp [h]

/-- What cover answers, for lists of at most so many. -/
def CoverSpec (n : Nat) : Prop := ∀ (B : Nat) (ca : Option Addr) (ccap : Nat) (c : List Lt) (da : Option Addr) (dcap : Nat) (d : List Lt) (lv : Value) (L : Bd') (fv : Value) (ks : List Nat) (w : World), ks.length ≤ n → (∀ k ∈ ks, k < c.length) → LitsK w B ca c → LitsK w B da d → Fine c → Fine d → LOk L → BdsV w lv L → IntsV w fv ks → ks.length ≤ 8 →
  Calls Tryd.prog 66 #[.slice ca c.length ccap, .slice da d.length dcap, fv, lv] w fun e w' => ∃ r : Bool, e = .returned (.bool r) ∧ (r = true ↔ Cov d (pick c ks) L) ∧ Below w.heap.size w w'

set_option maxHeartbeats 400000 in
theorem cover_nil (ca : Option Addr) (ccap : Nat) (c : List Lt) (da : Option Addr) (dcap : Nat) (d : List Lt) (lv : Value) (L : Bd') (fv : Value) (w : World) (hL : LOk L) (hI : IntsV w fv []) :
    Calls Tryd.prog 66 #[.slice ca c.length ccap, .slice da d.length dcap, fv, lv] w fun e w' => ∃ r : Bool, e = .returned (.bool r) ∧ (r = true ↔ Cov d (pick c []) L) ∧ Below w.heap.size w w' := by
  obtain ⟨a, cap, rfl⟩ := own_shape hI
  have HC : Hid (Cov d (pick c []) L) := hide (cov_nil hL.look)
  clear hI hL
  simp only [List.length_nil]
  go_enter Tryd.func66, Tryd.ntmps66
  go_wp2
  go_ret
  exact ⟨true, rfl, ⟨fun _ => HC.out, fun _ => rfl⟩, Below.refl _ _⟩

/-- A literal at a place, and what fits counts for it. -/
theorem cover_at {B b0 o0 : Nat} {c : List Lt} {da : Option Addr} {dcap : Nat} {d : List Lt} {lv : Value} {L : Bd'} {ks : List Nat} {w : World} (hks : ∀ k ∈ ks, k < c.length) (hC : LitsK w B (some ⟨b0, o0, none⟩) c) (hD : LitsK w B da d) (hfc : Fine c) (hfd : Fine d) (hL : LOk L) (hV : BdsV w lv L)
    (i : Nat) (hi : i < ks.length) (wx : World) (hb : Below w.heap.size w wx) : ∃ (xl : Lt) (xa : Option Addr) (xc : Nat), xl = c.getD ks[i] (false, []) ∧ termGo xl.2 1 = true ∧ xl.2.length ≤ 60 ∧ wx.cell? ⟨b0, o0 + ks[i] * 2, none⟩ = some (.bool xl.1) ∧ wx.cell? ⟨b0, o0 + ks[i] * 2 + 1, none⟩ = some (.slice xa xl.2.length xc) ∧ NodesIn wx xa xl.2 ∧
        Calls Tryd.prog 88 #[.agg #[.bool xl.1, .slice xa xl.2.length xc], .slice da d.length dcap, lv] wx fun e w' => ∃ n : Nat, e = .returned (.int .i64 n) ∧ n ≤ 8 ∧ FitPost d xl L n ∧ Below wx.heap.size wx w' := by
  have hki := hks ks[i] (List.getElem_mem _)
  obtain ⟨b', o', xa, xc, e, _, x1, x2, x3, x4⟩ := (hC.fr (Fr.of_below hb)).cell ks[i] hki
  obtain ⟨rfl, rfl⟩ : b0 = b' ∧ o0 = o' := by simpa using e
  have hf := hfc c[ks[i]] (List.getElem_mem _)
  exact ⟨c[ks[i]], xa, xc, (getD_at c _ hki).symm, hf.1, hf.2, x1, x2, x4.nodes, rFitsN_any B da dcap d c[ks[i]].1 xa xc c[ks[i]].2 lv L wx (hD.fr (Fr.of_below hb)) x4.nodes hf.1 hf.2 hfd hL (hV.below hb)⟩

set_option maxHeartbeats 8000000 in
theorem cover_succ (n : Nat) (hS : CoverSpec n) : CoverSpec (n + 1) := by
  intro B ca ccap c da dcap d lv L fv ks w hn hks hC hD hfc hfd hL hV hI h8
  by_cases h0 : 0 < ks.length
  · obtain ⟨iI, hI0, hI1, hI2, hI3⟩ := info_parts infoInt
    obtain ⟨g, cap, rfl, hcap, hcell⟩ := hI.cell h0
    have hc8 := hC.few
    have hd8 := hD.few
    have hk0 := hks ks[0] (List.getElem_mem _)
    obtain ⟨b0, o0, rfl⟩ : ∃ b0 o0, ca = some ⟨b0, o0, none⟩ := by
      obtain ⟨b0, o0, _, _, e, _⟩ := hC.cell ks[0] hk0
      exact ⟨b0, o0, e⟩
    have HS := hide hS
    have HKS := hide hks
    have HC := hide hC
    have HD := hide hD
    have HFC := hide hfc
    have HFD := hide hfd
    have HL := hide hL
    have HV := hide hV
    have HCE := hide hcell
    have HI := hide hI
    have HAT := hide (fun i hi wx hb => cover_at hks hC hD hfc hfd hL hV (dcap := dcap) i hi wx hb)
    have hkz : ((ks.length : Int) == 0) = false := by rw [beq_eq_false_iff_ne]; omega
    have c0 := hcell 0 h0
    have hk0i : (ks[0] : Int) < (c.length : Int) := by omega
    have h0i : (0 : Int) < (ks.length : Int) := by omega
    obtain ⟨⟨xb0, xl0⟩, xa0, xc0, hxe0, -, -, x10, x20, -, CF0'⟩ := HAT.out 0 h0 w (Below.refl _ _)
    simp only at x10 x20 CF0'
    have CF0 := hide CF0'
    have HXE0 := hide hxe0
    clear hxe0
    clear hS hks hC hD hfc hfd hL hV hcell hI CF0'
    go_enter Tryd.func66, Tryd.ntmps66
    go_wp2_with (go_at_call 88; refine (unhide CF0).mono ?_; rintro e w1 ⟨m0, rfl, hm0, hfp0, hb1⟩; have HFP0 := hide hfp0; have HB1 := hide hb1; clear hfp0 hb1)
    clear hkz c0 hk0i x10 x20
    go_loopw [9, 10, 11] (fun a f i wr => ∃ p q m : Nat, p ≤ ks.length ∧ 1 ≤ p ∧ i = .int .i64 p ∧ a = .int .i64 q ∧ f = .int .i64 m ∧ m ≤ 8 ∧ (∃ hq : q < ks.length, FitPost d (c.getD ks[q] (false, [])) L m) ∧ Below w.heap.size w wr) (fun _ _ i _ => ks.length - (intOf i).toNat)
    case atStart => exact ⟨1, 0, m0, by omega, by omega, rfl, rfl, rfl, hm0, ⟨h0, by rw [← HXE0.out]; exact HFP0.out⟩, HB1.out⟩
    case round =>
      obtain ⟨p, q, m, hp, hp1, rfl, rfl, rfl, hm, ⟨hq, hfp⟩, hb⟩ := hrel
      by_cases hlt : p < ks.length
      · have hpi : (p : Int) < (ks.length : Int) := by omega
        have cp := Below.at' hb (Nat.le_refl _) (HCE.out p hlt)
        have hkp := HKS.out ks[p] (List.getElem_mem _)
        have hkpi : (ks[p] : Int) < (c.length : Int) := by omega
        obtain ⟨⟨xb, xl⟩, xa, xc, hxe, -, -, x1, x2, -, CF'⟩ := HAT.out p hlt wr hb
        simp only at x1 x2 CF'
        have CF := hide CF'
        have HXE := hide hxe
        clear hxe
        have HFP := hide hfp
        have HB := hide hb
        have hbs := hb.size
        clear CF' hfp hb
        go_wp2_with (go_at_call 88; refine (unhide CF).mono ?_; rintro e w2 ⟨m2, rfl, hm2, hfp2, hb2⟩; have HFP2 := hide hfp2; have HB2 := hide (HB.out.trans (hb2.mono hbs)); clear hfp2 hb2)
        · go_roundw
          case rel => exact ⟨p + 1, p, m2, by omega, by omega, by go_num, rfl, rfl, hm2, ⟨hlt, by rw [← HXE.out]; exact HFP2.out⟩, HB2.out⟩
          case measure => simp [intOf]; omega
        · go_roundw
          case rel => exact ⟨p + 1, q, m, by omega, by omega, by go_num, rfl, rfl, hm, ⟨hq, HFP.out⟩, HB2.out⟩
          case measure => simp [intOf]; omega
      · have hpi : ¬ (p : Int) < (ks.length : Int) := by omega
        have cq := Below.at' hb (Nat.le_refl _) (HCE.out q hq)
        have hkq := HKS.out ks[q] (List.getElem_mem _)
        have hkqi : (ks[q] : Int) < (c.length : Int) := by omega
        have hqi : (q : Int) < (ks.length : Int) := by omega
        obtain ⟨⟨xb, xl⟩, xa, xc, hxe, htx, hx60, x1, x2, hX, -⟩ := HAT.out q hq wr hb
        simp only at x1 x2 htx hx60 hX
        have hq1 : (q : Int) ≤ (cap : Int) := by omega
        have hq2 : (q : Int) + 1 ≤ (ks.length : Int) := by omega
        have hq3 : (0 : Int) ≤ (q : Int) + 1 := by omega
        have hq4 : ((q : Int) + 1).toNat = q + 1 := by omega
        have hq5 : (q : Int) + 1 ≤ (cap : Int) := by omega
        have hq6 : (ks.length : Int) ≤ (cap : Int) := by omega
        have hq7 : (0 : Int) ≤ (q : Int) := by omega
        have hqw : IntKind.i64.wrap ((q : Int) + 1) = (q : Int) + 1 := by rw [IntKind.wrap_i64]; omega
        obtain ⟨o2, hra, hdr⟩ : ∃ o2, (if cap = q + 1 then some (⟨g, 0, none⟩ : Addr) else some ⟨g, q + 1, none⟩) = some ⟨g, o2, none⟩ ∧ (∀ i, i < ks.length - (q + 1) → o2 = q + 1) := by
          by_cases h1 : cap = q + 1
          · exact ⟨0, if_pos h1, fun i hi => by omega⟩
          · exact ⟨q + 1, if_neg h1, fun _ _ => rfl⟩
        have HDR := hide hdr
        have HXE := hide hxe
        have HFP := hide hfp
        have HB := hide hb
        have hbs := hb.size
        have hb2 : Below wr.heap.size wr (wr.alloc (.cells #[.bool xb, .slice xa xl.length xc] 30)) := (Below.refl _ _).alloc (Nat.le_refl _) _
        have HB2 := hide (hb.trans (hb2.mono hbs))
        have hbx := box2 wr (.bool xb) (.slice xa xl.length xc) 30
        have HBX := hide hbx
        have HTX := hide (And.intro htx hx60)
        have HX := hide (hX.below hb2 (Nat.le_refl _))
        have hl1 : (ks.take q).length = q := by simp; omega
        have hl2 : (ks.drop (q + 1)).length = ks.length - (q + 1) := by simp
        have HL1 := hide hl1
        have HL2 := hide hl2
        obtain ⟨w2s, hw2s⟩ : ∃ w2s, w2s = wr.heap.size := ⟨_, rfl⟩
        have HW2S := hide hw2s
        clear hdr hxe hfp hb hb2 hbx htx hx60 hX hl1 hl2 hw2s
        go_wp2_with (first
          | (at_builtin; refine wpList_append_own _ rfl _ _ 34 rfl (wr.heap.size + 1) 3 iI (.int .i64 0) 1 8 Tryd.underlying34 hI0 hI1 hI2 hI3 rfl (by decide) _ _ _ rfl (World.ownsRow_nil _ _ _ _) ⟨g, 0, none⟩ q cap (intCells (ks.take q)) rfl ?d1 ?d2 ?d3 ?d4 ?d5 ?d6 ?_)
          | go_in)
        case d1 => simp [intCells]; omega
        case d2 =>
          intro j u hu
          obtain ⟨hj, rfl⟩ := intCells_get hu
          have hj' : j < ks.length := by have := HL1.out; omega
          try rw [Addr.add_lit, Nat.zero_add]
          have := Below.at' HB2.out (Nat.le_refl _) (HCE.out j hj')
          simpa using this
        case d3 => exact intCells_one _
        case d4 => unfold maxLen; omega
        case d5 => omega
        try case d6 => first | omega | (simp; omega) | simp
        intro v1 w3 ho1 hg1 _
        have HB3 := hide (HB2.out.grown hg1 HB2.out.size fun k e => by simp [Value.ownBlock] at e)
        have HG3 : Hid (Below (wr.alloc (.cells #[.bool xb, .slice xa xl.length xc] 30)).heap.size (wr.alloc (.cells #[.bool xb, .slice xa xl.length xc] 30)) w3) := hide ((Below.refl _ _).grown hg1 (Nat.le_refl _) fun k e => by simp [Value.ownBlock] at e)
        have hb3s := HB3.out.size
        clear hg1
        go_wp2_with (first
          | (at_builtin; refine wpList_append_own _ rfl _ _ 34 rfl (wr.heap.size + 1) 3 iI (.int .i64 0) 1 8 Tryd.underlying34 hI0 hI1 hI2 hI3 rfl (by decide) _ _ _ rfl ho1 ⟨g, o2, none⟩ (ks.length - (q + 1)) (cap - (q + 1)) (intCells (ks.drop (q + 1))) rfl ?e1 ?e2 ?e3 ?e4 ?e5 ?e6 ?_)
          | go_in)
        case e1 => simp [intCells]
        case e2 =>
          intro j u hu
          obtain ⟨hj, rfl⟩ := intCells_get hu
          have hj2 : j < ks.length - (q + 1) := by have := HL2.out; omega
          try rw [Addr.add_lit]
          rw [HDR.out j hj2]
          have := Below.at' HB3.out (Nat.le_refl _) (HCE.out (q + 1 + j) (by omega))
          simpa using this
        case e3 => exact intCells_one _
        case e4 => unfold maxLen; omega
        case e5 => omega
        case e6 => have := HG3.out.size; simp at this; omega
        intro v2 w4 ho2 hg2 _
        have HIV : Hid (IntsV w4 v2 (ks.take q ++ ks.drop (q + 1))) := hide (by
          have e := own_mono ho2 (Nat.zero_le _)
          have h1 : (ks.take q ++ ks.drop (q + 1)).length = 0 + q + (ks.length - (q + 1)) := by simp; omega
          unfold IntsV
          rw [h1]
          simpa [intCells] using e)
        have HBW4 := hide (HB3.out.grown hg2 hb3s fun k e => by have := (own_lt ho1 k e).1; omega)
        have HG4 : Hid (Below (wr.alloc (.cells #[.bool xb, .slice xa xl.length xc] 30)).heap.size (wr.alloc (.cells #[.bool xb, .slice xa xl.length xc] 30)) w4) := hide (HG3.out.grown hg2 HG3.out.size fun k e => by have := (own_lt ho1 k e).1; simp; omega)
        have HK4 : Hid (∀ k ∈ ks.take q ++ ks.drop (q + 1), k < c.length) := hide (fun k hk => by
          rcases List.mem_append.1 hk with hk | hk
          · exact HKS.out k (List.mem_of_mem_take hk)
          · exact HKS.out k (List.mem_of_mem_drop hk))
        have hrl : (ks.take q ++ ks.drop (q + 1)).length + 1 = ks.length := by simp; omega
        have HPR := hide (pick_rest c ks q hq)
        clear ho1 ho2 hg2 hra hq1 hq2 hq3 hq4 hq5 hq6 hq7 hqw cq
        generalize hrest : ks.take q ++ ks.drop (q + 1) = rest at *
        rw [← HXE.out] at HPR
        rw [← HXE.out] at HFP
        have zb0 := Below.at' HG4.out (Nat.le_refl _) HBX.out.1
        have zb1 := Below.at' HG4.out (Nat.le_refl _) HBX.out.2
        rw [← HW2S.out] at zb0 zb1
        have HX4 := hide (HX.out.below HG4.out (Nat.le_refl _))
        have HZ0 := hide zb0
        have HZ1 := hide zb1
        clear hrest zb0 zb1 x1 x2
        go_wp2
        have HBS4 := hide (fun (wx : World) (hx : Below w4.heap.size w4 wx) => HBW4.out.trans (hx.mono HBW4.out.size))
        rw [← HW2S.out]
        go_loopw [15] (fun i wi => ∃ j : Nat, j ≤ d.length ∧ i = .int .i64 j ∧ Below w4.heap.size w4 wi ∧ (∀ y ∈ d.take j, ∀ L', matchL (xb, xl) y L = some L' → ¬ Cov d (pick c rest) L')) (fun i _ => d.length - (intOf i).toNat)
        case atStart => exact ⟨0, Nat.zero_le _, rfl, Below.refl _ _, by simp⟩
        case round =>
          obtain ⟨j, hj, rfl, hb4, hno⟩ := hrel
          by_cases hjl : j < d.length
          · have hjli : (j : Int) < (d.length : Int) := by omega
            by_cases hm0 : 0 < m
            · have hm0i : (0 : Int) < (m : Int) := by omega
              obtain ⟨b4, o4, ya, yc, rfl, hs4, e4, f4, hyc, hY⟩ := ((HD.out.fr (Fr.of_below (HBS4.out _ hb4)))).cell j hjl
              obtain ⟨hty, hy60⟩ := HFD.out d[j] (List.getElem_mem _)
              have htk : d.take (j + 1) = d.take j ++ [d[j]] := List.take_succ_eq_append_getElem hjl
              have hyd : d[j] ∈ d := List.getElem_mem _
              generalize d[j] = y at *
              obtain ⟨yb, yl⟩ := y
              simp only at e4 f4 hty hy60 hY hyc
              have z0 := Below.at' hb4 (Nat.le_refl _) HZ0.out
              have z1 := Below.at' hb4 (Nat.le_refl _) HZ1.out
              have hX5 := HX4.out.below hb4 (Nat.le_refl _)
              have hV5 := HV.out.below (HBS4.out _ hb4)
              have HTK := hide htk
              have HYD := hide hyd
              have HNO := hide hno
              have HB4 := hide hb4
              have hb4s := hb4.size
              by_cases hxy : xb = yb
              · have hbe : (!xb == yb) = false := by simp [hxy]
                cases hmg : matchGo xl yl L with
                | none =>
                  have HML : Hid (matchL (xb, xl) (yb, yl) L = none) := hide (by simp [matchL, hmg])
                  have CM := hide (rMatch_no xa ya xc yc xl yl lv L wr hX5 hY.nodes hyc HTX.out.1 hty HTX.out.2 hy60 HL.out hV5 hmg)
                  clear hmg hX5 hV5 hY hs4 hyc hty hy60 htk hyd hno hb4 hxy
                  go_wp2_with fail
                  go_quiet (fail)
                  go_wp2_with fail
                  go_region_held3 (fun w' => w'.cell? ⟨w2s, 1, none⟩ = some (.slice xa xl.length xc) ∧ w'.cell? ⟨b4, o4 + j * 2 + 1, none⟩ = some (.slice ya yl.length yc)) (go_keep)
                    ((go_at_call 89; refine (unhide CM _ (by first | exact ⟨_, rfl⟩ | exact draw2 _ _ _ | exact draw3 _ _ _ _)).mono ?_; rintro e w5 ⟨rv, rfl, hb5⟩; have k0 := Below.at' hb5 (Nat.le_refl _) z0; have k1 := Below.at' hb5 (Nat.le_refl _) z1; have k3 := Below.at' hb5 (Nat.le_refl _) f4; have HB5 := hide (HB4.out.trans (hb5.mono hb4s)); clear hb5))
                  go_wp2
                  go_roundw
                  case rel => exact ⟨j + 1, by omega, by go_num, HB5.out, by
                    intro y hy L' hL'
                    rw [HTK.out] at hy
                    rcases List.mem_append.1 hy with hy | hy
                    · exact HNO.out y hy L' hL'
                    · simp at hy
                      subst hy
                      rw [HML.out] at hL'; simp at hL'⟩
                  case measure => simp [intOf]; omega
                | some L1 =>
                  have HML : Hid (matchL (xb, xl) (yb, yl) L = some L1) := hide (by simp [matchL, hxy, hmg])
                  have CM := hide (rMatch_yes xa ya xc yc xl yl lv L L1 wr hX5 hY.nodes hyc HTX.out.1 hty HTX.out.2 hy60 HL.out hV5 hmg)
                  have HLO1 := hide (match_ok xl yl 1 L L1 HTX.out.1 hty hy60 HL.out hmg)
                  clear hmg hX5 hV5 hY hs4 hyc hty hy60 htk hyd hno hb4 hxy
                  go_wp2_with fail
                  go_quiet (fail)
                  go_wp2_with fail
                  go_region_held3 (fun w' => w'.cell? ⟨w2s, 1, none⟩ = some (.slice xa xl.length xc) ∧ w'.cell? ⟨b4, o4 + j * 2 + 1, none⟩ = some (.slice ya yl.length yc)) (go_keep)
                    ((go_at_call 89; refine (unhide CM _ (by first | exact ⟨_, rfl⟩ | exact draw2 _ _ _ | exact draw3 _ _ _ _)).mono ?_; rintro e w5 ⟨rv, rfl, hbv, hb5⟩; have HBV := hide hbv; clear hbv; have k0 := Below.at' hb5 (Nat.le_refl _) z0; have k1 := Below.at' hb5 (Nat.le_refl _) z1; have k3 := Below.at' hb5 (Nat.le_refl _) f4; have HB5 := hide (HB4.out.trans (hb5.mono hb4s)); clear hb5))
                  have CR := hide (HS.out B (some ⟨b0, o0, none⟩) ccap c (some ⟨b4, o4, none⟩) dcap d rv L1 v2 rest w5 (by omega) HK4.out (HC.out.fr (Fr.of_below (HBS4.out _ HB5.out))) (HD.out.fr (Fr.of_below (HBS4.out _ HB5.out))) HFC.out HFD.out HLO1.out HBV.out (HIV.out.below HB5.out) (by omega))
                  have hb5s := HB5.out.size
                  go_wp2_with (go_at_call 66; refine (unhide CR).mono ?_; rintro e w6 ⟨r, rfl, hr, hb6⟩; have HR := hide hr; have HB6 := hide (HB5.out.trans (hb6.mono hb5s)); clear hr hb6)
                  · have hr : r = true := by first | assumption | (cases r <;> simp_all)
                    subst hr
                    go_ret
                    refine ⟨true, rfl, ⟨fun _ => ?_, fun _ => rfl⟩, HBS4.out _ HB6.out⟩
                    exact (cov_first (fun l hl => (HFD.out l hl).1) HTX.out.1 HPR.out).2 ⟨(yb, yl), HYD.out, L1, HML.out, HR.out.1 rfl⟩
                  · have hr : r = false := by first | assumption | (cases r <;> simp_all)
                    subst hr
                    go_roundw
                    case rel => exact ⟨j + 1, by omega, by go_num, HB6.out, by
                      intro y hy L' hL'
                      rw [HTK.out] at hy
                      rcases List.mem_append.1 hy with hy | hy
                      · exact HNO.out y hy L' hL'
                      · simp at hy
                        subst hy
                        rw [HML.out] at hL'; simp at hL'; subst hL'; exact fun h => absurd (HR.out.2 h) (by simp)⟩
                    case measure => simp [intOf]; omega
              · have hbe : (!xb == yb) = true := by simp [hxy]
                have HML : Hid (matchL (xb, xl) (yb, yl) L = none) := hide (by simp [matchL, hxy])
                clear hX5 hV5 hY hs4 hyc hty hy60 htk hyd hno hb4 hxy
                go_wp2_with fail
                go_quiet (fail)
                go_wp2
                go_roundw
                case rel => exact ⟨j + 1, by omega, by go_num, HB4.out.trans ((below_drawn (by first | exact ⟨_, rfl⟩ | exact draw2 _ _ _ | exact draw3 _ _ _ _)).mono HB4.out.size), by
                  intro y hy L' hL'
                  rw [HTK.out] at hy
                  rcases List.mem_append.1 hy with hy | hy
                  · exact HNO.out y hy L' hL'
                  · simp at hy
                    subst hy
                    rw [HML.out] at hL'; simp at hL'⟩
                case measure => simp [intOf]; omega
            · have hm0i : decide ((0 : Int) < (m : Int)) = false := by rw [decide_eq_false_iff_not]; omega
              have hm0j : (m : Int) ≤ 0 := by omega
              have HN : Hid (¬ Cov d (pick c ks) L) := hide (by
                intro hc
                obtain ⟨y, hy, L', h1, _⟩ := (cov_first (fun l hl => (HFD.out l hl).1) HTX.out.1 HPR.out).1 hc
                exact hm0 (HFP.out.2 ⟨y, hy, L', h1⟩))
              have HB4 := hide hb4
              clear hno hb4 hm0
              go_wp2
              go_ret
              exact ⟨false, rfl, ⟨fun h => by simp at h, fun h => absurd h HN.out⟩, HBS4.out _ HB4.out⟩
          · have htk : d.take j = d := List.take_of_length_le (by omega)
            rw [htk] at hno
            have hjli : decide ((j : Int) < (d.length : Int)) = false := by rw [decide_eq_false_iff_not]; omega
            have hjlj : (d.length : Int) ≤ (j : Int) := by omega
            have HN : Hid (¬ Cov d (pick c ks) L) := hide (by
              intro hc
              obtain ⟨y, hy, L', h1, h2⟩ := (cov_first (fun l hl => (HFD.out l hl).1) HTX.out.1 HPR.out).1 hc
              exact hno y hy L' h1 h2)
            have HB4 := hide hb4
            clear hno hb4 htk hjl
            go_wp2
            go_ret
            exact ⟨false, rfl, ⟨fun h => by simp at h, fun h => absurd h HN.out⟩, HBS4.out _ HB4.out⟩
  · have hk : ks = [] := List.eq_nil_of_length_eq_zero (by omega)
    subst hk
    exact cover_nil ca ccap c da dcap d lv L fv w hL hI

end Go.Proofs.YtjnddclkdofgdaaDoor
