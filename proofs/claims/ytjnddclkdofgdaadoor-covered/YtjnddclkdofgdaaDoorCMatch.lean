/- The program: a literal is made another. -/
import Derived.Test.YtjnddclkdofgdaaDoorCEnd
import Derived.Deep.RegionHeld3
namespace Go.Proofs.YtjnddclkdofgdaaDoor
open Go.RowKit Go.Shelf
set_option maxRecDepth 100000

theorem NodesIn.sub {w : World} {b o : Nat} {l : List Nd} (h : NodesIn w (some ⟨b, o, none⟩) l) (j n : Nat) : NodesIn w (some ⟨b, o + j * 2, none⟩) ((l.drop j).take n) := by
  have hlen : ((l.drop j).take n).length ≤ l.length - j := by simp; omega
  refine ⟨by have := h.few; omega, fun k hk => ?_, fun k hk => ?_⟩
  · have hk' : j + k < l.length := by omega
    have := h.short (j + k) hk'
    simpa using this
  · have hk' : j + k < l.length := by omega
    obtain ⟨b', o', e, h1, h2⟩ := h.cell (j + k) hk'
    obtain ⟨rfl, rfl⟩ : b = b' ∧ o = o' := by simpa using e
    refine ⟨b, o + j * 2, rfl, ?_, ?_⟩
    · rw [show o + j * 2 + k * 2 = o + (j + k) * 2 by omega]; simpa using h1
    · rw [show o + j * 2 + k * 2 + 1 = o + (j + k) * 2 + 1 by omega]; simpa using h2
theorem NodesB.sub {w : World} {B b o : Nat} {l : List Nd} (h : NodesB w B (some ⟨b, o, none⟩) l) (j n : Nat) : NodesB w B (some ⟨b, o + j * 2, none⟩) ((l.drop j).take n) :=
  ⟨h.nodes.sub j n, fun p hp => by simp at hp; subst hp; exact h.low ⟨b, o, none⟩ rfl⟩
theorem stays_new {w : World} {B : Nat} (cs : Array Value) (T : TypeId) (h1 : T ≠ 112) (h2 : T ≠ 3) : Stays (w.alloc (.cells cs T)) B w.heap.size :=
  Or.inr fun cs' T' fr hx => by
    rw [heap_alloc_new] at hx
    simp at hx
    rw [← hx.2.1]
    exact ⟨h1, h2⟩

/-- What stays while a variable is bound. -/
theorem bind_after {P : Program} {f B g k1 k2 : Nat} {dv v1 v2 : Value} {r : Value} {L L' : Bd'} {args : Array Value} {w : World} (_ : MIn w B g dv L) (hs1 : Stays w B k1) (hs2 : Stays w B k2) (h1 : w.cell? ⟨k1, 1, none⟩ = some v1) (h2 : w.cell? ⟨k2, 1, none⟩ = some v2)
    (h : ∀ wx, (∃ n, wx = w.drewN n) → Calls P f args wx fun e w' => e = .returned r ∧ MIn w' B g dv L' ∧ Fr B wx w') :
    ∀ wx, (∃ n, wx = w.drewN n) → Calls P f args wx fun e w' => e = .returned r ∧ MIn w' B g dv L' ∧ Fr B w w' ∧ w'.cell? ⟨k1, 1, none⟩ = some v1 ∧ w'.cell? ⟨k2, 1, none⟩ = some v2 := by
  intro wx hx
  refine (h wx hx).mono ?_
  rintro e w' ⟨rfl, hm, hf⟩
  have hf' : Fr B w w' := ((Fr.refl _ _).drawn hx).trans hf
  exact ⟨rfl, hm, hf', hf'.cell h1 hs1, hf'.cell h2 hs2⟩

set_option maxHeartbeats 2000000 in
theorem mMatch_any (B g : Nat) (dv : Value) (L : Bd') (w : World) (xb yb : Bool) (aa ba : Option Addr) (ac bc : Nat) (a b : List Nd) (hM : MIn w B g dv L) (hA : NodesB w B aa a) (hB : NodesB w B ba b) (hbc : b.length ≤ bc) (ta : termGo a 1 = true) (tb : termGo b 1 = true) (a60 : a.length ≤ 60) (b60 : b.length ≤ 60) :
    Calls Tryd.prog 106 #[.pointer (some ⟨g, 0, none⟩), .agg #[.bool xb, .slice aa a.length ac], .agg #[.bool yb, .slice ba b.length bc]] w fun e w' => ∃ (r : Bool) (L' : Bd'), e = .returned (.bool r) ∧ MIn w' B g dv L' ∧ Fr B w w' ∧ (∃ M, L' = L ++ M) ∧ (r = true → matchL (xb, a) (yb, b) L = some L') ∧ (r = false → matchL (xb, a) (yb, b) L = none) := by
  have hb0 : Below w.heap.size w ((w.alloc (.cells #[.bool xb, .slice aa a.length ac] 30)).alloc (.cells #[.bool yb, .slice ba b.length bc] 30)) := ((Below.refl _ _).alloc (Nat.le_refl _) _).alloc (by simp) _
  have hM1 := hM.below hb0
  have hA1 := hA.fr (Fr.of_below hb0)
  have hB1 := hB.fr (Fr.of_below hb0)
  have hS : Stays ((w.alloc (.cells #[.bool xb, .slice aa a.length ac] 30)).alloc (.cells #[.bool yb, .slice ba b.length bc] 30)) B (w.heap.size + 1) := by
    have := stays_new (w := w.alloc (.cells #[.bool xb, .slice aa a.length ac] 30)) (B := B) #[.bool yb, .slice ba b.length bc] 30 (by decide) (by decide)
    simpa using this
  have hbx : ((w.alloc (.cells #[.bool xb, .slice aa a.length ac] 30)).alloc (.cells #[.bool yb, .slice ba b.length bc] 30)).cell? ⟨w.heap.size + 1, 1, none⟩ = some (.slice ba b.length bc) := by simp
  have HF0 : Hid (Fr B w ((w.alloc (.cells #[.bool xb, .slice aa a.length ac] 30)).alloc (.cells #[.bool yb, .slice ba b.length bc] 30))) := hide (Fr.of_below hb0)
  have HM1 := hide hM1
  have HA1 := hide hA1
  have HB1 := hide hB1
  have HS := hide hS
  have HBX := hide hbx
  clear hM hA hB hb0 hM1 hA1 hB1 hS hbx
  by_cases hxy : xb = yb
  · subst hxy
    have HML : Hid (matchL (xb, a) (xb, b) L = matchGo a b L) := hide (by simp [matchL])
    go_enter Tryd.func106, Tryd.ntmps106
    go_wp2
    generalize hW : ((w.alloc (.cells #[.bool xb, .slice aa a.length ac] 30)).alloc (.cells #[.bool xb, .slice ba b.length bc] 30)) = W at *
    have HW := hide hW
    clear hW
    go_loopw [7, 19] (fun t i wr => ∃ (k j q : Nat) (L1 : Bd'), k ≤ a.length ∧ j ≤ b.length ∧ i = .int .i64 k ∧ t = .int .i64 j ∧ MIn wr B g dv L1 ∧ Fr B W wr ∧ (∃ M, L1 = L ++ M) ∧ termGo (a.drop k) q = true ∧ termGo (b.drop j) q = true ∧ matchGo a b L = matchGo (a.drop k) (b.drop j) L1)
      (fun _ i _ => a.length - (intOf i).toNat)
    case atStart => exact ⟨0, 0, 1, L, Nat.zero_le _, Nat.zero_le _, rfl, rfl, HM1.out, Fr.refl _ _, ⟨[], by simp⟩, ta, tb, rfl⟩
    case round =>
      obtain ⟨k, j, q, L1, hk, hj, rfl, rfl, hM, hF, hL1, hta, htb, hmg⟩ := hrel
      by_cases hlt : k < a.length
      · obtain ⟨q, rfl⟩ : ∃ q', q = q' + 1 := by
          cases q with
          | zero => rw [termGo_zero a k hlt] at hta; simp at hta
          | succ q => exact ⟨q, rfl⟩
        have hjl : j < b.length := term_left htb
        have hAr := HA1.out.fr hF
        have hBr := HB1.out.fr hF
        obtain ⟨b1, o1, rfl, e1, f1⟩ := hAr.nodes.cell k hlt
        obtain ⟨b2, o2, rfl, e2, f2⟩ := hBr.nodes.cell j hjl
        have hox : wr.cell? ⟨w.heap.size + 1, 1, none⟩ = some (.slice (some ⟨b2, o2, none⟩) b.length bc) := hF.cell HBX.out HS.out
        have hkn := fun t => match_at_known a b k j L1 t hlt
        have hnw := match_at_new a b k j L1 hlt
        have hnm := match_at_name a b k j L1 hlt hjl
        have hta' := hta
        rw [termGo_step a k q hlt, Bool.and_eq_true] at hta'
        obtain ⟨hok, hta'⟩ := hta'
        have htb1 : termGo (b.drop j) (1 + q) = true := by rw [← htb]; congr 1; omega
        have hsp := term_split (b.drop j) 1 q htb1
        have htb2 := htb
        rw [termGo_step b j q hjl, Bool.and_eq_true] at htb2
        generalize hnd : a[k] = nd at *
        obtain ⟨s, x⟩ := nd
        simp only at e1 f1 hkn hnw
        have HMG := hide hmg
        have HKN := hide hkn
        have HNW := hide hnw
        have HNM := hide hnm
        have HTA := hide hta'
        have HTB := hide htb2
        have HSP := hide hsp
        have HOK := hide hok
        have HL1 := hide hL1
        have HM := hide hM
        have HF := hide hF
        have HBr := hide hBr
        have HTB1 := hide htb1
        have hws := hF.size
        have hws2 : w.heap.size + 2 ≤ wr.heap.size := by rw [← HW.out] at hws; simpa using hws
        clear hta hta' htb htb1 htb2 hsp hmg hkn hnw hnm hok hL1 hM hF hBr hAr hnd
        have CV := hide (fun wx => isVariable_any s x wx)
        have hbn : Below wr.heap.size wr (wr.alloc (.cells #[.string s, .int .i64 x] 27)) := (Below.refl _ _).alloc (Nat.le_refl _) _
        have HBN := hide hbn
        clear hbn
        by_cases hv : s.toList.isEmpty = true
        · rw [hv] at CV
          have hx := nodeOk_var HOK.out hv
          obtain ⟨hx0, hx1⟩ := hx
          simp only at hx0 hx1
          have HWT : Hid (wants (s, x) = 0) := hide (wants_var hv)
          have HVB : Hid (varB (s, x) = true) := hide hv
          clear hv
          obtain ⟨je, hje⟩ : ∃ je, je = j + endGo (b.drop j) 1 := ⟨_, rfl⟩
          have hel := endGo_le (b.drop j) 1
          have hep := endGo_pos (b.drop j) 0 (by intro h; have := congrArg List.length h; simp at this; omega)
          simp at hel hep
          have hj1 : j < je := by omega
          have hj2 : je ≤ b.length := by omega
          have hlen : ((b.drop j).take (endGo (b.drop j) 1)).length = je - j := by simp; omega
          have hj3 : (j : Int) ≤ (je : Int) := by omega
          have hj4 : (je : Int) ≤ (bc : Int) := by omega
          have hj5 : ¬ bc = j := by omega
          have HLEN := hide hlen
          have HJE := hide hje
          have CE := hide (fun wx (hw : NodesIn wx (some ⟨b2, o2, none⟩) b) => by have := end_any (some ⟨b2, o2, none⟩) bc b j q wx hw b60 HTB1.out hj; rw [← hje] at this; exact this)
          clear hje hel hep hlen
          go_wp2_with (first
            | (go_at_call 47; refine (unhide CV _).mono ?_; rintro e w1 ⟨rfl, hb1⟩; obtain ⟨q1, q2, q3⟩ := box_at hb1; have HQ3 := hide q3; have HQX : Hid (Fr B _ w1) := hide (Fr.of_below hb1); have hs1 := q3.size; have hox1 := Below.at' q3 (Nat.le_refl _) hox; clear hb1 q3)
            | (go_at_call 128; refine (unhide CE _ ((HBr.out.fr (Fr.of_below HQ3.out)).nodes)).mono ?_; rintro e w2 ⟨rfl, hb2⟩; have q21 := Below.at' hb2 (Nat.le_refl _) q1; have q22 := Below.at' hb2 (Nat.le_refl _) q2; have hox2 := Below.at' hb2 (Nat.le_refl _) hox1; have HQ4 := hide (HQ3.out.trans (hb2.mono hs1)); have HQ5 := hide ((HQX.out).trans (Fr.of_below hb2)); clear hb2))
          have hst1 : Stays w2 B wr.heap.size := by
            have h0 := stays_new (w := wr) (B := B) #[.string s, .int .i64 x] 27 (by decide) (by decide)
            exact h0.fr (by simp) (HQ5.out)
          have hst2 : Stays w2 B (w.heap.size + 1) := (HS.out.fr (by rw [← HW.out]; simp) HF.out).fr (by omega) (Fr.of_below HQ4.out)
          have hM2 := HM.out.below HQ4.out
          have hN2 := (HBr.out.fr (Fr.of_below HQ4.out)).sub j (endGo (b.drop j) 1)
          have HF2 := hide (HF.out.trans (Fr.of_below HQ4.out))
          cases hl : look L1 x with
          | none =>
            have CB := hide (bind_after hM2 hst1 hst2 q22 hox2 (fun wx hm => by have := bind_new B g (bc - j) x ⟨b2, o2 + j * 2, none⟩ ((b.drop j).take (endGo (b.drop j) 1)) dv L1 wx (hM2.drawn hm) hx0 hx1 (hN2.fr ((Fr.refl _ _).drawn hm)) hl HSP.out.1 (by rw [HLEN.out]; omega); rw [HLEN.out] at this; exact this))
            have HL := hide hl
            clear hst1 hst2 hM2 hN2 hl
            go_region_held3 (fun w' => w'.cell? ⟨wr.heap.size, 1, none⟩ = some (.int .i64 x) ∧ w'.cell? ⟨w.heap.size + 1, 1, none⟩ = some (.slice (some ⟨b2, o2, none⟩) b.length bc)) (go_keep) ((go_at_call 129; refine (unhide CB _ (by first | exact ⟨0, rfl⟩ | exact ⟨_, rfl⟩ | exact draw2 _ _ _)).mono ?_; rintro e w3 ⟨rfl, hm3, hf3, hc1, hc2⟩; have HM3 := hide hm3; have HF3 := hide hf3; clear hm3 hf3))
            have HR : Hid (matchGo a b L = matchGo (a.drop (k + 1)) (b.drop je) (L1 ++ [(x, (b.drop j).take (endGo (b.drop j) 1))])) := hide (by rw [HMG.out, HNW.out HVB.out HL.out, HJE.out])
            go_wp2
            go_roundw
            case rel => exact ⟨k + 1, je, q, L1 ++ [(x, (b.drop j).take (endGo (b.drop j) 1))], by omega, hj2, by go_num, rfl, HM3.out, HF2.out.trans HF3.out, (by obtain ⟨M, hM⟩ := HL1.out; exact ⟨M ++ [(x, (b.drop j).take (endGo (b.drop j) 1))], by rw [hM]; simp⟩), (by have := HTA.out; rw [HWT.out] at this; exact this), (by have := HSP.out.2; rw [List.drop_drop, ← HJE.out] at this; exact this), HR.out⟩
            case measure => simp [intOf]; omega
          | some t =>
            have CB := hide (bind_after hM2 hst1 hst2 q22 hox2 (fun wx hm => by have := bind_known B g (bc - j) x ⟨b2, o2 + j * 2, none⟩ ((b.drop j).take (endGo (b.drop j) 1)) t dv L1 wx (hM2.drawn hm) hx0 hx1 (hN2.fr ((Fr.refl _ _).drawn hm)) hl; rw [HLEN.out] at this; exact this))
            have HL := hide hl
            clear hst1 hst2 hM2 hN2 hl
            by_cases hte : t = (b.drop j).take (endGo (b.drop j) 1)
            · rw [decide_eq_true hte] at CB
              have HR : Hid (matchGo a b L = matchGo (a.drop (k + 1)) (b.drop je) L1) := hide (by rw [HMG.out, HKN.out t HVB.out HL.out, if_pos hte, HJE.out])
              clear hte
              go_region_held3 (fun w' => w'.cell? ⟨wr.heap.size, 1, none⟩ = some (.int .i64 x) ∧ w'.cell? ⟨w.heap.size + 1, 1, none⟩ = some (.slice (some ⟨b2, o2, none⟩) b.length bc)) (go_keep) ((go_at_call 129; refine (unhide CB _ (by first | exact ⟨0, rfl⟩ | exact ⟨_, rfl⟩ | exact draw2 _ _ _)).mono ?_; rintro e w3 ⟨rfl, hm3, hf3, hc1, hc2⟩; have HM3 := hide hm3; have HF3 := hide hf3; clear hm3 hf3))
              go_wp2
              go_roundw
              case rel => exact ⟨k + 1, je, q, L1, by omega, hj2, by go_num, rfl, HM3.out, HF2.out.trans HF3.out, HL1.out, (by have := HTA.out; rw [HWT.out] at this; exact this), (by have := HSP.out.2; rw [List.drop_drop, ← HJE.out] at this; exact this), HR.out⟩
              case measure => simp [intOf]; omega
            · rw [decide_eq_false hte] at CB
              have HR : Hid (matchGo a b L = none) := hide (by rw [HMG.out, HKN.out t HVB.out HL.out, if_neg hte])
              clear hte
              go_region_held3 (fun w' => w'.cell? ⟨wr.heap.size, 1, none⟩ = some (.int .i64 x) ∧ w'.cell? ⟨w.heap.size + 1, 1, none⟩ = some (.slice (some ⟨b2, o2, none⟩) b.length bc)) (go_keep) ((go_at_call 129; refine (unhide CB _ (by first | exact ⟨0, rfl⟩ | exact ⟨_, rfl⟩ | exact draw2 _ _ _)).mono ?_; rintro e w3 ⟨rfl, hm3, hf3, hc1, hc2⟩; have HM3 := hide hm3; have HF3 := hide hf3; clear hm3 hf3))
              go_wp2
              go_ret
              exact ⟨false, L1, rfl, HM3.out, HF0.out.trans (HF2.out.trans HF3.out), HL1.out, by simp, fun _ => HML.out.trans HR.out⟩
        · have hv' : s.toList.isEmpty = false := by simpa using hv
          rw [hv'] at CV
          have HVB : Hid (varB (s, x) = false) := hide hv'
          clear hv hv'
          have g := guard27
          have hq := eqNode s b[j].1 x b[j].2
          have hnb := nodeB_eq (s, x) b[j]
          simp only at hnb
          have hj3 : (j : Int) < (b.length : Int) := by omega
          by_cases he : (s, x) = b[j]
          · rw [decide_eq_true he] at hnb
            have HR : Hid (matchGo a b L = matchGo (a.drop (k + 1)) (b.drop (j + 1)) L1) := hide (by rw [HMG.out, HNM.out HVB.out, if_pos he])
            have HE := hide he
            clear he
            go_wp2_with (first
              | (go_at_call 47; refine (unhide CV _).mono ?_; rintro e w1 ⟨rfl, hb1⟩; obtain ⟨q1, q2, q3⟩ := box_at hb1; have HQ3 := hide q3; have hox1 := Below.at' q3 (Nat.le_refl _) hox; have e21 := Below.at' q3 (Nat.le_refl _) e2; have f21 := Below.at' q3 (Nat.le_refl _) f2; clear hb1 q3))
            go_quiet (fail)
            go_wp2
            go_roundw
            case rel => exact ⟨k + 1, j + 1, q + wants (s, x), L1, by omega, by omega, by go_num, by go_num, (HM.out.below HQ3.out).drawn (by first | exact draw2 _ _ _ | exact ⟨_, rfl⟩), (HF.out.trans (Fr.of_below HQ3.out)).drawn (by first | exact draw2 _ _ _ | exact ⟨_, rfl⟩), HL1.out, HTA.out, (by have := HTB.out.2; rw [← HE.out] at this; exact this), HR.out⟩
            case measure => simp [intOf]; omega
          · rw [decide_eq_false he] at hnb
            have HR : Hid (matchGo a b L = none) := hide (by rw [HMG.out, HNM.out HVB.out, if_neg he])
            clear he
            go_wp2_with (first
              | (go_at_call 47; refine (unhide CV _).mono ?_; rintro e w1 ⟨rfl, hb1⟩; obtain ⟨q1, q2, q3⟩ := box_at hb1; have HQ3 := hide q3; have hox1 := Below.at' q3 (Nat.le_refl _) hox; have e21 := Below.at' q3 (Nat.le_refl _) e2; have f21 := Below.at' q3 (Nat.le_refl _) f2; clear hb1 q3))
            go_quiet (fail)
            go_wp2
            go_ret
            exact ⟨false, L1, rfl, (HM.out.below HQ3.out).drawn (by first | exact draw2 _ _ _ | exact ⟨_, rfl⟩), HF0.out.trans ((HF.out.trans (Fr.of_below HQ3.out)).drawn (by first | exact draw2 _ _ _ | exact ⟨_, rfl⟩)), HL1.out, by simp, fun _ => HML.out.trans HR.out⟩
      · have hke : a.drop k = [] := List.drop_eq_nil_of_le (by omega)
        rw [hke] at hta hmg
        have hq0 : q = 0 := by simpa [termGo] using hta
        subst hq0
        have hje := term_done hj htb
        have HR : Hid (matchGo a b L = some L1) := hide (by rw [hmg, match_end b j L1 hje])
        have HM := hide hM
        have HF := hide hF
        have HL1 := hide hL1
        clear hM hF hL1 hke hta hmg htb hje
        go_wp2
        go_ret
        exact ⟨true, L1, rfl, HM.out, HF0.out.trans HF.out, HL1.out, fun _ => HML.out.trans HR.out, by simp⟩
  · have hbe : (!xb == yb) = true := by cases xb <;> cases yb <;> simp_all
    have HML : Hid (matchL (xb, a) (yb, b) L = none) := hide (by simp [matchL, hxy])
    clear hxy
    go_enter Tryd.func106, Tryd.ntmps106
    go_wp2
    go_ret
    exact ⟨false, L, rfl, HM1.out, HF0.out, ⟨[], by simp⟩, by simp, fun _ => HML.out⟩

end Go.Proofs.YtjnddclkdofgdaaDoor
