/- The program: a term is written. -/
import Derived.Test.YtjnddclkdofgdaaDoorCaps
import Derived.Test.YtjnddclkdofgdaaDoorPName4
namespace Go.Proofs.YtjnddclkdofgdaaDoor
open Go.RowKit Go.Shelf
set_option maxRecDepth 100000

theorem digits_eq : ∀ n, n < 60 → Lib.decDigits n = decB n := by decide +kernel
theorem itoa_any (n : Nat) (h : n < 60) (w : World) : Calls Tryd.prog 49 #[.int .i64 n] w fun e w' => e = .returned (.string ⟨(decB n).toArray⟩) ∧ w' = w := by
  have c1 : Calls Tryd.prog 49 #[.int .i64 n] w _ := Any.strconv_Itoa_small lays171 n (by omega) w
  rw [digits_eq n h] at c1
  exact c1
/-- What is left behind the first node. -/
theorem NodesIn.tail {w : World} {b o : Nat} {n : Nd} {r : List Nd} {cp : Nat} (h : NodesIn w (some ⟨b, o, none⟩) (n :: r)) (hcap : (n :: r).length ≤ cp) : NodesIn w (if cp = 1 then some ⟨b, o, none⟩ else some ⟨b, o + 2, none⟩) r := by
  refine ⟨by have := h.few; simp at this; omega, fun k hk => h.short (k + 1) (by simpa using hk), fun k hk => ?_⟩
  have hc1 : cp ≠ 1 := by simp at hcap; omega
  obtain ⟨b', o', he, h1, h2⟩ := h.cell (k + 1) (by simpa using hk)
  simp at he
  obtain ⟨rfl, rfl⟩ := he
  refine ⟨b, o + 2, by rw [if_neg hc1], ?_, ?_⟩
  · have e1 : o + 2 + k * 2 = o + (k + 1) * 2 := by omega
    rw [e1]; simpa using h1
  · have e1 : o + 2 + k * 2 + 1 = o + (k + 1) * 2 + 1 := by omega
    rw [e1]; simpa using h2

/-- A node's box stays while the builder is written. -/
theorem ok_box {b g : Nat} {w w' : World} {s : Value} {x : Value} (h : Ok b w w') (hw : w.heap[g]? = some (.cells #[s, x] 27)) (hb : b ≠ g) : w'.heap[g]? = some (.cells #[s, x] 27) :=
  h g _ hw (fun e => hb (by simpa using e.symm)) (fun c fz e => by simp at e)
theorem box_heap {w w1 : World} {X : Obj} (hb : Below (w.alloc X).heap.size (w.alloc X) w1) : w1.heap[w.heap.size]? = some X := by
  rw [hb.block w.heap.size (by simp)]
  show (w.heap.push X)[w.heap.size]? = _
  simp
/-- What stands ahead of a part. -/
def sepB (j : Nat) : ByteArray := if j = 0 then ⟨#[40]⟩ else ⟨#[44, 32]⟩
theorem sepB_data (j : Nat) : (sepB j).data.toList = if j = 0 then [40] else [44, 32] := by unfold sepB; split <;> rfl
theorem sepB_len (j : Nat) : (sepB j).size ≤ 2 := by unfold sepB; split <;> decide
theorem sep_len (j : Nat) : (if j = 0 then ([40] : List UInt8) else [44, 32]).length ≤ 2 := by split <;> simp
theorem undrew {B : Nat} {w w1 : World} (h : Below B w.drew w1) : Below B w w1 := ⟨h.os, h.tape, h.output, h.size, h.block⟩

set_option maxHeartbeats 800000 in
theorem writeTerm_any (f : Nat) : ∀ (B b : Nat) (l : List UInt8) (a : Option Addr) (cp : Nat) (nodes : List Nd) (q : Nat) (w0 w : World), Bd B b l w → NodesIn w0 a nodes → Below B w0 w → w0.heap.size ≤ B → B ≤ w.heap.size → nodes.length ≤ cp → nodes.length ≤ f → nodes.length ≤ 60 → termGo nodes (q + 1) = true → l.length + 200 * nodes.length ≤ 99000 →
    Calls Tryd.prog 31 #[.pointer (some ⟨b, 0, none⟩), .slice a nodes.length cp] w fun e w' => ∃ a' cp', e = .returned (.slice a' (termW f nodes).2.length cp') ∧ (termW f nodes).2.length ≤ cp' ∧ NodesIn w0 a' (termW f nodes).2 ∧ Bd B b (l ++ (termW f nodes).1) w' ∧ Below B w w' ∧ Ok b w w' := by
  induction f with
  | zero => intro B b l a cp nodes q w0 w _ _ _ _ _ _ hf _ ht; have : nodes = [] := List.eq_nil_of_length_eq_zero (by omega); rw [this] at ht; simp [termGo] at ht
  | succ f ih =>
    intro B b l a cp nodes q w0 w hd hn hb hB hBw hcap hf h60 ht hlen
    cases nodes with
    | nil => simp [termGo] at ht
    | cons n r =>
      obtain ⟨b0, o0, rfl, e0, f0⟩ := hn.cell 0 (by simp)
      simp only [List.getElem_cons_zero, Nat.zero_mul, Nat.add_zero] at e0 f0
      have e1 := Below.at' hb hB e0
      have f1 := Below.at' hb hB f0
      have htail := hn.tail hcap
      obtain ⟨s, x⟩ := n
      simp only at e1 f1
      have hq : ¬ q + 1 = 0 := by omega
      simp only [termGo, if_neg hq] at ht
      have hok : nodeOk (s, x) = true := by
        cases h : nodeOk (s, x)
        · rw [h] at ht; simp at ht
        · rfl
      rw [if_pos hok] at ht
      have CV := hide (fun wx => isVariable_any s x wx)
      have HD := hide hd
      simp only [List.length_cons] at hcap hf h60 hlen
      have hL1 : (1 : Int) ≤ ((r.length + 1 : Nat) : Int) := by omega
      have hL2 : (1 : Int) ≤ (r.length : Int) + 1 := by omega
      have hne1 := World.new_ne w _ e1
      have hne2 := World.new_ne w _ f1
      obtain ⟨ra, hra, htl⟩ : ∃ ra, (if cp = 1 then some (⟨b0, o0, none⟩ : Addr) else some ⟨b0, o0 + 2, none⟩) = ra ∧ NodesIn w0 ra r := ⟨_, rfl, htail⟩
      have HTL := hide htl
      have HT0 := hide ht
      have HOK := hide hok
      have HIH := hide ih
      have HBB := hide hb
      clear e0 f0 hd hn htail htl ht hok ih hb
      go_enter Tryd.func31, Tryd.ntmps31
      go_wp2_with fail
      go_region_held3 (fun w' => w'.cell? ⟨b0, o0, none⟩ = some (.string s) ∧ w'.cell? ⟨b0, o0 + 1, none⟩ = some (.int .i64 x)) (go_keep) (fail)
      have hbx : Below w.heap.size w (w.alloc (.cells #[.string s, .int .i64 x] 27)) := (Below.refl _ _).alloc (Nat.le_refl _) _
      have HBX := hide hbx
      clear hbx e1 f1 hne1 hne2 hL1 hL2 hra
      by_cases hv : s.toList.isEmpty = true
      · have hvb : varB (s, x) = true := hv
        have hx : 0 ≤ x ∧ x < 60 := by simpa [nodeOk, hvb] using HOK.out
        obtain ⟨m, rfl⟩ := Int.eq_ofNat_of_zero_le hx.1
        have hm : m < 60 := by omega
        have HTT : Hid (termW (f + 1) ((s, (m : Int)) :: r) = (88 :: decB m, r)) := hide (by simp [termW, hvb])
        rw [hv] at CV
        have CI := hide (fun wx => itoa_any m hm wx)
        have hdl := decB_len m
        clear hx hvb hv
        go_wp2_with (first
          | (go_at_call 47; refine (unhide CV _).mono ?_; rintro e w1 ⟨rfl, hb1⟩; obtain ⟨q1, q2, q3⟩ := box_at (undrew hb1); have CW := hide (wString B b l (⟨#[88]⟩ ++ ⟨(decB m).toArray⟩) w1 (HD.out.below q3) (by rw [size_data, data_add]; simp; omega) (Nat.le_trans hBw q3.size)); have HB1 := hide (q3.mono hBw); have HO1 := hide (Ok.of_below (b := b) q3); clear hb1 q3)
          | (go_at_call 49; refine (unhide CI _).mono ?_; rintro e w2 ⟨rfl, rfl⟩)
          | (go_at_call 29; refine (unhide CW).mono ?_; rintro e w3 ⟨rfl, hd3, hb3, ho3⟩; have HD3 := hide hd3; have HB3 := hide (HB1.out.trans hb3); have HO3 := hide (HO1.out.trans ho3); clear hd3 hb3 ho3))
        go_ret
        refine ⟨ra, cp - 1, ?_, ?_, ?_, ?_, HB3.out, HO3.out⟩
        · rw [HTT.out]; rfl
        · rw [HTT.out]; simp only; omega
        · rw [HTT.out]; exact HTL.out
        · rw [HTT.out]; exact HD3.out
      · have hvb : varB (s, x) = false := by simpa [varB] using hv
        have hv' : s.toList.isEmpty = false := by simpa using hv
        have hx : isNameL s = true ∧ 0 ≤ x ∧ x ≤ 5 := by simpa [nodeOk, hvb] using HOK.out
        obtain ⟨hx1, hx2, hx3⟩ := hx
        obtain ⟨m, rfl⟩ := Int.eq_ofNat_of_zero_le hx2
        have hw : wants (s, (m : Int)) = m := by simp [wants, hvb]
        have ht' : termGo r (m + q) = true := by
          have := HT0.out
          rw [hw, show q + 1 - 1 + m = m + q by omega] at this
          exact this
        have hsz := isNameL_size s hx1
        have HTT : Hid (termW (f + 1) ((s, (m : Int)) :: r) = (nameText s.data.toList ++ ((partsF (termW f) m r).1 ++ if 0 < m then [41] else []), (partsF (termW f) m r).2)) := hide (by simp [termW, hvb])
        have HPS := hide (fun i hi => parts_step f (term_step f) i m q r hi (by omega) ht')
        have hnl := nameText_len s.data.toList
        rw [← size_data] at hnl
        have hm5 : m ≤ 5 := by omega
        have HX1 := hide hx1
        rw [hv'] at CV
        clear hw ht' hvb hx1 hx2 hx3 hv hv' HT0 HOK
        have hbB : b ≠ w.heap.size := by have := Bd.lt HD.out; omega
        by_cases hm0 : m = 0
        · have hmz : ((m : Int) == 0) = true := by rw [beq_iff_eq]; omega
          have HF : Hid ((partsF (termW f) m r) = ([], r) ∧ (if 0 < m then [41] else ([] : List UInt8)) = []) := hide (by subst hm0; exact ⟨rfl, rfl⟩)
          clear hm0
          go_wp2_with (first
            | (go_at_call 47; refine (unhide CV _).mono ?_; rintro e w1 ⟨rfl, hb1⟩; obtain ⟨q1, q2, q3⟩ := box_at (undrew hb1); have qh := box_heap (undrew hb1); have CW := hide (writeName_any B b l s w1 (HD.out.below q3) HX1.out (by omega) (Nat.le_trans hBw q3.size)); have HB1 := hide (q3.mono hBw); have HO1 := hide (Ok.of_below (b := b) q3); clear hb1 q3)
            | (go_at_call 50; refine (unhide CW).mono ?_; rintro e w3 ⟨rfl, hd3, hb3, ho3⟩; obtain ⟨r1, r2⟩ := box_cell (ok_box ho3 qh hbB); have HD3 := hide hd3; have HB3 := hide (HB1.out.trans hb3); have HO3 := hide (HO1.out.trans ho3); clear hd3 hb3 ho3))
          go_ret
          refine ⟨ra, cp - 1, ?_, ?_, ?_, ?_, HB3.out, HO3.out⟩
          · rw [HTT.out, HF.out.1]; rfl
          · rw [HTT.out, HF.out.1]; simp only; omega
          · rw [HTT.out, HF.out.1]; exact HTL.out
          · rw [HTT.out, HF.out.1, HF.out.2]; simpa using HD3.out
        · have hmz : ((m : Int) == 0) = false := by rw [beq_eq_false_iff_ne]; omega
          have HF : Hid ((if 0 < m then [41] else ([] : List UInt8)) = [41]) := hide (if_pos (by omega))
          go_wp2_with (first
            | (go_at_call 47; refine (unhide CV _).mono ?_; rintro e w1 ⟨rfl, hb1⟩; obtain ⟨q1, q2, q3⟩ := box_at (undrew hb1); have qh := box_heap (undrew hb1); have CW := hide (writeName_any B b l s w1 (HD.out.below q3) HX1.out (by omega) (Nat.le_trans hBw q3.size)); have HB1 := hide (q3.mono hBw); have HO1 := hide (Ok.of_below (b := b) q3); clear hb1 q3)
            | (go_at_call 50; refine (unhide CW).mono ?_; rintro e w3 ⟨rfl, hd3, hb3, ho3⟩; obtain ⟨r1, r2⟩ := box_cell (ok_box ho3 qh hbB); have HD3 := hide hd3; have HB3 := hide (HB1.out.trans hb3); have HO3 := hide (HO1.out.trans ho3); clear hd3 hb3 ho3))
          go_loopw [6, 7, 32] (fun rs bf i wr => ∃ (j : Nat) (ra' : Option Addr) (cp' : Nat), j ≤ m ∧ i = .int .i64 j ∧ bf = .string (sepB j) ∧ rs = .slice ra' (partsF (termW f) j r).2.length cp' ∧ (partsF (termW f) j r).2.length ≤ cp' ∧ NodesIn w0 ra' (partsF (termW f) j r).2 ∧
              Bd B b (l ++ nameText s.data.toList ++ (partsF (termW f) j r).1) wr ∧ Below B w wr ∧ Ok b w wr) (fun _ _ i _ => m - (intOf i).toNat)
          case atStart => exact ⟨0, ra, cp - 1, by omega, rfl, rfl, rfl, by simp only [partsF]; omega, HTL.out, by simpa [partsF] using HD3.out, HB3.out, HO3.out⟩
          case round =>
            obtain ⟨j, ra', cp', hj, rfl, rfl, rfl, hcp', hnn, hdd, hbb, hoo⟩ := hrel
            have hBr : B ≤ wr.heap.size := Nat.le_trans hBw hbb.size
            obtain ⟨k, hk1, hk2, hk3, hk4⟩ := HPS.out j hj
            by_cases hjm : j < m
            · have hsep := sepB_len j
              have hgo : termGo (partsF (termW f) j r).2 ((m - j - 1 + q) + 1) = true := by rw [hk2, show m - j - 1 + q + 1 = m - j + q by omega]; exact hk3
              have hrl : (partsF (termW f) j r).2.length + k ≤ r.length := by rw [hk2, List.length_drop]; omega
              have CS := hide (wString B b _ (sepB j) wr hdd (by simp only [List.length_append]; omega) hBr)
              have HST : Hid (partsF (termW f) (j + 1) r = ((partsF (termW f) j r).1 ++ ((if j = 0 then [40] else [44, 32]) ++ (termW f (partsF (termW f) j r).2).1), (termW f (partsF (termW f) j r).2).2)) := rfl
              have HSP := hide (sepB_data j)
              have HBR := hide hbb
              have HOR := hide hoo
              have HNN := hide hnn
              generalize partsF (termW f) j r = PJ at *
              obtain ⟨pt, pr⟩ := PJ
              simp only at hcp' hgo hrl hk4 CS HST HNN
              have HGO := hide hgo
              clear hdd hbb hoo hnn hk2 hk3 hgo
              go_wp2_with (first
                | (go_at_call 29; refine (unhide CS).mono ?_; rintro e w5 ⟨rfl, hd5, hb5, ho5⟩; have CT := hide (HIH.out B b _ ra' cp' pr (m - j - 1 + q) w0 w5 hd5 HNN.out (HBB.out.trans (HBR.out.trans hb5)) hB (Nat.le_trans hBr hb5.size) hcp' (by omega) (by omega) HGO.out (by rw [HSP.out]; simp only [List.length_append]; have := sep_len j; omega)); have HB5 := hide (HBR.out.trans hb5); have HO5 := hide (HOR.out.trans ho5); clear hd5 hb5 ho5)
                | (go_at_call 31; refine (unhide CT).mono ?_; rintro e w6 ⟨ra6, cp6, rfl, hc6, hn6, hd6, hb6, ho6⟩; have HC6 := hide hc6; have HN6 := hide hn6; have HD6 := hide hd6; have HB6 := hide (HB5.out.trans hb6); have HO6 := hide (HO5.out.trans ho6); clear hc6 hn6 hd6 hb6 ho6))
              go_roundw
              case rel => exact ⟨j + 1, ra6, cp6, by omega, by go_num, rfl, by rw [HST.out], by rw [HST.out]; exact HC6.out, by rw [HST.out]; exact HN6.out, by rw [HST.out]; have := HD6.out; rw [HSP.out] at this; simpa using this, HB6.out, HO6.out⟩
              case measure => simp [intOf]; omega
            · have hj' : j = m := by omega
              subst hj'
              have hrl : (partsF (termW f) j r).2.length ≤ 60 := by rw [hk2, List.length_drop]; omega
              have CZ := hide (wByte B b _ 41 wr hdd (by simp only [List.length_append]; omega) hBr)
              have HBR := hide hbb
              have HOR := hide hoo
              have HNN := hide hnn
              clear hdd hbb hoo hnn hk2 hk3
              go_wp2_with (first
                | (go_at_call 30; refine (unhide CZ).mono ?_; rintro e w5 ⟨rfl, hd5, hb5, ho5⟩; have HD5 := hide hd5; have HB5 := hide (HBR.out.trans hb5); have HO5 := hide (HOR.out.trans ho5); clear hd5 hb5 ho5))
              go_ret
              refine ⟨ra', cp', ?_, ?_, ?_, ?_, HB5.out, HO5.out⟩
              · rw [HTT.out]; rfl
              · rw [HTT.out]; exact hcp'
              · rw [HTT.out]; exact HNN.out
              · rw [HTT.out, HF.out]; simpa using HD5.out

end Go.Proofs.YtjnddclkdofgdaaDoor
