/- The document's own answer: a term as it is written. -/
import Derived.Test.YtjnddclkdofgdaaDoorCaps
import Derived.Test.YtjnddclkdofgdaaDoorText
namespace Go.Proofs.YtjnddclkdofgdaaDoor
open Go.RowKit
set_option maxRecDepth 100000


set_option maxHeartbeats 2000000 in
theorem rTerm_any (f : Nat) : ∀ (a : Option Addr) (cp : Nat) (l0 : List Nd) (p q : Nat) (w : World), NodesIn w a l0 → l0.length ≤ 60 → (l0.drop p).length ≤ f → termGo (l0.drop p) (q + 1) = true →
    Calls Tryd.prog 35 #[.slice a l0.length cp, .int .i64 p] w fun e w' => ∃ p' : Nat, e = .returned (.tuple #[.string ⟨(termW f (l0.drop p)).1.toArray⟩, .int .i64 p']) ∧ p' ≤ l0.length ∧ l0.drop p' = (termW f (l0.drop p)).2 ∧ Below w.heap.size w w' := by
  induction f with
  | zero => intro a cp l0 p q w h h60 hf ht; have : l0.drop p = [] := List.eq_nil_of_length_eq_zero (by omega); rw [this] at ht; simp [termGo] at ht
  | succ f ih =>
    intro a cp l0 p q w h h60 hf ht
    have hp : p < l0.length := by
      rcases Nat.lt_or_ge p l0.length with h1 | h1
      · exact h1
      · rw [List.drop_eq_nil_of_le h1] at ht; simp [termGo] at ht
    have hd := List.drop_eq_getElem_cons hp
    obtain ⟨b, o, rfl, e1, f1⟩ := h.cell p hp
    rw [hd] at ht hf ⊢
    generalize l0[p] = n at *
    obtain ⟨s, x⟩ := n
    simp only at e1 f1
    have hq : ¬ q + 1 = 0 := by omega
    simp only [termGo, if_neg hq] at ht
    have hok : nodeOk (s, x) = true := by
      cases h : nodeOk (s, x)
      · rw [h] at ht; simp at ht
      · rfl
    rw [if_pos hok] at ht
    by_cases hv : s.toList.isEmpty = true
    · have hvb : varB (s, x) = true := hv
      have hx : 0 ≤ x ∧ x < 60 := by simpa [nodeOk, hvb] using hok
      obtain ⟨n, rfl⟩ := Int.eq_ofNat_of_zero_le hx.1
      have hn : n < 60 := by omega
      have hT : termW (f + 1) ((s, (n : Int)) :: l0.drop (p + 1)) = (88 :: decB n, l0.drop (p + 1)) := by simp [termW, hvb]
      rw [hT]
      have HC := hide (fun wx => decimal_any n wx (by omega))
      have hdl := decB_len n
      clear hT ht hok hx hvb hd hf ih h hq
      go_enter Tryd.func35, Tryd.ntmps35
      go_wp2_with (go_at_call 53; refine (unhide HC _).mono ?_; rintro e w' ⟨rfl, hb⟩; have HB := hide hb; clear hb)
      go_ret2
      exact ⟨p + 1, ret_two rfl (by go_num), by omega, rfl, ((Below.refl _ _).alloc (Nat.le_refl _) _).trans (HB.out.mono (by simp))⟩
    · have hvb : varB (s, x) = false := by simpa [varB] using hv
      have hv' : s.toList.isEmpty = false := by simpa using hv
      have hx : isNameL s = true ∧ 0 ≤ x ∧ x ≤ 5 := by simpa [nodeOk, hvb] using hok
      obtain ⟨hx1, hx2, hx3⟩ := hx
      obtain ⟨m, rfl⟩ := Int.eq_ofNat_of_zero_le hx2
      have hw : wants (s, (m : Int)) = m := by simp [wants, hvb]
      rw [hw, show q + 1 - 1 + m = m + q by omega] at ht
      have hsz := isNameL_size s hx1
      have hT : termW (f + 1) ((s, (m : Int)) :: l0.drop (p + 1)) = (nameText s.data.toList ++ ((partsF (termW f) m (l0.drop (p + 1))).1 ++ if 0 < m then [41] else []), (partsF (termW f) m (l0.drop (p + 1))).2) := by simp [termW, hvb]
      rw [hT]
      have hrl : (l0.drop (p + 1)).length ≤ f := by simp only [List.length_cons] at hf; omega
      have hps := fun i hi => parts_step f (term_step f) i m q (l0.drop (p + 1)) hi hrl ht
      have HPS := hide hps
      have HN := hide (fun wx => name_any s wx hsz.1 (by omega))
      have HI := hide ih
      have HH := hide h
      have hnl := nameText_len s.data.toList
      rw [← size_data] at hnl
      have hm5 : m ≤ 5 := by omega
      clear hT ht hok hw hvb hd hf ih h hq hps hv hx1 hx2 hx3
      go_enter Tryd.func35, Tryd.ntmps35
      go_wp2_with (go_at_call 54; refine (unhide HN _).mono ?_; rintro e w' ⟨rfl, rfl⟩)
      go_loopw [1, 7, 8] (fun at' t i wr => ∃ (j u : Nat) (y : ByteArray), j ≤ m ∧ i = .int .i64 j ∧ at' = .int .i64 u ∧ t = .string y ∧ u ≤ l0.length ∧ l0.drop u = (partsF (termW f) j (l0.drop (p + 1))).2 ∧ y.data.toList = nameText s.data.toList ++ (partsF (termW f) j (l0.drop (p + 1))).1 ∧
          y.size ≤ 20000 ∧ Below (w.heap.size + 1) (w.alloc (.cells #[.string s, .int .i64 m] 27)) wr) (fun _ _ i _ => m - (intOf i).toNat)
      case atStart => exact ⟨0, p + 1, _, Nat.zero_le _, rfl, by go_num, rfl, by omega, rfl, by simp [partsF], by show (nameText s.data.toList).length ≤ 20000; omega, Below.refl _ _⟩
      case round =>
        obtain ⟨j, u, y, hj, rfl, rfl, rfl, hu, hdu, hy, hys, hb⟩ := hrel
        have hbx : wr.cell? ⟨w.heap.size, 1, none⟩ = some (.int .i64 m) := Below.at' hb (by simp) (by simp)
        have hbw : Below w.heap.size w wr := ((Below.refl _ _).alloc (Nat.le_refl _) _).trans (hb.mono (by omega))
        have hbs := hbw.size
        by_cases hjm : j < m
        · obtain ⟨k, hk1, hk2, hk3, hk4⟩ := HPS.out j (by omega)
          rw [← hdu] at hk2
          rw [show m - j + q = (m - j - 1 + q) + 1 by omega, ← hk2] at hk3
          have hul : (l0.drop u).length ≤ f := by rw [hk2]; simp only [List.length_drop] at hrl ⊢; omega
          obtain ⟨k', hk1', hk2', hk3', hk4', hk5'⟩ := term_step f _ _ hul hk3
          have cT := HI.out (some ⟨b, o, none⟩) cp l0 u (m - j - 1 + q) wr (HH.out.below hbw (Nat.le_refl _)) h60 hul hk3
          have hstep : partsF (termW f) (j + 1) (l0.drop (p + 1)) = ((partsF (termW f) j (l0.drop (p + 1))).1 ++ ((if j = 0 then [40] else [44, 32]) ++ (termW f (l0.drop u)).1), (termW f (l0.drop u)).2) := by simp only [partsF, ← hdu]
          generalize termW f (l0.drop u) = TW at *
          obtain ⟨tt, tr⟩ := TW
          simp only at cT hstep hk3' hk5'
          have hkl : k' ≤ 60 := by simp only [List.length_drop] at hk2'; omega
          have htl : tt.length ≤ 12000 := by omega
          have hyl : y.size ≤ 200 + 200 * k := by rw [size_data, hy, List.length_append]; omega
          have hkk : k + k' ≤ 60 := by rw [hk2] at hk2'; simp only [List.length_drop] at hk2' hk1; omega
          have HY := hide hy
          have HST := hide hstep
          have HC := hide cT
          have HB := hide hb
          clear hy hstep cT hb hdu hk2 hk3 hk3' hk4' hul hbw hk2'
          by_cases hj0 : j = 0
          · have hj0' : ((j : Int) == 0) = true := by rw [beq_iff_eq]; omega
            go_wp2_with (go_at_call 35; refine (unhide HC).mono ?_; rintro e w2 ⟨p', rfl, hp', hdp, hb2⟩; have HD := hide hdp; have HB2 := hide hb2; clear hdp hb2)
            go_roundw
            case rel => exact ⟨j + 1, p', _, by omega, by go_num, rfl, rfl, hp', by rw [HST.out]; exact HD.out, by rw [HST.out, if_pos hj0, data_add, data_add, HY.out]; simp, by rw [size_data, data_add, data_add, List.length_append, List.length_append, ← size_data]; simp; omega, HB.out.trans (HB2.out.mono (by have := HB.out.size; simp at this; omega))⟩
            case measure => simp [intOf]; omega
          · have hj0' : ((j : Int) == 0) = false := by rw [beq_eq_false_iff_ne]; omega
            go_wp2_with (go_at_call 35; refine (unhide HC).mono ?_; rintro e w2 ⟨p', rfl, hp', hdp, hb2⟩; have HD := hide hdp; have HB2 := hide hb2; clear hdp hb2)
            go_roundw
            case rel => exact ⟨j + 1, p', _, by omega, by go_num, rfl, rfl, hp', by rw [HST.out]; exact HD.out, by rw [HST.out, if_neg hj0, data_add, data_add, HY.out]; simp, by rw [size_data, data_add, data_add, List.length_append, List.length_append, ← size_data]; simp; omega, HB.out.trans (HB2.out.mono (by have := HB.out.size; simp at this; omega))⟩
            case measure => simp [intOf]; omega
        · have hjm' : j = m := by omega
          have HY := hide hy
          have HD := hide hdu
          have HB := hide hbw
          clear hy hdu hb hbw
          subst hjm'
          by_cases hm0 : 0 < j
          · have HT : Hid (y ++ ⟨#[41]⟩ = ⟨(nameText s.data.toList ++ ((partsF (termW f) j (l0.drop (p + 1))).1 ++ [41])).toArray⟩) := str_ext (by rw [data_add, HY.out]; simp)
            go_wp2
            go_ret2
            exact ⟨u, ret_two (congrArg Value.string HT.out) rfl, hu, HD.out, HB.out⟩
          · have HT : Hid (y = ⟨(nameText s.data.toList ++ (partsF (termW f) j (l0.drop (p + 1))).1).toArray⟩) := str_ext HY.out
            go_wp2
            go_ret2
            exact ⟨u, ret_two (congrArg Value.string HT.out) rfl, hu, HD.out, HB.out⟩

end Go.Proofs.YtjnddclkdofgdaaDoor
