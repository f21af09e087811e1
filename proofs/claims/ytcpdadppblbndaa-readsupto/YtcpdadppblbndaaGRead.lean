/- The program: Read. -/
import Derived.Test.YtcpdadppblbndaaGOrdM
import Derived.Test.YtcpdadppblbndaaPOddsM
namespace Go.Proofs.Ytcpdadppblbndaa
open Go.RowKit Go.WideMaps
set_option maxRecDepth 100000

/-- What Read answers. -/
def RdQ (s : ByteArray) (w : World) (e : Ending) (w' : World) : Prop :=
  ∃ v QV at' er, e = .returned (.tuple #[v, .int .i64 at', .int .i64 er]) ∧ RdSpec s (QV.map fun p => p.1.map Prod.fst) at' er ∧ OrdMem w.heap.size w' v QV ∧ Below w.heap.size w w'
theorem OrdMem.mono {B B' : Nat} {w : World} {v : Value} {QV : List (List (Lt × Value) × Value)} (h : OrdMem B w v QV) (hB : B' ≤ B) : OrdMem B' w v QV :=
  ⟨⟨own_mono h.mem.1 hB, fun p hp => ⟨⟨own_mono (h.mem.2 p hp).1.1 hB, fun q hq => own_mono ((h.mem.2 p hp).1.2 q hq) hB⟩, (h.mem.2 p hp).2⟩⟩, h.once, h.atoms⟩
/-- Uses at odds, and names at odds. -/
theorem okTo_bad (P : List Pl) (k : Nat) : OkTo (P.map noAt) k ↔ ∀ j hj, j < k → ¬ badPl P j hj := by
  constructor
  · intro h j hj hjk hb
    obtain ⟨h1, h2⟩ := h j (by simpa using hj) hjk
    simp only [List.getElem_map, noAt] at h1 h2
    rcases hb with hb | ⟨i, hi, hb1, hb2⟩
    · omega
    · have := h2 i hi hb1
      simp at this
      rcases hb2 with h | h
      · exact h this.1
      · exact h this.2
  · intro h i hi hik
    have hi' : i < P.length := by simpa using hi
    have hb := h i hi' hik
    simp only [badPl, not_or, not_exists] at hb
    refine ⟨by simp [noAt]; omega, fun k hk he => ?_⟩
    have hc := hb.2 k hk
    simp only [List.getElem_map, noAt] at he ⊢
    simp only [clashes, not_and, not_or, Decidable.not_not] at hc
    have := hc he
    rw [this.1, this.2]
theorem odd_named {P : List Pl} {r : Int} (h : OddR (P.map noAt) r) : (r = -1 ∧ NamedR P (-1)) ∨ ∃ k, ∃ hk : k < P.length, r = k ∧ NamedR P P[k].2.2.2 := by
  rcases h with ⟨rfl, hu⟩ | ⟨k, hk, rfl, h1, h2⟩
  · refine Or.inl ⟨rfl, Or.inl ⟨rfl, fun i hi => ?_⟩⟩
    exact (okTo_bad P P.length).1 (fun i hi _ => hu i hi) i hi hi
  · have hk' : k < P.length := by simpa using hk
    rw [okTo_bad P k] at h1
    rw [okTo_bad P (k + 1)] at h2
    refine Or.inr ⟨k, hk', rfl, Or.inr ⟨k, hk', ?_, h1, rfl⟩⟩
    refine Classical.byContradiction fun hn => h2 fun j hj hjk => ?_
    by_cases hj' : j = k
    · subst hj'; exact hn
    · exact h1 j hj (by omega)
theorem atsP_at (P : List Pl) (k : Nat) (h : k < P.length) : (atsP P)[k]? = some (.int .i64 P[k].2.2.2) := by
  unfold atsP
  rw [List.getElem?_map, List.getElem?_eq_getElem h]
  rfl
theorem usesC_flat (CV : List Pc) : usesC CV = (CV.map pcOf).flatMap fun p => usesL p.2 := by
  unfold usesC
  induction CV with
  | nil => rfl
  | cons x r ih => rw [List.flatMap_cons, ih, List.map_cons, List.flatMap_cons]; rfl
/-- What is known of the text behind the parser. -/
theorem text_known {s : ByteArray} (hs : s.size ≤ 3000) {st : PSt} {cs : List (Nat × List Lt)} (h : pTextG (toksAt s 0) ((toksAt s 0).length + 1) ⟨0, [], []⟩ [] = .ok (st, cs)) (h0 : 0 < (toksAt s 0).length) (hl : (toksAt s 0).length ≤ 3002) {CV : List Pc} (hcv : CV.map pcOf = cs) :
    usesC CV = st.places.map noAt ∧ (∀ p ∈ CV, PcSmall p) ∧ (∀ p ∈ CV, ∀ q ∈ p.1.2, VarsOk q.1.2) ∧ CV.length ≤ 3002 ∧ st.places.length ≤ 3002 ∧ (∀ p ∈ st.places, 0 ≤ p.2.2.2) ∧ ∀ u ∈ usesC CV, u.1.size ≤ 1000000 := by
  obtain ⟨Q, C, r1, r2, r3, r4, r5, r6, r7, r8⟩ := pTextG_put (tl_toks s (by omega)) (tlx_toks s (by omega)) (toksAt_ne s 0) _ _ _ _ _ h h0
  simp only [List.nil_append] at r1 r2
  simp only [List.length_nil, Nat.zero_add, Nat.add_zero] at r6 r7
  change st.i < (toksAt s 0).length at r5
  have hc : ∀ p ∈ CV, ClOk (toksAt s 0) (p.1.2.map Prod.fst) := fun p hp => r4 (pcOf p) (by rw [← r2, ← hcv]; exact List.mem_map.2 ⟨p, hp, rfl⟩)
  have hlen : CV.length = C.length := by rw [← r2, ← hcv]; simp
  have hu : usesC CV = st.places.map noAt := by rw [usesC_flat, hcv, r2, r1, r3]
  refine ⟨hu, fun p hp => ⟨fun q hq => (hc p hp).short q.1 (List.mem_map.2 ⟨q, hq, rfl⟩), by have := (hc p hp).count; omega, by have := (hc p hp).len; simp at this; omega⟩, fun p hp q hq n hn hv => ?_, by omega, by omega, by rw [r1]; exact r8, ?_⟩
  · have := (hc p hp).vars q.1 (List.mem_map.2 ⟨q, hq, rfl⟩) n hn hv
    omega
  · intro u hu'
    unfold usesC at hu'
    obtain ⟨p, hp, hup⟩ := List.mem_flatMap.1 hu'
    rw [usesL_flat] at hup
    obtain ⟨x, hx, hux⟩ := List.mem_flatMap.1 hup
    have hsx := (hc p hp).short x hx
    have key : ∀ (l : List Nd) k, (∀ n ∈ l, n.1.size ≤ 1000000) → ∀ u ∈ usesFrom k l, u.1.size ≤ 1000000 := by
      intro l
      induction l with
      | nil => intro k _ u hu; simp [usesFrom] at hu
      | cons n r ih =>
        intro k hl u hu
        rw [usesFrom] at hu
        rcases List.mem_append.1 hu with hu | hu
        · unfold useOf at hu
          split at hu
          · simp at hu
          · simp at hu
            subst hu
            exact hl n (List.mem_cons_self ..)
        · exact ih _ (fun y hy => hl y (List.mem_cons_of_mem _ hy)) u hu
    exact key x.2 0 hsx u hux

set_option maxHeartbeats 4000000 in
theorem sRead_any (s : ByteArray) (w : World) (hs0 : s.size ≤ 140737488355328) : Calls Try.prog 13 #[.string s] w fun e w' => RdQ s w e w' := by
  by_cases h3 : 3000 < s.size
  · have hi : (3000 : Int) < (s.size : Int) := by omega
    go_enter Try.func13, Try.ntmps13
    go_wp2
    go_returns
    exact ⟨_, [], 0, 1, rfl, Or.inl ⟨h3, rfl, rfl, rfl⟩, OrdMem.nil _ _, Below.refl _ _⟩
  · have hi : ¬ (3000 : Int) < (s.size : Int) := by omega
    have hs : s.size ≤ 3000 := by omega
    have hl : (toksAt s 0).length ≤ 3002 := by
      have := toksGo_length s (s.size + 1) 0
      show (tokT (toksGo s (s.size + 1) 0)).length ≤ 3002
      unfold tokT
      split <;> simp <;> omega
    have CN := hide (newParser_any s w hs)
    have hx := (tlx_toks s (by omega)).small
    have ht := tl_toks s (by omega)
    have hxx := tlx_toks s (by omega)
    have CT := hide (fun w1 pb g (h : TxIn w.heap.size w1 pb s (toksAt s 0) ⟨0, [], []⟩ g (.slice none 0 0) (.slice none 0 0) []) (hB : w.heap.size ≤ w1.heap.size) => text_any (fun i => toksAt_kd s 0 i) hx hs (by omega) (fun st st' c hq hlt => by have := pClauseG_ok ht hxx hq hlt; omega) h hB (Nat.zero_le _) (Nat.zero_le _))
    have HALL : Hid (pAll s = pTextG (toksAt s 0) ((toksAt s 0).length + 1) ⟨0, [], []⟩ []) := hide rfl
    clear hx ht hxx
    cases hq : pTextG (toksAt s 0) ((toksAt s 0).length + 1) ⟨0, [], []⟩ [] with
    | error p =>
      rw [List.map_nil, hq] at CT
      rw [hq] at HALL
      clear hq
      go_enter Try.func13, Try.ntmps13
      go_wp2_with (first
        | (go_at_call 23; refine (CT.out _ _ _ HT1.out HB1.out.size).mono ?_; rintro e w2 ⟨hb2, i2, vC2, vP2, vM2, rfl, hp2, hpos⟩; obtain ⟨left2, hbx2, _⟩ := hp2.box; have d2 := hbx2.c2; rw [hpos] at d2; have HB2 := hide (HB1.out.trans hb2); clear hb2 hp2 hpos hbx2)
        | (go_at_call 22; refine (unhide CN).mono ?_; rintro e w1 ⟨pb, g, rfl, hb1, ht1⟩; have HB1 := hide hb1; have HT1 := hide ht1; clear hb1 ht1)
        | go_in)
      go_quiet (fail)
      go_wp2
      go_returns
      refine ⟨_, [], p, 2, rfl, Or.inr ⟨hs, ?_⟩, OrdMem.nil _ _, HB2.out.trans ((below_drawn ⟨_, rfl⟩).mono HB2.out.size)⟩
      rw [HALL.out]
      exact ⟨rfl, rfl, rfl⟩
    | ok y =>
      obtain ⟨st, cs⟩ := y
      rw [List.map_nil, hq] at CT
      rw [hq] at HALL
      have HK := hide (fun (h0 : 0 < (toksAt s 0).length) (CV : List Pc) (hcv : CV.map pcOf = cs) => text_known hs hq h0 hl hcv)
      clear hq
      go_enter Try.func13, Try.ntmps13
      go_upto_region 6 with (first
        | (go_at_call 23; refine (CT.out _ _ _ HT1.out HB1.out.size).mono ?_; rintro e w2 ⟨hb2, vC2, vP2, CV, rfl, ht2, hcv⟩; have HB2 := hide (HB1.out.trans hb2); have HT2 := hide ht2; have HCV := hide hcv; clear hb2 ht2 hcv)
        | (go_at_call 22; refine (unhide CN).mono ?_; rintro e w1 ⟨pb, g, rfl, hb1, ht1⟩; have HB1 := hide hb1; have HT1 := hide ht1; clear hb1 ht1)
        | go_in)
      clear CN CT
      obtain ⟨vM2, hpp⟩ := HT2.out.pp
      obtain ⟨left2, hbx, hBp⟩ := hpp.box
      have d4 := hbx.c4
      have d5 := hbx.c5
      obtain ⟨k1, k2, k3, k4, k5, k6, k7⟩ := HK.out (Nat.lt_of_le_of_lt (Nat.zero_le _) hpp.lt) CV HCV.out
      have CU := hide (pUses_any HT2.out.cs d4 k2 (by omega) (by rw [k1]; simp; omega))
      have CS := hide (fun wx (hx : Below w2.heap.size w2 wx) => sOrdered_any (HT2.out.cs.below hx) k2 k3 (by omega))
      obtain ⟨va, vac, hva⟩ := own_shape HT2.out.cs.row
      obtain ⟨pa, pac, hpa⟩ := own_shape HT2.out.places
      have HPL := hide HT2.out.places
      subst hva
      subst hpa
      have HUN : Hid (usesC CV = st.places.map noAt) := hide k1
      have HPS := hide k6
      have hUf : (usesC CV).length ≤ 1000000 := by rw [k1]; simp; omega
      have hUs : ∀ k (h : k < (usesC CV).length), (usesC CV)[k].1.size ≤ 140737488355328 := fun k h => Nat.le_trans (k7 _ (List.getElem_mem _)) (by omega)
      have HUS := hide hUs
      have hz2 := HB2.out.size
      clear k1 k2 k3 k6 k7 hUs HK hbx hpp HT1 HB1
      go_upto_region 7 with (first
        | (go_at_call 24; refine (atOdds_first ua uc (usesC CV) w3 HUI.out).mono ?_; rintro e w4 ⟨r, rfl, hr, hb4⟩; have HR := hide hr; have HB4 := hide (HB3.out.trans (hb4.mono HB3.out.size)); clear hr hb4)
        | (go_at_call 25; refine (unhide CU).mono ?_; rintro e w3 ⟨v3, rfl, ho3, hb3⟩; obtain ⟨ua, uc, rfl, hui⟩ := own_uses ho3 hUf HUS.out; have HUI := hide hui; have HB3 := hide hb3; clear ho3 hb3 hui)
        | go_in)
      have hz4 := HB4.out.size
      have g4 := Below.at' HB4.out (Nat.le_refl _) d4
      have g5 := Below.at' HB4.out (Nat.le_refl _) d5
      have hr := HR.out
      rw [HUN.out] at hr
      clear HR CU d4 d5
      rcases odd_named hr with ⟨rfl, hnm⟩ | ⟨k, hk, rfl, hnm⟩
      · have HNM := hide hnm
        clear hr hnm
        go_wp2_with (first
          | (go_at_call 26; refine (CS.out _ HB4.out).mono ?_; rintro e w5 ⟨v5, QV, at5, er5, rfl, hm5, ho5, hb5⟩; have HM5 := hide hm5; have HO5 := hide ho5; have HB5 := hide hb5; clear hm5 ho5 hb5)
          | go_in)
        go_returns
        refine ⟨_, QV, at5, er5, rfl, Or.inr ⟨hs, ?_⟩, HO5.out.mono (by omega), HB2.out.trans ((HB4.out.mono hz2).trans (HB5.out.mono (by omega)))⟩
        rw [HALL.out]
        refine ⟨-1, HNM.out, Or.inr ⟨by omega, ?_⟩⟩
        rw [← HCV.out]
        exact HM5.out
      · have HNM := hide hnm
        have h0 := HPS.out _ (List.getElem_mem hk)
        obtain ⟨gp, gc, hgp⟩ := own_at HPL.out (by omega)
        simp at hgp
        obtain ⟨rfl, rfl⟩ := hgp
        have c5 : w2.cell? ⟨gp, k, none⟩ = some (.int .i64 st.places[k].2.2.2) := by rw [HPL.out.cellAt _ (by omega), atsP_at _ k hk]
        have q5 := Below.at' HB4.out (Nat.le_refl _) c5
        clear hr hnm CS c5
        generalize st.places[k].2.2.2 = pk at *
        go_wp2
        go_quiet (fail)
        go_wp2
        go_returns
        refine ⟨_, [], pk, 3, rfl, Or.inr ⟨hs, ?_⟩, OrdMem.nil _ _, (HB2.out.trans (HB4.out.mono hz2)).trans ((below_drawn ⟨_, rfl⟩).mono (by omega))⟩
        rw [HALL.out]
        exact ⟨pk, HNM.out, Or.inl ⟨h0, rfl, rfl, rfl⟩⟩

end Go.Proofs.Ytcpdadppblbndaa
