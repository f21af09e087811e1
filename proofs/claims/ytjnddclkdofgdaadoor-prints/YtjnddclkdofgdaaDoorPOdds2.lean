/- The program: AtOdds. -/
import Derived.Test.YtjnddclkdofgdaaDoorPOdds
namespace Go.Proofs.YtjnddclkdofgdaaDoor
open Go.RowKit Go.Shelf Go.WideMaps
set_option maxRecDepth 100000

set_option maxHeartbeats 2000000 in
theorem atOdds_any (a : Option Addr) (cp : Nat) (U : List Us) (w : World) (h : UsesIn w a U) :
    Calls Tryd.prog 27 #[.slice a U.length cp] w fun e w' => ∃ r : Int, e = .returned (.int .i64 r) ∧ ((0 ≤ r → ¬ UsesOk U) ∧ (r < 0 → UsesOk U)) ∧ Below w.heap.size w w' := by
  have hf := h.few
  have HH := hide h
  have hmm := @run_makeMap Tryd.prog
  have gU := guardUse
  clear h
  go_enter Tryd.func27, Tryd.ntmps27
  go_wp2
  go_loopw [11] (fun i wr => ∃ (k : Nat) (D : DataW Unit), k ≤ U.length ∧ i = .int .i64 k ∧ wr.ownsMap Tryd.prog 9 useElem w.heap.size k D ∧ MapIs D U k ∧ OkTo U k ∧ Below w.heap.size w wr) (fun i _ => U.length - (intOf i).toNat)
  case atStart => exact ⟨0, .map [], Nat.zero_le _, rfl, World.ownsMap_made _ _ _ _, mapIs_start U, fun i _ hi => by omega, (Below.refl _ _).alloc (Nat.le_refl _) _⟩
  case round =>
    obtain ⟨k, D, hk, rfl, hown, hmi, hok, hb⟩ := hrel
    have hbs := hb.size
    have HM := hide hmi
    have HK := hide hok
    have HB := hide hb
    by_cases hlt : k < U.length
    · obtain ⟨b, rfl, e1, e2, e3⟩ := HH.out.cell k hlt
      have q1 := Below.at' hb (Nat.le_refl _) e1
      have q2 := Below.at' hb (Nat.le_refl _) e2
      have q3 := Below.at' hb (Nat.le_refl _) e3
      have hsh := HH.out.short k hlt
      have HBAD : Hid (5 < U[k].2.2 → ¬ UsesOk U) := fun h5 hu => by have := (hu k hlt).1; omega
      have HODD : Hid (∀ j (hj : j < U.length), j < k → U[j].1 = U[k].1 → U[j] ≠ U[k] → ¬ UsesOk U) := fun j hj hjk he hne hu => by
        have h2 := (hu k hlt).2 j hjk he
        exact hne (Prod.ext he h2)
      have HNEXT : Hid (U[k].2.2 ≤ 5 → (∀ j (hj : j < U.length), j < k → U[j].1 = U[k].1 → U[j] = U[k]) → OkTo U (k + 1) ∧ MapIs (D.put (.string U[k].1.data.toList) (useData U[k])) U (k + 1)) := fun h5 hs => by
        refine ⟨fun i hi hik => ?_, mapIs_put HM.out hlt hs⟩
        by_cases hik' : i = k
        · subst hik'
          exact ⟨h5, fun j hj he => by rw [hs j (by omega) hj he]⟩
        · exact HK.out i hi (by omega)
      have hkey : keyOf Tryd.prog 9 (.string U[k].1) = some (.string U[k].1.data.toList) := keyOf_string_mk Tryd.underlying9 (by unfold maxLen; omega)
      clear e1 e2 e3 hb hmi hok
      by_cases h5 : 5 < U[k].2.2
      · have HR := hide (HBAD.out h5)
        clear HBAD HODD HNEXT hkey hown
        generalize U[k] = u at *
        obtain ⟨s, ub, m⟩ := u
        simp only at q1 q2 q3 h5
        go_wp2
        go_ret
        exact ⟨_, rfl, ⟨fun _ => HR.out, fun hr => by omega⟩, HB.out.alloc hbs _⟩
      · have h5' : U[k].2.2 ≤ 5 := by omega
        have hX := (hown.alloc (.cells #[.string U[k].1, .bool U[k].2.1, .int .i64 U[k].2.2] 94)).look_ok (Maps.string_keyed Tryd.underlying9) Tryd.underlying92 (Tryd.zeroValue94 _) (zd := useData (⟨#[]⟩, false, 0)) (zp := []) rfl hkey
        obtain ⟨v, ps, hrun, hv⟩ := hX
        cases hhas : Maps.has D (.string U[k].1.data.toList)
        · rw [atKey_none HM.out.isMap hhas] at hv
          have hvv := useElem_inv hv
          subst hvv
          rw [hhas] at hrun
          have HN := hide (HNEXT.out h5' (fun j hj hjk he => by
            have := (HM.out.old j hj hjk).1
            rw [he, hhas] at this
            simp at this))
          have HKEY := hide hkey
          clear HBAD HODD HNEXT hv hhas hkey
          generalize hu : U[k] = u at *
          obtain ⟨s, ub, m⟩ := u
          simp only at q1 q2 q3 h5 h5' hsh hrun HN HKEY
          clear hu
          go_wp2_with (first
            | (at_mapUpdate; refine wpList_mapUpdate_own _ rfl _ _ _ 92 rfl 9 94 (Maps.string_keyed Tryd.underlying9) Tryd.underlying92 useElem w.heap.size k D rfl ((hown.alloc _).alloc _) (by unfold maxLen; omega) _ _ (.string s.data.toList) rfl rfl (unhide HKEY) (useData (s, ub, m)) [] rfl ?_)
            | go_in)
          intro w1 hown1 hgrow1
          have HO1 := hide hown1
          have HB1 := hide (((HB.out.alloc hbs (.cells #[.string s, .bool ub, .int .i64 m] 94)).alloc (by simp; omega) _).grown hgrow1 (by simp; omega) (fun x hx => by simp at hx; omega))
          clear hown1 hgrow1 hown hrun
          go_wp2
          go_roundw
          case rel => exact ⟨k + 1, _, by omega, by go_num, HO1.out, HN.out.2, HN.out.1, HB1.out⟩
          case measure => simp [intOf]; omega
        · obtain ⟨j, hj, hjk, hje⟩ : ∃ j, ∃ hj : j < U.length, j < k ∧ U[j].1 = U[k].1 := Classical.byContradiction fun hno => by
            have := HM.out.new U[k].1 (fun j hj hjk he => hno ⟨j, hj, hjk, he⟩)
            rw [hhas] at this
            simp at this
          have hat := (HM.out.old j hj hjk).2 (useData (⟨#[]⟩, false, 0))
          rw [hje] at hat
          rw [hat] at hv
          have hvv := useElem_inv hv
          subst hvv
          rw [hhas] at hrun
          have qE := fun wx => eqUse U[j] U[k] wx
          have HKEY := hide hkey
          by_cases hsame : U[j] = U[k]
          · have hB : useB U[j] U[k] = true := by simp [useB, hsame]
            have HN := hide (HNEXT.out h5' (fun i hi hik he => by
              by_cases hij : i = j
              · subst hij; exact hsame
              · have hi2 : U[i].1 = U[j].1 := he.trans hje.symm
                have : U[i] = U[j] := by
                  rcases Nat.lt_or_ge i j with hlt' | hge
                  · exact Prod.ext hi2 ((HK.out j hj hjk).2 i hlt' hi2)
                  · exact (Prod.ext hi2.symm ((HK.out i hi hik).2 j (by omega) hi2.symm)).symm
                rw [this, hsame]))
            rw [hsame] at hrun qE hB
            clear HBAD HODD HNEXT hv hhas hkey hat hsame hje
            generalize hu : U[k] = u at *
            obtain ⟨s, ub, m⟩ := u
            simp only at q1 q2 q3 h5 h5' hsh hrun HN HKEY qE
            clear hu
            go_wp2_with (first
              | (at_mapUpdate; refine wpList_mapUpdate_own _ rfl _ _ _ 92 rfl 9 94 (Maps.string_keyed Tryd.underlying9) Tryd.underlying92 useElem w.heap.size k D rfl ((hown.alloc _).alloc _) (by unfold maxLen; omega) _ _ (.string s.data.toList) rfl rfl (unhide HKEY) (useData (s, ub, m)) [] rfl ?_)
              | go_in)
            intro w1 hown1 hgrow1
            have HO1 := hide hown1
            have HB1 := hide (((HB.out.alloc hbs (.cells #[.string s, .bool ub, .int .i64 m] 94)).alloc (by simp; omega) _).grown hgrow1 (by simp; omega) (fun x hx => by simp at hx; omega))
            clear hown1 hgrow1 hown hrun
            go_wp2
            go_roundw
            case rel => exact ⟨k + 1, _, by omega, by go_num, HO1.out, HN.out.2, HN.out.1, HB1.out⟩
            case measure => simp [intOf]; omega
          · have hB : useB U[j] U[k] = false := by simp [useB, hsame]
            have HR := hide (HODD.out j hj hjk hje hsame)
            clear HBAD HODD HNEXT hv hhas hkey hat hje hsame HKEY
            generalize U[j] = y at *
            generalize hu : U[k] = u at *
            obtain ⟨s, ub, m⟩ := u
            obtain ⟨s', ub', m'⟩ := y
            simp only at q1 q2 q3 h5 h5' hsh hrun qE
            clear hu
            go_wp2
            go_ret
            exact ⟨_, rfl, ⟨fun _ => HR.out, fun hr => by omega⟩, (HB.out.alloc hbs _).alloc (by simp; omega) _⟩
    · have hk' : k = U.length := by omega
      subst hk'
      have HR := hide (okTo_all HK.out)
      clear hmi hok hown hb
      go_wp2
      go_ret
      exact ⟨_, rfl, ⟨fun hr => by omega, fun _ => HR.out⟩, HB.out⟩

end Go.Proofs.YtjnddclkdofgdaaDoor
