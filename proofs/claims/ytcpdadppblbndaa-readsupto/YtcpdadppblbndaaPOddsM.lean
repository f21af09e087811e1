/- The program: the first use that cannot be. The program: AtOdds. -/
import Derived.Test.YtcpdadppblbndaaPUse0M
import Derived.Test.YtcpdadppblbndaaGTokM
import Derived.Maps.OwnSet
import Derived.Maps.Keyed
import Derived.StringKeys
namespace Go.Proofs.Ytcpdadppblbndaa
open Go.RowKit Go.Shelf Go.WideMaps
set_option maxRecDepth 100000

/-- How a use in the map reads. -/
def useElem (v : Value) : Option (DataW Unit × List MemPlace) :=
  match v with
  | .agg cs => match cs.toList with
    | [.string s, .bool b, .int .i64 n] => some (.agg [.lit (.string s.data.toList), .lit (.bool b), .lit (.int .i64 n)], [])
    | _ => none
  | _ => none
def useData (u : Us) : DataW Unit := .agg [.lit (.string u.1.data.toList), .lit (.bool u.2.1), .lit (.int .i64 u.2.2)]
theorem useElem_mk (u : Us) : useElem (.agg #[.string u.1, .bool u.2.1, .int .i64 u.2.2]) = some (useData u, []) := rfl
theorem useElem_inv {v : Value} {u : Us} {ps : List MemPlace} (h : useElem v = some (useData u, ps)) : v = .agg #[.string u.1, .bool u.2.1, .int .i64 u.2.2] := by
  unfold useElem at h
  split at h
  · next cs =>
   split at h
   · next s b n hcs =>
    have hcs' : cs = #[.string s, .bool b, .int .i64 n] := by
      have := congrArg List.toArray hcs
      simpa using this
    subst hcs'
    simp only [useData, Option.some.injEq, Prod.mk.injEq, DataW.agg.injEq, List.cons.injEq, DataW.lit.injEq, Lit.string.injEq, Lit.bool.injEq, Lit.int.injEq, and_true, true_and] at h
    obtain ⟨⟨h1, h2, h3⟩, _⟩ := h
    have : s = u.1 := by
      obtain ⟨⟨x⟩⟩ := s
      obtain ⟨⟨⟨y⟩⟩, z⟩ := u
      simp at h1
      rw [h1]
    rw [this, h2, h3]
   · simp at h
  · simp at h
/-- What the map holds behind the first uses. -/
structure MapIs (D : DataW Unit) (U : List Us) (k : Nat) : Prop where
  isMap : Maps.IsMap D
  old : ∀ j (h : j < U.length), j < k → Maps.has D (.string U[j].1.data.toList) = true ∧ ∀ z, D.atKey (.string U[j].1.data.toList) z = useData U[j]
  new : ∀ s : ByteArray, (∀ j (h : j < U.length), j < k → U[j].1 ≠ s) → Maps.has D (.string s.data.toList) = false
theorem data_inj {s t : ByteArray} (h : s.data.toList = t.data.toList) : s = t := by
  obtain ⟨⟨x⟩⟩ := s
  obtain ⟨⟨y⟩⟩ := t
  simp at h
  rw [h]
theorem mapIs_start (U : List Us) : MapIs (.map []) U 0 := ⟨Maps.isMap_empty, fun j _ h => by omega, fun s _ => rfl⟩
theorem mapIs_put {D : DataW Unit} {U : List Us} {k : Nat} (h : MapIs D U k) (hk : k < U.length) (hsame : ∀ j (hj : j < U.length), j < k → U[j].1 = U[k].1 → U[j] = U[k]) :
    MapIs (D.put (.string U[k].1.data.toList) (useData U[k])) U (k + 1) := by
  have hkey : WideAt.IsKeyLit (.string U[k].1.data.toList) := trivial
  refine ⟨h.isMap.put _ _, fun j hj hjk => ?_, fun s hs => ?_⟩
  · by_cases he : U[j].1 = U[k].1
    · have hu : U[j] = U[k] := by
        by_cases hjk' : j = k
        · subst hjk'; rfl
        · exact hsame j hj (by omega) he
      rw [hu]
      exact ⟨Maps.has_put_same h.isMap hkey _, fun z => Maps.atKey_put_same h.isMap hkey _ _⟩
    · have hne : (Lit.string U[j].1.data.toList) ≠ .string U[k].1.data.toList := fun e => he (data_inj (by simpa using e))
      have hjk' : j < k := by
        rcases Nat.lt_or_ge j k with h1 | h1
        · exact h1
        · have : j = k := by omega
          subst this
          exact absurd rfl he
      have ho := h.old j hj hjk'
      exact ⟨by rw [Maps.has_put_other hne]; exact ho.1, fun z => by rw [Maps.atKey_put_other hne]; exact ho.2 z⟩
  · have hne : (Lit.string s.data.toList) ≠ .string U[k].1.data.toList := fun e => hs k hk (by omega) (data_inj (by simpa using e)).symm
    rw [Maps.has_put_other hne]
    exact h.new s fun j hj hjk => hs j hj (by omega)
/-- No use among the first is at odds. -/
def OkTo (U : List Us) (k : Nat) : Prop := ∀ i (h : i < U.length), i < k → U[i].2.2 ≤ 5 ∧ ∀ j (hj : j < i), (U[j]'(by omega)).1 = U[i].1 → (U[j]'(by omega)).2 = U[i].2
theorem okTo_all {U : List Us} (h : OkTo U U.length) : UsesOk U := fun i hi => h i hi hi

theorem stoodUse : Try.prog.stoodInHeld 97 = false := by kernel_rfl
theorem guardUse : Try.prog.eqGuardType Try.prog.depth 97 = false := by kernel_rfl
theorem structUse : Try.prog.underlying 97 = some (.struct (Try.prog.fieldsOf 97)) := by kernel_rfl
def useB (x y : Us) : Bool := decide (x = y)
theorem eqUse (x y : Us) (w : World) : (Op.equalIn 10000 97 (.agg #[.string x.1, .bool x.2.1, .int .i64 x.2.2]) (.agg #[.string y.1, .bool y.2.1, .int .i64 y.2.2])).run Try.prog w = .ok (useB x y) w := by
  rw [show (10000 : Nat) = 9999 + 1 from rfl, run_equalIn_agg w 9999 97 _ _ structUse stoodUse]
  simp only [Program.fieldsOf, Try.underlying97]
  go_simp
  obtain ⟨s, b, n⟩ := x
  obtain ⟨t, d, m⟩ := y
  simp only [useB, toList_inj]
  by_cases h1 : s = t <;> by_cases h2 : b = d <;> by_cases h3 : n = m <;> simp [h1, h2, h3]

end Go.Proofs.Ytcpdadppblbndaa

namespace Go.Proofs.Ytcpdadppblbndaa
open Go.RowKit Go.Shelf Go.WideMaps
set_option maxRecDepth 100000

/-- The first use at odds: its number; -1: none. -/
def OddR (U : List Us) (r : Int) : Prop := (r = -1 ∧ UsesOk U) ∨ ∃ k : Nat, k < U.length ∧ r = k ∧ OkTo U k ∧ ¬ OkTo U (k + 1)
theorem OddR.of {U : List Us} {k : Nat} (h : OkTo U k) (hk : k < U.length) (hn : ¬ OkTo U (k + 1)) : OddR U k := Or.inr ⟨k, hk, rfl, h, hn⟩
set_option maxHeartbeats 2000000 in
theorem atOdds_first (a : Option Addr) (cp : Nat) (U : List Us) (w : World) (h : UsesIn w a U) :
    Calls Try.prog 24 #[.slice a U.length cp] w fun e w' => ∃ r : Int, e = .returned (.int .i64 r) ∧ OddR U r ∧ Below w.heap.size w w' := by
  have hf := h.few
  have HH := hide h
  have hmm := @run_makeMap Try.prog
  have gU := guardUse
  clear h
  go_enter Try.func24, Try.ntmps24
  go_wp2
  go_loopw [11] (fun i wr => ∃ (k : Nat) (D : DataW Unit), k ≤ U.length ∧ i = .int .i64 k ∧ wr.ownsMap Try.prog 9 useElem w.heap.size k D ∧ MapIs D U k ∧ OkTo U k ∧ Below w.heap.size w wr) (fun i _ => U.length - (intOf i).toNat)
  case atStart => exact ⟨0, .map [], Nat.zero_le _, rfl, World.ownsMap_made _ _ _ _, mapIs_start U, fun i _ hi => by omega, (Below.refl _ _).alloc (Nat.le_refl _) _⟩
  case round =>
    obtain ⟨k, D, hk, rfl, hown, hmi, hok, hb⟩ := hrel
    have hbs := hb.size
    have HM := hide hmi
    have HK := hide hok
    have HB := hide hb
    by_cases hlt : k < U.length
    · obtain ⟨b, rfl, e1, e2, e3⟩ := HH.out.cell k hlt
      have q1 := Below.at' hb (Nat.le_refl _) e1
      have q2 := Below.at' hb (Nat.le_refl _) e2
      have q3 := Below.at' hb (Nat.le_refl _) e3
      have hsh := HH.out.short k hlt
      have HBAD : Hid (5 < U[k].2.2 → OddR U k) := fun h5 => OddR.of HK.out hlt fun hu => by have := (hu k hlt (by omega)).1; omega
      have HODD : Hid (∀ j (hj : j < U.length), j < k → U[j].1 = U[k].1 → U[j] ≠ U[k] → OddR U k) := fun j hj hjk he hne => OddR.of HK.out hlt fun hu => by
        have h2 := (hu k hlt (by omega)).2 j hjk he
        exact hne (Prod.ext he h2)
      have HNEXT : Hid (U[k].2.2 ≤ 5 → (∀ j (hj : j < U.length), j < k → U[j].1 = U[k].1 → U[j] = U[k]) → OkTo U (k + 1) ∧ MapIs (D.put (.string U[k].1.data.toList) (useData U[k])) U (k + 1)) := fun h5 hs => by
        refine ⟨fun i hi hik => ?_, mapIs_put HM.out hlt hs⟩
        by_cases hik' : i = k
        · subst hik'
          exact ⟨h5, fun j hj he => by rw [hs j (by omega) hj he]⟩
        · exact HK.out i hi (by omega)
      have hkey : keyOf Try.prog 9 (.string U[k].1) = some (.string U[k].1.data.toList) := keyOf_string_mk Try.underlying9 (by unfold maxLen; omega)
      clear e1 e2 e3 hb hmi hok
      by_cases h5 : 5 < U[k].2.2
      · have HR := hide (HBAD.out h5)
        clear HBAD HODD HNEXT hkey hown
        generalize U[k] = u at *
        obtain ⟨s, ub, m⟩ := u
        simp only at q1 q2 q3 h5
        go_wp2
        go_ret
        exact ⟨_, rfl, HR.out, HB.out.alloc hbs _⟩
      · have h5' : U[k].2.2 ≤ 5 := by omega
        have hX := (hown.alloc (.cells #[.string U[k].1, .bool U[k].2.1, .int .i64 U[k].2.2] 97)).look_ok (Maps.string_keyed Try.underlying9) Try.underlying95 (Try.zeroValue97 _) (zd := useData (⟨#[]⟩, false, 0)) (zp := []) rfl hkey
        obtain ⟨v, ps, hrun, hv⟩ := hX
        cases hhas : Maps.has D (.string U[k].1.data.toList)
        · rw [atKey_none HM.out.isMap hhas] at hv
          have hvv := useElem_inv hv
          subst hvv
          rw [hhas] at hrun
          have HN := hide (HNEXT.out h5' (fun j hj hjk he => by
            have := (HM.out.old j hj hjk).1
            rw [he, hhas] at this
            simp at this))
          have HKEY := hide hkey
          clear HBAD HODD HNEXT hv hhas hkey
          generalize hu : U[k] = u at *
          obtain ⟨s, ub, m⟩ := u
          simp only at q1 q2 q3 h5 h5' hsh hrun HN HKEY
          clear hu
          go_wp2_with (first
            | (at_mapUpdate; refine wpList_mapUpdate_own _ rfl _ _ _ 95 rfl 9 97 (Maps.string_keyed Try.underlying9) Try.underlying95 useElem w.heap.size k D rfl ((hown.alloc _).alloc _) (by unfold maxLen; omega) _ _ (.string s.data.toList) rfl rfl (unhide HKEY) (useData (s, ub, m)) [] rfl ?_)
            | go_in)
          intro w1 hown1 hgrow1
          have HO1 := hide hown1
          have HB1 := hide (((HB.out.alloc hbs (.cells #[.string s, .bool ub, .int .i64 m] 97)).alloc (by simp; omega) _).grown hgrow1 (by simp; omega) (fun x hx => by simp at hx; omega))
          clear hown1 hgrow1 hown hrun
          go_wp2
          go_roundw
          case rel => exact ⟨k + 1, _, by omega, by go_num, HO1.out, HN.out.2, HN.out.1, HB1.out⟩
          case measure => simp [intOf]; omega
        · obtain ⟨j, hj, hjk, hje⟩ : ∃ j, ∃ hj : j < U.length, j < k ∧ U[j].1 = U[k].1 := Classical.byContradiction fun hno => by
            have := HM.out.new U[k].1 (fun j hj hjk he => hno ⟨j, hj, hjk, he⟩)
            rw [hhas] at this
            simp at this
          have hat := (HM.out.old j hj hjk).2 (useData (⟨#[]⟩, false, 0))
          rw [hje] at hat
          rw [hat] at hv
          have hvv := useElem_inv hv
          subst hvv
          rw [hhas] at hrun
          have qE := fun wx => eqUse U[j] U[k] wx
          have HKEY := hide hkey
          by_cases hsame : U[j] = U[k]
          · have hB : useB U[j] U[k] = true := by simp [useB, hsame]
            have HN := hide (HNEXT.out h5' (fun i hi hik he => by
              by_cases hij : i = j
              · subst hij; exact hsame
              · have hi2 : U[i].1 = U[j].1 := he.trans hje.symm
                have : U[i] = U[j] := by
                  rcases Nat.lt_or_ge i j with hlt' | hge
                  · exact Prod.ext hi2 ((HK.out j hj hjk).2 i hlt' hi2)
                  · exact (Prod.ext hi2.symm ((HK.out i hi hik).2 j (by omega) hi2.symm)).symm
                rw [this, hsame]))
            rw [hsame] at hrun qE hB
            clear HBAD HODD HNEXT hv hhas hkey hat hsame hje
            generalize hu : U[k] = u at *
            obtain ⟨s, ub, m⟩ := u
            simp only at q1 q2 q3 h5 h5' hsh hrun HN HKEY qE
            clear hu
            go_wp2_with (first
              | (at_mapUpdate; refine wpList_mapUpdate_own _ rfl _ _ _ 95 rfl 9 97 (Maps.string_keyed Try.underlying9) Try.underlying95 useElem w.heap.size k D rfl ((hown.alloc _).alloc _) (by unfold maxLen; omega) _ _ (.string s.data.toList) rfl rfl (unhide HKEY) (useData (s, ub, m)) [] rfl ?_)
              | go_in)
            intro w1 hown1 hgrow1
            have HO1 := hide hown1
            have HB1 := hide (((HB.out.alloc hbs (.cells #[.string s, .bool ub, .int .i64 m] 97)).alloc (by simp; omega) _).grown hgrow1 (by simp; omega) (fun x hx => by simp at hx; omega))
            clear hown1 hgrow1 hown hrun
            go_wp2
            go_roundw
            case rel => exact ⟨k + 1, _, by omega, by go_num, HO1.out, HN.out.2, HN.out.1, HB1.out⟩
            case measure => simp [intOf]; omega
          · have hB : useB U[j] U[k] = false := by simp [useB, hsame]
            have HR := hide (HODD.out j hj hjk hje hsame)
            clear HBAD HODD HNEXT hv hhas hkey hat hje hsame HKEY
            generalize U[j] = y at *
            generalize hu : U[k] = u at *
            obtain ⟨s, ub, m⟩ := u
            obtain ⟨s', ub', m'⟩ := y
            simp only at q1 q2 q3 h5 h5' hsh hrun qE
            clear hu
            go_wp2
            go_ret
            exact ⟨_, rfl, HR.out, (HB.out.alloc hbs _).alloc (by simp; omega) _⟩
    · have hk' : k = U.length := by omega
      subst hk'
      have HR := hide (okTo_all HK.out)
      clear hmi hok hown hb
      go_wp2
      go_ret
      exact ⟨_, rfl, Or.inl ⟨rfl, HR.out⟩, HB.out⟩

theorem atOdds_any (a : Option Addr) (cp : Nat) (U : List Us) (w : World) (h : UsesIn w a U) :
    Calls Try.prog 24 #[.slice a U.length cp] w fun e w' => ∃ r : Int, e = .returned (.int .i64 r) ∧ ((0 ≤ r → ¬ UsesOk U) ∧ (r < 0 → UsesOk U)) ∧ Below w.heap.size w w' := by
  refine (atOdds_first a cp U w h).mono ?_
  rintro e w' ⟨r, rfl, hr, hb⟩
  refine ⟨r, rfl, ?_, hb⟩
  rcases hr with ⟨rfl, hu⟩ | ⟨k, hk, rfl, h1, h2⟩
  · exact ⟨fun h => by omega, fun _ => hu⟩
  · exact ⟨fun _ hu => h2 fun i hi _ => hu i hi, fun h => by omega⟩

end Go.Proofs.Ytcpdadppblbndaa
