/- The program: the first use that cannot be. -/
import Derived.Test.YtjnddclkdofgdaaDoorPUses
import Derived.Test.YtjnddclkdofgdaaDoorONum0
import Derived.Maps.OwnSet
import Derived.Maps.Keyed
import Derived.StringKeys
namespace Go.Proofs.YtjnddclkdofgdaaDoor
open Go.RowKit Go.Shelf Go.WideMaps
set_option maxRecDepth 100000

/-- How a use in the map reads. -/
def useElem (v : Value) : Option (DataW Unit × List MemPlace) :=
  match v with
  | .agg cs => match cs.toList with
    | [.string s, .bool b, .int .i64 n] => some (.agg [.lit (.string s.data.toList), .lit (.bool b), .lit (.int .i64 n)], [])
    | _ => none
  | _ => none
def useData (u : Us) : DataW Unit := .agg [.lit (.string u.1.data.toList), .lit (.bool u.2.1), .lit (.int .i64 u.2.2)]
theorem useElem_mk (u : Us) : useElem (.agg #[.string u.1, .bool u.2.1, .int .i64 u.2.2]) = some (useData u, []) := rfl
theorem useElem_inv {v : Value} {u : Us} {ps : List MemPlace} (h : useElem v = some (useData u, ps)) : v = .agg #[.string u.1, .bool u.2.1, .int .i64 u.2.2] := by
  unfold useElem at h
  split at h
  · next cs =>
   split at h
   · next s b n hcs =>
    have hcs' : cs = #[.string s, .bool b, .int .i64 n] := by
      have := congrArg List.toArray hcs
      simpa using this
    subst hcs'
    simp only [useData, Option.some.injEq, Prod.mk.injEq, DataW.agg.injEq, List.cons.injEq, DataW.lit.injEq, Lit.string.injEq, Lit.bool.injEq, Lit.int.injEq, and_true, true_and] at h
    obtain ⟨⟨h1, h2, h3⟩, _⟩ := h
    have : s = u.1 := by
      obtain ⟨⟨x⟩⟩ := s
      obtain ⟨⟨⟨y⟩⟩, z⟩ := u
      simp at h1
      rw [h1]
    rw [this, h2, h3]
   · simp at h
  · simp at h
/-- What the map holds behind the first uses. -/
structure MapIs (D : DataW Unit) (U : List Us) (k : Nat) : Prop where
  isMap : Maps.IsMap D
  old : ∀ j (h : j < U.length), j < k → Maps.has D (.string U[j].1.data.toList) = true ∧ ∀ z, D.atKey (.string U[j].1.data.toList) z = useData U[j]
  new : ∀ s : ByteArray, (∀ j (h : j < U.length), j < k → U[j].1 ≠ s) → Maps.has D (.string s.data.toList) = false
theorem data_inj {s t : ByteArray} (h : s.data.toList = t.data.toList) : s = t := by
  obtain ⟨⟨x⟩⟩ := s
  obtain ⟨⟨y⟩⟩ := t
  simp at h
  rw [h]
theorem mapIs_start (U : List Us) : MapIs (.map []) U 0 := ⟨Maps.isMap_empty, fun j _ h => by omega, fun s _ => rfl⟩
theorem mapIs_put {D : DataW Unit} {U : List Us} {k : Nat} (h : MapIs D U k) (hk : k < U.length) (hsame : ∀ j (hj : j < U.length), j < k → U[j].1 = U[k].1 → U[j] = U[k]) :
    MapIs (D.put (.string U[k].1.data.toList) (useData U[k])) U (k + 1) := by
  have hkey : WideAt.IsKeyLit (.string U[k].1.data.toList) := trivial
  refine ⟨h.isMap.put _ _, fun j hj hjk => ?_, fun s hs => ?_⟩
  · by_cases he : U[j].1 = U[k].1
    · have hu : U[j] = U[k] := by
        by_cases hjk' : j = k
        · subst hjk'; rfl
        · exact hsame j hj (by omega) he
      rw [hu]
      exact ⟨Maps.has_put_same h.isMap hkey _, fun z => Maps.atKey_put_same h.isMap hkey _ _⟩
    · have hne : (Lit.string U[j].1.data.toList) ≠ .string U[k].1.data.toList := fun e => he (data_inj (by simpa using e))
      have hjk' : j < k := by
        rcases Nat.lt_or_ge j k with h1 | h1
        · exact h1
        · have : j = k := by omega
          subst this
          exact absurd rfl he
      have ho := h.old j hj hjk'
      exact ⟨by rw [Maps.has_put_other hne]; exact ho.1, fun z => by rw [Maps.atKey_put_other hne]; exact ho.2 z⟩
  · have hne : (Lit.string s.data.toList) ≠ .string U[k].1.data.toList := fun e => hs k hk (by omega) (data_inj (by simpa using e)).symm
    rw [Maps.has_put_other hne]
    exact h.new s fun j hj hjk => hs j hj (by omega)
/-- No use among the first is at odds. -/
def OkTo (U : List Us) (k : Nat) : Prop := ∀ i (h : i < U.length), i < k → U[i].2.2 ≤ 5 ∧ ∀ j (hj : j < i), (U[j]'(by omega)).1 = U[i].1 → (U[j]'(by omega)).2 = U[i].2
theorem okTo_all {U : List Us} (h : OkTo U U.length) : UsesOk U := fun i hi => h i hi hi

theorem stoodUse : Tryd.prog.stoodInHeld 94 = false := by kernel_rfl
theorem guardUse : Tryd.prog.eqGuardType Tryd.prog.depth 94 = false := by kernel_rfl
theorem structUse : Tryd.prog.underlying 94 = some (.struct (Tryd.prog.fieldsOf 94)) := by kernel_rfl
def useB (x y : Us) : Bool := decide (x = y)
theorem eqUse (x y : Us) (w : World) : (Op.equalIn 10000 94 (.agg #[.string x.1, .bool x.2.1, .int .i64 x.2.2]) (.agg #[.string y.1, .bool y.2.1, .int .i64 y.2.2])).run Tryd.prog w = .ok (useB x y) w := by
  rw [show (10000 : Nat) = 9999 + 1 from rfl, run_equalIn_agg w 9999 94 _ _ structUse stoodUse]
  simp only [Program.fieldsOf, Tryd.underlying94]
  go_simp
  obtain ⟨s, b, n⟩ := x
  obtain ⟨t, d, m⟩ := y
  simp only [useB, toList_inj]
  by_cases h1 : s = t <;> by_cases h2 : b = d <;> by_cases h3 : n = m <;> simp [h1, h2, h3]

end Go.Proofs.YtjnddclkdofgdaaDoor
