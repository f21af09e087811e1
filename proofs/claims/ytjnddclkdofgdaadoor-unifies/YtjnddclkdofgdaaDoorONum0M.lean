/- A map that has no such key. The program: the number of a variable. Rows that are made whole, and filled. -/
import Derived.Test.YtjnddclkdofgdaaDoorBase0
import Derived.Maps.OwnSet
import Derived.Maps.Keyed
import Derived.Test.YtjnddclkdofgdaaDoorPDist
import Derived.OwnWalk
namespace Go.Proofs.YtjnddclkdofgdaaDoor
open Go.RowKit Go.WideMaps

theorem atKey_none {D : DataW Unit} (hD : Maps.IsMap D) {k : Lit} (h : Maps.has D k = false) (z : DataW Unit) : D.atKey k z = z := by
  obtain ⟨es, rfl⟩ := hD
  rw [Maps.has_eq] at h
  have : es.find? (fun p => p.1.sameKey k) = none := by
    rw [List.find?_eq_none]
    intro p hp
    rw [List.any_eq_false] at h
    exact h p hp
  simp [DataW.atKey, this]

end Go.Proofs.YtjnddclkdofgdaaDoor

namespace Go.Proofs.YtjnddclkdofgdaaDoor
open Go.RowKit Go.Shelf Go.WideMaps
set_option maxRecDepth 100000

/-- How a number in the map reads. -/
def numElem (v : Value) : Option (DataW Unit × List MemPlace) :=
  match v with
  | .int .i64 x => some (.lit (.int .i64 x), [])
  | _ => none
/-- What the map holds: each variable that stood there, and its number. -/
structure NumIs (D : DataW Unit) (sn : List Int) : Prop where
  tidy : Maps.Tidy D
  size : Maps.size D = sn.length
  old : ∀ x, 0 ≤ posT sn x → Maps.has D (.int .i64 x) = true ∧ ∀ z, D.atKey (.int .i64 x) z = .lit (.int .i64 (posT sn x))
  new : ∀ x, posT sn x < 0 → Maps.has D (.int .i64 x) = false
theorem NumIs.start : NumIs (.map []) [] := ⟨⟨[], rfl, by simp⟩, rfl, fun x h => by rw [posT_nil] at h; omega, fun x _ => rfl⟩
theorem NumIs.put {D : DataW Unit} {sn : List Int} {x : Int} (h : NumIs D sn) (hx : posT sn x < 0) : NumIs (D.put (.int .i64 x) (.lit (.int .i64 sn.length))) (sn ++ [x]) := by
  have hkey : WideAt.IsKeyLit (.int .i64 x) := trivial
  refine ⟨h.tidy.put hkey _, ?_, fun y hy => ?_, fun y hy => ?_⟩
  · rw [Maps.size_put h.tidy, h.new x hx, h.size]; simp
  · rw [posT_snoc] at hy ⊢
    by_cases he : x = y
    · subst he
      rw [if_pos rfl]
      exact ⟨Maps.has_put_same h.tidy.isMap hkey _, fun z => Maps.atKey_put_same h.tidy.isMap hkey _ _⟩
    · rw [if_neg he] at hy ⊢
      have hne : (Lit.int .i64 y) ≠ .int .i64 x := fun e => he (by simpa using e.symm)
      have ho := h.old y hy
      exact ⟨by rw [Maps.has_put_other hne]; exact ho.1, fun z => by rw [Maps.atKey_put_other hne]; exact ho.2 z⟩
  · rw [posT_snoc] at hy
    by_cases he : x = y
    · rw [if_pos he] at hy; omega
    · rw [if_neg he] at hy
      have hne : (Lit.int .i64 y) ≠ .int .i64 x := fun e => he (by simpa using e.symm)
      rw [Maps.has_put_other hne]
      exact h.new y hy
theorem wf_i64 {x : Int} (h0 : -1000000000 ≤ x) (h1 : x ≤ 1000000000) : (Lit.int .i64 x).wf = true := by
  simp [Lit.wf, IntKind.min, IntKind.max, IntKind.bits, IntKind.signed]
  omega
theorem plain_inv {v : Value} {x : Int} {ps : List MemPlace} (h : numElem v = some (.lit (.int .i64 x), ps)) : v = .int .i64 x := by
  unfold numElem at h
  split at h
  · simp at h; rw [h.1]
  · simp at h

/-- The variables that stood there, and the number of one more. -/
def numStep (sn : List Int) (x : Int) : List Int × Int := if posT sn x < 0 then (sn ++ [x], (sn.length : Int)) else (sn, posT sn x)

set_option maxHeartbeats 1000000 in
theorem numberOfI_any (g : Nat) (D : DataW Unit) (sn : List Int) (x : Int) (w : World) (hown : w.ownsMap Tryd.prog 3 numElem g sn.length D) (hN : NumIs D sn) (h0 : 0 ≤ x) (h1 : x ≤ 1000000000) (hf : sn.length ≤ 1000000) :
    Calls Tryd.prog 122 #[.map (some g), .int .i64 x] w fun e w' => ∃ D' : DataW Unit, e = .returned (.int .i64 (numStep sn x).2) ∧ w'.ownsMap Tryd.prog 3 numElem g (numStep sn x).1.length D' ∧ NumIs D' (numStep sn x).1 ∧ w.grownBy w' (some g) := by
  have hkey : keyOf Tryd.prog 3 (.int .i64 x) = some (.int .i64 x) := Maps.keyOf_int_mk Tryd.underlying3 (wf_i64 (by omega) (by omega))
  obtain ⟨v, ps, hrun, hv⟩ := hown.look_ok (Maps.int_keyed Tryd.underlying3) Tryd.underlying161 (Tryd.zeroValue3 _) (zd := .lit (.int .i64 0)) (zp := []) rfl hkey
  by_cases hp : posT sn x < 0
  · have HST : Hid (numStep sn x = (sn ++ [x], (sn.length : Int))) := hide (by unfold numStep; rw [if_pos hp])
    have hhas := hN.new x hp
    rw [hhas] at hrun
    rw [atKey_none hN.tidy.isMap hhas] at hv
    have hvv := plain_inv hv
    subst hvv
    have HN := hide (hN.put hp)
    have HKEY := hide hkey
    have HSZ := hide hN.size
    have hlen := hN.size
    clear hv hhas hN hkey hp
    go_enter Tryd.func122, Tryd.ntmps122
    go_wp2_with (first
      | (at_len; refine wpList_len_own _ rfl _ 161 rfl 3 3 Tryd.underlying161 _ g sn.length D rfl hown ?_)
      | (at_mapUpdate; refine wpList_mapUpdate_own _ rfl _ _ _ 161 rfl 3 3 (Maps.int_keyed Tryd.underlying3) Tryd.underlying161 numElem g sn.length D rfl hown (by unfold maxLen; omega) _ _ (.int .i64 x) rfl rfl (unhide HKEY) (.lit (.int .i64 sn.length)) [] ?_ ?_)
      | go_in)
    case refine_1 => rfl
    intro w1 hown1 hg1
    have HO := hide hown1
    have HG := hide hg1
    clear hown1 hg1
    go_wp2
    go_ret
    rw [HST.out]
    exact ⟨_, rfl, by rw [List.length_append]; exact HO.out, HN.out, HG.out⟩
  · have HST : Hid (numStep sn x = (sn, posT sn x)) := hide (by unfold numStep; rw [if_neg hp])
    have ho := hN.old x (by omega)
    rw [ho.1] at hrun
    rw [ho.2] at hv
    have hvv := plain_inv hv
    subst hvv
    have HN := hide hN
    have HOW := hide hown
    clear hv ho hN hkey hp hown
    go_enter Tryd.func122, Tryd.ntmps122
    go_wp2
    go_ret
    rw [HST.out]
    exact ⟨D, rfl, HOW.out, HN.out, ⟨rfl, rfl, rfl, Nat.le_refl _, fun _ _ _ => rfl⟩⟩

end Go.Proofs.YtjnddclkdofgdaaDoor

namespace Go.Proofs.YtjnddclkdofgdaaDoor
open Go.RowKit Go.Shelf Go.WideMaps
set_option maxRecDepth 100000

abbrev zNd : Nd := (⟨#[]⟩, 0)
abbrev zLt : Lt × Value := ((false, []), .slice none 0 0)
theorem nodeCells_cons (x : Nd) (r : List Nd) : nodeCells (x :: r) = .string x.1 :: .int .i64 x.2 :: nodeCells r := rfl
theorem litCells_cons (x : Lt × Value) (r : List (Lt × Value)) : litCells (x :: r) = .bool x.1.1 :: x.2 :: litCells r := rfl
theorem nodeCells_set (l : List Nd) : ∀ (k : Nat) (x : Nd), k < l.length → ((nodeCells l).set (k * 2) (.string x.1)).set (k * 2 + 1) (.int .i64 x.2) = nodeCells (l.set k x) := by
  induction l with
  | nil => intro k x h; simp at h
  | cons y r ih =>
    intro k x h
    cases k with
    | zero => rfl
    | succ k =>
      have := ih k x (by simpa using h)
      rw [show (k + 1) * 2 = k * 2 + 1 + 1 by omega, List.set_cons_succ, nodeCells_cons, nodeCells_cons, List.set_cons_succ, List.set_cons_succ, List.set_cons_succ, List.set_cons_succ, this]
theorem litCells_set (l : List (Lt × Value)) : ∀ (k : Nat) (x : Lt × Value), k < l.length → ((litCells l).set (k * 2) (.bool x.1.1)).set (k * 2 + 1) x.2 = litCells (l.set k x) := by
  induction l with
  | nil => intro k x h; simp at h
  | cons y r ih =>
    intro k x h
    cases k with
    | zero => rfl
    | succ k =>
      have := ih k x (by simpa using h)
      rw [show (k + 1) * 2 = k * 2 + 1 + 1 by omega, List.set_cons_succ, litCells_cons, litCells_cons, List.set_cons_succ, List.set_cons_succ, List.set_cons_succ, List.set_cons_succ, this]
theorem set_fill {α : Type} (a : List α) (z x : α) (m : Nat) (h : a.length < m) : (a ++ List.replicate (m - a.length) z).set a.length x = (a ++ [x]) ++ List.replicate (m - (a.length + 1)) z := by
  rw [show m - a.length = (m - (a.length + 1)) + 1 by omega, List.replicate_succ, List.set_append_right _ _ (Nat.le_refl _)]
  simp
theorem nodeCells_get_rep (n : Nat) : ∀ j, (nodeCells (List.replicate n zNd))[j]? = if j < n * 2 then some (if j % 2 = 0 then .string ⟨#[]⟩ else .int .i64 0) else none := by
  induction n with
  | zero => intro j; simp [nodeCells]
  | succ n ih =>
    intro j
    rw [List.replicate_succ, nodeCells_cons]
    match j with
    | 0 => simp
    | 1 => simp; omega
    | j + 2 =>
      simp only [List.getElem?_cons_succ]
      rw [ih j]
      have e : (j + 2) % 2 = j % 2 := by omega
      rw [e]
      by_cases h : j < n * 2
      · rw [if_pos h, if_pos (show j + 2 < (n + 1) * 2 by omega)]
      · rw [if_neg h, if_neg (show ¬ j + 2 < (n + 1) * 2 by omega)]
theorem litCells_get_rep (n : Nat) : ∀ j, (litCells (List.replicate n zLt))[j]? = if j < n * 2 then some (if j % 2 = 0 then .bool false else .slice none 0 0) else none := by
  induction n with
  | zero => intro j; simp [litCells]
  | succ n ih =>
    intro j
    rw [List.replicate_succ, litCells_cons]
    match j with
    | 0 => simp
    | 1 => simp; omega
    | j + 2 =>
      simp only [List.getElem?_cons_succ]
      rw [ih j]
      have e : (j + 2) % 2 = j % 2 := by omega
      rw [e]
      by_cases h : j < n * 2
      · rw [if_pos h, if_pos (show j + 2 < (n + 1) * 2 by omega)]
      · rw [if_neg h, if_neg (show ¬ j + 2 < (n + 1) * 2 by omega)]
theorem made_nodes (n : Nat) : (madeCells #[.string ⟨#[]⟩, .int .i64 0] (n * 2)).toList = nodeCells (List.replicate n zNd) := by
  apply List.ext_getElem?
  intro j
  rw [nodeCells_get_rep]
  by_cases hj : j < n * 2
  · rw [if_pos hj]
    rcases Nat.mod_two_eq_zero_or_one j with h | h <;> simp [madeCells, hj, h]
  · rw [if_neg hj]
    simp [madeCells]
    omega
theorem made_lits (n : Nat) : (madeCells #[.bool false, .slice none 0 0] (n * 2)).toList = litCells (List.replicate n zLt) := by
  apply List.ext_getElem?
  intro j
  rw [litCells_get_rep]
  by_cases hj : j < n * 2
  · rw [if_pos hj]
    rcases Nat.mod_two_eq_zero_or_one j with h | h <;> simp [madeCells, hj, h]
  · rw [if_neg hj]
    simp [madeCells]
    omega
/-- A row and a map are different blocks. -/
theorem row_map {w : World} {B : Nat} {e : TypeId} {size : Nat} {v : Value} {n k m : Nat} {xs : List Value} {D : DataW Unit} (h : w.ownsRow B e size v n xs) (hm : w.ownsMap Tryd.prog 3 numElem k m D) : v.ownBlock ≠ some k := by
  obtain ⟨es, clock, hh, _⟩ := hm
  obtain ⟨_, ⟨rfl, _⟩ | ⟨g, cap, cur, rfl, _, hg, _⟩⟩ := h
  · simp [Value.ownBlock]
  · simp [Value.ownBlock]
    rintro rfl
    rw [hh] at hg
    simp at hg
theorem own_setC {w : World} {B : Nat} {e : TypeId} {size : Nat} {v : Value} {n : Nat} {xs : List Value} (h : w.ownsRow B e size v n xs) {p : Addr} (hp : some p.block ≠ v.ownBlock) (u : Value) : (w.setCell p u).ownsRow B e size v n xs := by
  obtain ⟨h1, ⟨rfl, h2⟩ | ⟨g, cap, cur, rfl, hb, hh, hr⟩⟩ := h
  · exact ⟨h1, Or.inl ⟨rfl, h2⟩⟩
  · refine ⟨h1, Or.inr ⟨g, cap, cur, rfl, hb, ?_, hr⟩⟩
    rw [heap_setCell_other _ _ _ _ (fun e => hp (by simp [Value.ownBlock, e])), hh]

end Go.Proofs.YtjnddclkdofgdaaDoor
