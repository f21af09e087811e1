/- What Print answers, as the document asks it. -/
import Derived.Test.YtjnddclkdofgdaaDoorCaps
import Derived.Test.YtjnddclkdofgdaaDoorRClause
import Derived.Test.YtjnddclkdofgdaaDoorRTermW
import Derived.Test.YtjnddclkdofgdaaDoorRNamed
namespace Go.Proofs.YtjnddclkdofgdaaDoor
open Go.RowKit

/-- What a name is at one place. -/
abbrev Us := ByteArray × Bool × Int
/-- What the names of a node are, by its number among its atom's. -/
def useOf (k : Nat) (n : Nd) : List Us := if varB n then [] else [(n.1, decide (k = 0), n.2)]
/-- What the names of the first nodes are. -/
def plTo (l : List Nd) : Nat → List Us
  | 0 => []
  | k + 1 => plTo l k ++ ((l[k]?).map (useOf k)).getD []
/-- What the names of the first literals are. -/
def usesTo (c : List Lt) : Nat → List Us
  | 0 => []
  | k + 1 => usesTo c k ++ ((c[k]?).map fun x => plTo x.2 x.2.length).getD []
def usesL (c : List Lt) : List Us := usesTo c c.length
theorem plTo_succ (l : List Nd) (k : Nat) (h : k < l.length) : plTo l (k + 1) = plTo l k ++ useOf k l[k] := by simp [plTo, h]
theorem usesTo_succ (c : List Lt) (k : Nat) (h : k < c.length) : usesTo c (k + 1) = usesTo c k ++ plTo c[k].2 c[k].2.length := by simp [usesTo, h]
theorem plTo_len (l : List Nd) (k : Nat) : (plTo l k).length ≤ k := by
  induction k with
  | zero => simp [plTo]
  | succ k ih =>
    simp only [plTo, List.length_append]
    have : (((l[k]?).map (useOf k)).getD []).length ≤ 1 := by
      cases l[k]? with
      | none => simp
      | some n => simp [useOf]; split <;> simp
    omega
theorem usesTo_len (c : List Lt) (k : Nat) : (usesTo c k).length ≤ countL (c.take k) := by
  induction k with
  | zero => simp [usesTo]
  | succ k ih =>
    by_cases h : k < c.length
    · rw [usesTo_succ c k h, List.take_succ_eq_append_getElem h, countL_snoc, List.length_append]
      have := plTo_len c[k].2 c[k].2.length
      omega
    · have h1 : c[k]? = none := List.getElem?_eq_none (by omega)
      have h2 : c.take (k + 1) = c.take k := by rw [List.take_of_length_le (by omega), List.take_of_length_le (by omega)]
      simp only [usesTo, h1, h2]
      simpa using ih
/-- Each name is one thing, and has no more than five parts. -/
def UsesOk (u : List Us) : Prop := ∀ i (h : i < u.length), u[i].2.2 ≤ 5 ∧ ∀ k (hk : k < i), (u[k]'(by omega)).1 = u[i].1 → (u[k]'(by omega)).2 = u[i].2
/-- A literal as it is written, by its number. -/
def litT (k : Nat) (x : Lt) : List UInt8 := (if k = 0 then [] else [32, 124, 32]) ++ ((if x.1 then [126] else []) ++ (termW 60 x.2).1)
def litsF (c : List Lt) : Nat → List UInt8
  | 0 => []
  | k + 1 => litsF c k ++ ((c[k]?).map (litT k)).getD []
theorem litsF_succ (c : List Lt) (k : Nat) (h : k < c.length) : litsF c (k + 1) = litsF c k ++ litT k c[k] := by simp [litsF, h]
/-- A clause as it is written. -/
def clauseT (c : List Lt) : List UInt8 := (if c.length = 0 then [36, 102, 97, 108, 115, 101] else litsF c c.length) ++ [46, 10]
/-- What Print answers. -/
def PrintR (c : List Lt) (t : List UInt8) (e : Int) : Prop := (isClauseL c = true ∧ UsesOk (usesL c) ∧ t = clauseT c ∧ e = 0) ∨ (¬ (isClauseL c = true ∧ UsesOk (usesL c)) ∧ t = [] ∧ e = 5)
theorem PrintR.one {c : List Lt} {t t' : List UInt8} {e e' : Int} (h : PrintR c t e) (h' : PrintR c t' e') : t = t' ∧ e = e' := by
  rcases h with ⟨h1, h2, rfl, rfl⟩ | ⟨h1, rfl, rfl⟩ <;> rcases h' with ⟨h1', h2', rfl, rfl⟩ | ⟨h1', rfl, rfl⟩
  · exact ⟨rfl, rfl⟩
  · exact absurd ⟨h1, h2⟩ h1'
  · exact absurd ⟨h1', h2'⟩ h1
  · exact ⟨rfl, rfl⟩

theorem clause_atoms {c : List Lt} (h : isClauseL c = true) : (c.length ≤ 8 ∧ countL c ≤ 60) ∧ ∀ x ∈ c, atomB x.2 = true := by
  simp only [isClauseL, Bool.and_eq_true] at h
  refine ⟨by simpa [fitsL] using h.1.1, ?_⟩
  have := h.1.2
  rw [List.all_eq_true] at this
  exact this
theorem term_len {l : List Nd} (h : atomB l = true) : (termW 60 l).1.length ≤ 12000 := by
  obtain ⟨h1, h2⟩ := atom_parts h
  obtain ⟨k, _, hk, _, _, h5⟩ := term_step 60 l 0 h2 h1
  omega
theorem litsF_len {c : List Lt} (h : ∀ x ∈ c, atomB x.2 = true) (k : Nat) : (litsF c k).length ≤ 12010 * k := by
  induction k with
  | zero => simp [litsF]
  | succ k ih =>
    by_cases hk : k < c.length
    · rw [litsF_succ c k hk, List.length_append]
      have h1 := term_len (h c[k] (List.getElem_mem _))
      have : (litT k c[k]).length ≤ 12010 := by
        unfold litT
        simp only [List.length_append]
        have a : (if k = 0 then ([] : List UInt8) else [32, 124, 32]).length ≤ 3 := by split <;> simp
        have b : (if c[k].1 = true then ([126] : List UInt8) else []).length ≤ 1 := by split <;> simp
        omega
      omega
    · simp only [litsF, List.getElem?_eq_none (show c.length ≤ k by omega)]
      simp
      omega

/-- The cells of places. -/
def plCells (P : List Pl) : List Value := P.flatMap fun p => [.string p.1, .bool p.2.1, .int .i64 p.2.2.1, .int .i64 p.2.2.2]
def noAt (p : Pl) : Us := (p.1, p.2.1, p.2.2.1)
theorem plCells_length (P : List Pl) : (plCells P).length = P.length * 4 := by
  induction P with
  | nil => rfl
  | cons x r ih => simp [plCells] at ih ⊢; omega
theorem plCells_snoc (P : List Pl) (x : Pl) : plCells (P ++ [x]) = plCells P ++ [.string x.1, .bool x.2.1, .int .i64 x.2.2.1, .int .i64 x.2.2.2] := by simp [plCells]
theorem plCells_at (P : List Pl) : ∀ k (h : k < P.length), (plCells P)[k * 4]? = some (.string P[k].1) ∧ (plCells P)[k * 4 + 1]? = some (.bool P[k].2.1) ∧ (plCells P)[k * 4 + 2]? = some (.int .i64 P[k].2.2.1) ∧ (plCells P)[k * 4 + 3]? = some (.int .i64 P[k].2.2.2) := by
  induction P with
  | nil => intro k h; simp at h
  | cons x r ih =>
    intro k h
    cases k with
    | zero => simp [plCells]
    | succ k =>
      have := ih k (by simpa using h)
      have e1 : (k + 1) * 4 = k * 4 + 4 := by omega
      rw [e1]
      simp only [plCells, List.flatMap_cons, List.cons_append, List.nil_append, List.getElem_cons_succ] at this ⊢
      have e2 : k * 4 + 4 + 1 = k * 4 + 1 + 4 := by omega
      have e3 : k * 4 + 4 + 2 = k * 4 + 2 + 4 := by omega
      have e4 : k * 4 + 4 + 3 = k * 4 + 3 + 4 := by omega
      rw [e2, e3, e4]
      simp only [List.getElem?_cons_succ]
      exact this
theorem plCells_set (P : List Pl) : ∀ k (h : k < P.length) (x : Int), plCells (P.set k (P[k].1, P[k].2.1, P[k].2.2.1, x)) = (plCells P).set (k * 4 + 3) (.int .i64 x) := by
  induction P with
  | nil => intro k h; simp at h
  | cons y r ih =>
    intro k h x
    cases k with
    | zero => simp [plCells]
    | succ k =>
      have := ih k (by simpa using h) x
      have e1 : (k + 1) * 4 + 3 = k * 4 + 3 + 4 := by omega
      rw [e1]
      simp only [plCells, List.set_cons_succ, List.flatMap_cons, List.cons_append, List.nil_append, List.getElem_cons_succ] at this ⊢
      rw [this]
theorem own_places {w : World} {B : Nat} {v : Value} {P : List Pl} (h : w.ownsRow B 75 4 v P.length (plCells P)) (hf : P.length ≤ 1000000) :
    ∃ a cap, v = .slice a P.length cap ∧ PlacesIn w a P := by
  obtain ⟨h1, ⟨rfl, h2⟩ | ⟨g, cap, cur, rfl, hb, hh, hc, hm, hz, ht⟩⟩ := h
  · exact ⟨none, 0, by rw [h2], hf, fun k hk => by omega⟩
  · have ho : w.ownsRow B 75 4 (.slice (some ⟨g, 0, none⟩) P.length cap) P.length (plCells P) := ⟨h1, Or.inr ⟨g, cap, cur, rfl, hb, hh, hc, hm, hz, ht⟩⟩
    refine ⟨_, _, rfl, hf, fun k hk => ⟨g, 0, rfl, ?_, ?_, ?_, ?_⟩⟩
    · rw [Nat.zero_add, ho.cellAt (k * 4) (by omega), (plCells_at P k hk).1]
    · rw [Nat.zero_add, ho.cellAt (k * 4 + 1) (by omega), (plCells_at P k hk).2.1]
    · rw [Nat.zero_add, ho.cellAt (k * 4 + 2) (by omega), (plCells_at P k hk).2.2.1]
    · rw [Nat.zero_add, ho.cellAt (k * 4 + 3) (by omega), (plCells_at P k hk).2.2.2]
theorem named_ok {P : List Pl} {r : Int} (h : NamedR P r) (hp : ∀ p ∈ P, 0 ≤ p.2.2.2) : (r < 0 → UsesOk (P.map noAt)) ∧ (0 ≤ r → ¬ UsesOk (P.map noAt)) := by
  rcases h with ⟨rfl, h⟩ | ⟨i, hi, hb, _, rfl⟩
  · refine ⟨fun _ i hi => ?_, fun h => by omega⟩
    have hi' : i < P.length := by simpa using hi
    have hb := h i hi'
    simp only [badPl, not_or, not_exists] at hb
    refine ⟨by simp [noAt]; omega, fun k hk he => ?_⟩
    have hc := hb.2 k hk
    simp only [List.getElem_map, noAt] at he ⊢
    simp only [clashes, not_and, not_or, Decidable.not_not] at hc
    have := hc he
    rw [this.1, this.2]
  · have h0 := hp P[i] (List.getElem_mem _)
    refine ⟨fun h => by omega, fun _ hu => ?_⟩
    have hu' := hu i (by simpa using hi)
    simp only [List.getElem_map, noAt] at hu'
    rcases hb with hb | ⟨k, hk, hb1, hb2⟩
    · omega
    · have := hu'.2 k hk hb1
      simp at this
      rcases hb2 with h | h
      · exact h this.1
      · exact h this.2

end Go.Proofs.YtjnddclkdofgdaaDoor
