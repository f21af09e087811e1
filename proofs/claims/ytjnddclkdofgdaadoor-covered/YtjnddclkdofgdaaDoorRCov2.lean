/- The document's own answer: what variables are, in memory. -/
import Derived.Test.YtjnddclkdofgdaaDoorRCov1
import Derived.Test.YtjnddclkdofgdaaDoorRClause
import Derived.Deep.AppendLies
import Derived.Laws.AppendOwnNone
namespace Go.Proofs.YtjnddclkdofgdaaDoor
open Go.RowKit
set_option maxRecDepth 100000

theorem infoBound : (Tryd.prog.info? 149).map (fun i => (i.zero, i.size, i.bytes)) = some (some (.agg #[.int .i64 0, .slice none 0 0]), 2, 32) := by kernel_rfl
/-- One binding, and the value that its term is. -/
abbrev Bn := (Int × List Nd) × Value
def bdCells (P : List Bn) : List Value := P.flatMap fun p => [.int .i64 p.1.1, p.2]
theorem bdCells_length (P : List Bn) : (bdCells P).length = P.length * 2 := by
  induction P with
  | nil => rfl
  | cons x r ih => simp [bdCells] at ih ⊢; omega
theorem bdCells_snoc (P : List Bn) (x : Bn) : bdCells (P ++ [x]) = bdCells P ++ [.int .i64 x.1.1, x.2] := by simp [bdCells]
theorem bdCells_at (P : List Bn) : ∀ k (h : k < P.length), (bdCells P)[k * 2]? = some (.int .i64 P[k].1.1) ∧ (bdCells P)[k * 2 + 1]? = some P[k].2 := by
  induction P with
  | nil => intro k h; simp at h
  | cons x r ih =>
    intro k h
    cases k with
    | zero => simp [bdCells]
    | succ k =>
      have := ih k (by simpa using h)
      have e1 : (k + 1) * 2 = k * 2 + 2 := by omega
      rw [e1]
      simp only [bdCells, List.flatMap_cons, List.cons_append, List.nil_append, List.getElem?_cons_succ, List.getElem_cons_succ] at this ⊢
      exact this
theorem bdCells_one (w : World) (P : List Bn) (h : ∀ p ∈ P, AtomAt w p.2 p.1.2) : ∀ u ∈ bdCells P, u.oneCell' = true := by
  intro u hu
  simp only [bdCells, List.mem_flatMap] at hu
  obtain ⟨p, hp, hu⟩ := hu
  obtain ⟨a, cap, e, _⟩ := h p hp
  simp at hu
  rcases hu with rfl | rfl
  · rfl
  · rw [e]; rfl
theorem own_bds {w : World} {B : Nat} {v : Value} {P : List Bn} (h : w.ownsRow B 149 2 v P.length (bdCells P)) :
    ∃ a cap, v = .slice a P.length cap ∧ ∀ k (h : k < P.length), ∃ g, a = some ⟨g, 0, none⟩ ∧ w.cell? ⟨g, k * 2, none⟩ = some (.int .i64 P[k].1.1) ∧ w.cell? ⟨g, k * 2 + 1, none⟩ = some P[k].2 := by
  obtain ⟨h1, ⟨rfl, h2⟩ | ⟨g, cap, cur, rfl, hb, hh, hc, hm, hz, ht⟩⟩ := h
  · exact ⟨none, 0, by rw [h2], fun k hk => by omega⟩
  · have ho : w.ownsRow B 149 2 (.slice (some ⟨g, 0, none⟩) P.length cap) P.length (bdCells P) := ⟨h1, Or.inr ⟨g, cap, cur, rfl, hb, hh, hc, hm, hz, ht⟩⟩
    refine ⟨_, _, rfl, fun k hk => ⟨g, rfl, ?_, ?_⟩⟩
    · rw [ho.cellAt (k * 2) (by omega), (bdCells_at P k hk).1]
    · rw [ho.cellAt (k * 2 + 1) (by omega), (bdCells_at P k hk).2]
/-- A list of bindings. -/
def BdsV (w : World) (v : Value) (L : Bd') : Prop := ∃ P : List Bn, P.map Prod.fst = L ∧ (∀ p ∈ P, AtomAt w p.2 p.1.2) ∧ w.ownsRow 0 149 2 v P.length (bdCells P)
theorem BdsV.nil (w : World) : BdsV w (.slice none 0 0) [] := ⟨[], rfl, by simp, World.ownsRow_nil _ _ _ _⟩
theorem AtomAt.below' {w w1 : World} {v : Value} {l : List Nd} (h : AtomAt w v l) (k : Below w.heap.size w w1) : AtomAt w1 v l := by
  obtain ⟨a, cap, h1, h2⟩ := h
  exact ⟨a, cap, h1, h2.below k (Nat.le_refl _)⟩
theorem BdsV.below {w w1 : World} {v : Value} {L : Bd'} (h : BdsV w v L) (k : Below w.heap.size w w1) : BdsV w1 v L := by
  obtain ⟨P, h1, h2, h3⟩ := h
  exact ⟨P, h1, fun p hp => (h2 p hp).below' k, own_below h3 k (Nat.le_refl _)⟩

/-- The list that match makes. -/
def OutV (w wr : World) (v : Value) (P : List Bn) : Prop := (∀ p ∈ P, AtomAt w p.2 p.1.2) ∧ wr.ownsRow w.heap.size 149 2 v P.length (bdCells P) ∧ Below w.heap.size w wr
theorem OutV.below {w wr wx : World} {v : Value} {P : List Bn} (h : OutV w wr v P) (k : Below wr.heap.size wr wx) : OutV w wx v P :=
  ⟨h.1, own_below h.2.1 k (Nat.le_refl _), h.2.2.trans (k.mono h.2.2.size)⟩
theorem OutV.more {w wm w1 : World} {v v' va : Value} {P : List Bn} {x : Int × List Nd} (h : OutV w wm v P) (hx : AtomAt w va x.2) (ho' : w1.ownsRow w.heap.size 149 2 v' (P.length + 1) (bdCells P ++ [.int .i64 x.1, va])) (hg : wm.grownBy w1 v.ownBlock) : OutV w w1 v' (P ++ [(x, va)]) := by
  refine ⟨fun p hp => ?_, by rw [bdCells_snoc, List.length_append]; exact ho', h.2.2.grown hg h.2.2.size fun k e => (own_lt h.2.1 k e).1⟩
  rcases List.mem_append.1 hp with hp | hp
  · exact h.1 p hp
  · simp at hp; subst hp; exact hx
theorem OutV.bds {w wr : World} {v : Value} {P : List Bn} (h : OutV w wr v P) : BdsV wr v (P.map Prod.fst) :=
  ⟨P, rfl, fun p hp => (h.1 p hp).below' h.2.2, own_mono h.2.1 (Nat.zero_le _)⟩
/-- Is a variable bound by the first ones? -/
def keyB (x : Int) (P : List Bn) : Bool := P.any fun p => decide (p.1.1 = x)
theorem keyB_take (x : Int) (P : List Bn) (k : Nat) (h : k < P.length) : keyB x (P.take (k + 1)) = (keyB x (P.take k) || decide (P[k].1.1 = x)) := by
  rw [List.take_succ_eq_append_getElem h, keyB, keyB, List.any_append]; simp
theorem keyB_none {x : Int} {P : List Bn} (h : look (P.map Prod.fst) x = none) : ∀ k (hk : k < P.length), ¬ P[k].1.1 = x := by
  intro k hk e
  exact look_none h (by simp only [List.map_map]; exact List.mem_map.2 ⟨P[k], List.getElem_mem _, e⟩)
theorem keyB_some {x : Int} {t : List Nd} {P : List Bn} (hL : LOk (P.map Prod.fst)) (h : look (P.map Prod.fst) x = some t) : keyB x P = true ∧ ∀ k (hk : k < P.length), P[k].1.1 = x → P[k].1.2 = t := by
  constructor
  · have := look_mem h
    obtain ⟨p, hp, e⟩ := List.mem_map.1 this
    rw [keyB, List.any_eq_true]
    exact ⟨p, hp, by rw [e]; simp⟩
  · intro k hk e
    have hm : (x, P[k].1.2) ∈ P.map Prod.fst := List.mem_map.2 ⟨P[k], List.getElem_mem _, by rw [← e]⟩
    have := look_of_mem hL hm
    rw [h] at this
    simpa using this.symm

end Go.Proofs.YtjnddclkdofgdaaDoor
