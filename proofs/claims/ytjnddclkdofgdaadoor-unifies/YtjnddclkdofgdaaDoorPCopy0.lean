/- A list of nodes is appended to nothing: one step of a statement whose order is drawn. -/
import Derived.Test.YtjnddclkdofgdaaDoorRefs1M
import Derived.Deep.AppendLies
import Derived.Deep.RegionLaw
namespace Go.Proofs.YtjnddclkdofgdaaDoor
open Go.RowKit
set_option maxRecDepth 100000

theorem nodeCells_get (l : List Nd) (j : Nat) (u : Value) (h : (nodeCells l)[j]? = some u) : ∃ k, ∃ hk : k < l.length, (j = k * 2 ∧ u = .string l[k].1) ∨ (j = k * 2 + 1 ∧ u = .int .i64 l[k].2) := by
  have hj : j < (nodeCells l).length := (List.getElem?_eq_some_iff.1 h).1
  rw [nodeCells_length] at hj
  have hk : j / 2 < l.length := by omega
  obtain ⟨h1, h2⟩ := nodeCells_at l (j / 2) hk
  refine ⟨j / 2, hk, ?_⟩
  rcases Nat.mod_two_eq_zero_or_one j with h0 | h0
  · left
    have e : j = j / 2 * 2 := by omega
    rw [e] at h
    rw [h1] at h
    exact ⟨e, by simpa using h.symm⟩
  · right
    have e : j = j / 2 * 2 + 1 := by omega
    rw [e] at h
    rw [h2] at h
    exact ⟨e, by simpa using h.symm⟩
theorem nodes_news {w : World} {ad : Addr} {l : List Nd} (h : NodesIn w (some ad) l) : ∀ j u, (nodeCells l)[j]? = some u → w.cell? (ad.add j) = some u := by
  intro j u hu
  obtain ⟨k, hk, hc⟩ := nodeCells_get l j u hu
  obtain ⟨b, o, ha, e, f⟩ := h.cell k hk
  obtain rfl : ad = ⟨b, o, none⟩ := by simpa using ha
  have hadd : ∀ q, (⟨b, o, none⟩ : Addr).add q = ⟨b, o + q, none⟩ := fun q => by unfold Addr.add; split <;> simp_all
  rw [hadd]
  rcases hc with ⟨rfl, rfl⟩ | ⟨rfl, rfl⟩
  · exact e
  · rw [← Nat.add_assoc]; exact f
theorem node_one (l : List Nd) : ∀ u ∈ nodeCells l, u.oneCell' = true := by
  intro u hu
  simp only [nodeCells, List.mem_flatMap] at hu
  obtain ⟨n, _, hu⟩ := hu
  simp at hu
  rcases hu with rfl | rfl <;> rfl
theorem run_copy {w : World} {ty : TypeId} {aa : Option Addr} {c : Nat} {l : List Nd} (hn : NodesIn w aa l) (hz : aa = none → c = 0) :
    ∃ v w', (Builtin.append_ #[28, 28] ty #[.slice none 0 0, .slice aa l.length c]).run Tryd.prog w = .ok v w' ∧ w'.ownsRow w.heap.size 27 2 v l.length (nodeCells l) ∧ w.grownBy w' none := by
  obtain ⟨iN, hN, hN0, hN1, hN2⟩ := info_parts infoNode
  have h0 := World.ownsRow_nil w w.heap.size 27 2
  have hfew := hn.few
  cases aa with
  | none =>
    have hl : l = [] := by
      cases l with
      | nil => rfl
      | cons x r => obtain ⟨b, o, ha, _⟩ := hn.cell 0 (by simp); simp at ha
    subst hl
    rw [hz rfl]
    exact ⟨_, w, run_append_owned_none w w.heap.size 28 ty 27 iN 2 Tryd.underlying28 hN _ 0 [] h0, h0, ⟨rfl, rfl, rfl, Nat.le_refl _, fun _ _ _ => rfl⟩⟩
  | some ad =>
    obtain ⟨v, w', hr, ho, hg, _⟩ := run_append_own_at (P := Tryd.prog) w w.heap.size 28 ty 27 iN (.agg #[.string ⟨#[]⟩, .int .i64 0]) 2 24 Tryd.underlying28 hN hN0 hN1 hN2 rfl (by decide) _ 0 [] h0 ad l.length c (nodeCells l) (nodeCells_length l) (nodes_news hn) (node_one l) (by unfold maxLen; omega) (by omega) (Nat.le_refl _)
    refine ⟨v, w', hr, ?_, hg⟩
    simpa using ho
theorem step_copy {ops : Array Oper} {o : Oper} {a : Act} {w : World} {K : Act → World → Prop} {Q : Exit → Act → World → Prop} {E : Prop} (hgd : o.guard = none) (s x : Operand)
    (ho : o.op = .call { callee := .builtin .append, args := #[s, x], argTypes := #[28, 28] }) (aa : Option Addr) (c : Nat) (l : List Nd) (hs : a.eval s = .slice none 0 0) (hx : a.eval x = .slice aa l.length c) (hn : NodesIn w aa l) (hz : aa = none → c = 0)
    (h : ∀ v w', w'.ownsRow w.heap.size 27 2 v l.length (nodeCells l) → w.grownBy w' none → K (a.put o.dst v) w') :
    if Region.wanted o (yielded ops a.tmps) = true then Oper.wp Tryd.prog o a w K Q else E := by
  have hw : Region.wanted o (yielded ops a.tmps) = true := by simp [Region.wanted, hgd]
  rw [if_pos hw]
  obtain ⟨v, w', hr, h1, h2⟩ := run_copy (ty := o.type) hn hz
  unfold Oper.wp execOp
  simp only [ho, resolve, invoke, builtin, Sem.run_bind, Sem.run_pure, Result.andThen_ok, List.map_toArray, List.map_cons, List.map_nil, hs, hx, hr]
  exact h v w' h1 h2

end Go.Proofs.YtjnddclkdofgdaaDoor
