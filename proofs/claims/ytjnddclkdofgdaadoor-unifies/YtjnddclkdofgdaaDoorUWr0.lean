/- The program: what a place was made is written behind other nodes: what holds on the way. -/
import Derived.Test.YtjnddclkdofgdaaDoorUSz0M
namespace Go.Proofs.YtjnddclkdofgdaaDoor
open Go.RowKit Go.Shelf Go.WideMaps
set_option maxRecDepth 100000

/-- A node is put behind a row of nodes; where the row lies then. -/
theorem run_append_nd (w : World) (ty : TypeId) (base : Nat) (v : Value) (l : List Nd) (hown : w.ownsRow base 27 2 v l.length (nodeCells l)) (hv : v.ownBlock ≠ none) (hn : l.length ≤ 1000000) (hbase : base ≤ w.heap.size) (g c : Nat) (nd : Nd) (hu : w.cell? ⟨g, 0, none⟩ = some (.string nd.1)) (hu1 : w.cell? ⟨g, 1, none⟩ = some (.int .i64 nd.2)) :
    ∃ v' w', (Builtin.append_ #[28, 28] ty #[v, .slice (some ⟨g, 0, none⟩) 1 c]).run Tryd.prog w = .ok v' w' ∧ w'.ownsRow base 27 2 v' (l.length + 1) (nodeCells (l ++ [nd])) ∧ w.grownBy w' v.ownBlock ∧ (v'.ownBlock = v.ownBlock ∨ v'.ownBlock = some w.heap.size) := by
  obtain ⟨i, hi, hz, hss, hy⟩ := info_parts infoNode
  have hnews : ∀ (j : Nat) (u' : Value), [Value.string nd.1, Value.int .i64 nd.2][j]? = some u' → w.cell? ((⟨g, 0, none⟩ : Addr).add j) = some u' := by
    intro j u' hj
    have hj0 := (List.getElem?_eq_some_iff.1 hj).1
    simp at hj0
    match j, hj0, hj with
    | 0, _, hj => simp at hj; subst hj; exact hu
    | 1, _, hj => simp at hj; subst hj; exact hu1
  have h1c : ∀ x ∈ [Value.string nd.1, Value.int .i64 nd.2], x.oneCell' = true := by intro x hx; simp at hx; rcases hx with rfl | rfl <;> rfl
  obtain ⟨v', w', hr, h1, h2, _⟩ := run_append_own (P := Tryd.prog) w base 28 ty 27 i (.agg #[.string ⟨#[]⟩, .int .i64 0]) 2 24 Tryd.underlying28 hi hz hss hy rfl (by decide) v l.length (nodeCells l) hown ⟨g, 0, none⟩ 1 c [.string nd.1, .int .i64 nd.2] rfl hnews h1c (by unfold maxLen; omega) (by omega) hbase
  exact ⟨v', w', hr, by rw [nodeCells_snoc]; exact h1, h2, append_where w base 28 ty 27 i (.agg #[.string ⟨#[]⟩, .int .i64 0]) 2 24 Tryd.underlying28 hi hz hss hy (by decide) v l.length (nodeCells l) hown hv ⟨g, 0, none⟩ 1 c [.string nd.1, .int .i64 nd.2] rfl hnews h1c (by unfold maxLen; omega) (by omega) hr⟩
theorem step_append_nd {ops : Array Oper} {o : Oper} {a : Act} {w : World} {K : Act → World → Prop} {Q : Exit → Act → World → Prop} {E : Prop} (hgd : o.guard = none) (s x : Operand)
    (ho : o.op = .call { callee := .builtin .append, args := #[s, x], argTypes := #[28, 28] }) (base : Nat) (v : Value) (l : List Nd) (hs : a.eval s = v) (hown : w.ownsRow base 27 2 v l.length (nodeCells l)) (hv : v.ownBlock ≠ none) (hn : l.length ≤ 1000000) (hbase : base ≤ w.heap.size)
    (g c : Nat) (nd : Nd) (hx : a.eval x = .slice (some ⟨g, 0, none⟩) 1 c) (hu : w.cell? ⟨g, 0, none⟩ = some (.string nd.1)) (hu1 : w.cell? ⟨g, 1, none⟩ = some (.int .i64 nd.2))
    (h : ∀ v' w', w'.ownsRow base 27 2 v' (l.length + 1) (nodeCells (l ++ [nd])) → w.grownBy w' v.ownBlock → (v'.ownBlock = v.ownBlock ∨ v'.ownBlock = some w.heap.size) → K (a.put o.dst v') w') :
    if Region.wanted o (yielded ops a.tmps) = true then Oper.wp Tryd.prog o a w K Q else E := by
  have hw : Region.wanted o (yielded ops a.tmps) = true := by simp [Region.wanted, hgd]
  rw [if_pos hw]
  obtain ⟨v', w', hr, h1, h2, h3⟩ := run_append_nd w o.type base v l hown hv hn hbase g c nd hu hu1
  unfold Oper.wp execOp
  simp only [ho, resolve, invoke, builtin, Sem.run_bind, Sem.run_pure, Result.andThen_ok, List.map_toArray, List.map_cons, List.map_nil, hs, hx, hr]
  exact h v' w' h1 h2 h3
/-- A row of the call's own, that may have come to lie elsewhere. -/
def Moved (w : World) (v v' : Value) : Prop := v'.ownBlock = v.ownBlock ∨ ∃ g, v'.ownBlock = some g ∧ w.heap.size ≤ g
theorem Moved.refl (w : World) (v : Value) : Moved w v v := Or.inl rfl
theorem Moved.trans {w w1 : World} {v v1 v2 : Value} (h : Moved w v v1) (k : Moved w1 v1 v2) (hs : w.heap.size ≤ w1.heap.size) : Moved w v v2 := by
  rcases k with k | ⟨g, k, hg⟩
  · rcases h with h | ⟨g, h, hg⟩
    · exact Or.inl (k.trans h)
    · exact Or.inr ⟨g, k.trans h, hg⟩
  · exact Or.inr ⟨g, k, by omega⟩
theorem grown_moved {w W W' : World} {v v1 : Value} (h : w.grownBy W v.ownBlock) (hm : Moved w v v1) (hg : W.grownBy W' v1.ownBlock) : w.grownBy W' v.ownBlock :=
  ⟨hg.os.trans h.os, hg.tape.trans h.tape, hg.output.trans h.output, Nat.le_trans h.size hg.size, fun k hk ho => by
    rw [hg.block k (Nat.lt_of_lt_of_le hk h.size) (fun e => by
      rcases hm with hm | ⟨g, hm, hgg⟩
      · exact ho (e.trans hm)
      · rw [hm] at e; simp at e; omega), h.block k hk ho]⟩
/-- What write answers. -/
structure WRes (w : World) (B tb : Nat) (vn ve vl vs vm : Value) (L : List Nd) (F : List Nat) (S : List Int) (B1 : Nat) (v : Value) (out : List Nd) (v' : Value) (w' : World) : Prop where
  tm : TmIn w' B tb vn ve vl vs vm L F S
  row : w'.ownsRow B1 27 2 v' out.length (nodeCells out)
  some : v'.ownBlock ≠ none
  far : w.grownBy w' v.ownBlock
  moved : Moved w v v'
/-- The parts are written one behind the other. -/
structure WLoop (w : World) (B tb : Nat) (vn ve vl vs vm : Value) (L : List Nd) (F : List Nat) (S : List Int) (B1 : Nat) (v : Value) (out : List Nd) (ex : Nat → List Nd) (nb N0 : Nat) (pre : List Nat) (W : World) : Prop where
  big : N0 ≤ W.heap.size
  tm : TmIn W B tb vn ve vl vs vm L F S
  st : ∃ v', W.cell? ⟨nb, 0, none⟩ = some v' ∧ W.ownsRow B1 27 2 v' (out ++ (pre.map ex).flatten).length (nodeCells (out ++ (pre.map ex).flatten)) ∧ v'.ownBlock ≠ none ∧ Moved w v v' ∧ v'.ownBlock ≠ some nb ∧ v'.ownBlock ≠ some w.heap.size ∧ (∀ k, N0 ≤ k + 2 → k < N0 → v'.ownBlock ≠ some k)
  nf : W.frozen? ⟨nb, 0, none⟩ = false
  far : w.grownBy W v.ownBlock
  x0 : W.cell? ⟨w.heap.size, 0, none⟩ = some (.pointer (some ⟨tb, 0, none⟩))
theorem own_others {w w' : World} {B : Nat} {e : TypeId} {size : Nat} {v : Value} {n : Nat} {xs : List Value} {o : Option Nat} (h : w.ownsRow B e size v n xs) (hg : w.grownBy w' o) (ho : ∀ r, o = some r → ∃ x : Obj, w.heap[r]? = some x ∧ x.isCells = false) : w'.ownsRow B e size v n xs := own_grown h hg (own_not h ho)
theorem WLoop.own {w : World} {B tb : Nat} {vn ve vl vs vm : Value} {L : List Nd} {F : List Nat} {S : List Int} {B1 : Nat} {v : Value} {out : List Nd} {ex : Nat → List Nd} {nb N0 N : Nat} {C : List Nat} (hN : w.heap.size ≤ N) : OwnFrom N (fun (pre : List (PartOf C)) W => WLoop w B tb vn ve vl vs vm L F S B1 v out ex nb N0 (pre.map fun x => x.1) W) := by
  intro pre W W' row h hg hr
  have hr' : ∀ r, row = some r → ∃ o : Obj, W.heap[r]? = some o ∧ o.isCells = false := fun r e => (hr r e).2
  obtain ⟨v', h1, h2, h3⟩ := h.st
  exact ⟨Nat.le_trans h.big hg.size, h.tm.others hg hr', ⟨v', cell_kept h1 hg hr', own_others h2 hg hr', h3⟩, (frozen_kept h1 hg hr').trans h.nf, grown_from h.far hg (fun r e => by have := (hr r e).1; omega), cell_kept h.x0 hg hr'⟩

/-- What is written of each of some places. -/
theorem exp_each {G : Gr} {R : Nat → Nat → Prop} {rep : Nat → Nat} (hR : Down G R) (hN : NoClash G R) (hA : G.Arity) (hrep : ∀ i j, R i j → rep i = rep j) {x : List Nat} {l : List Nd} (h : Exp G R rep x l) : ∃ ex : Nat → List Nd, (∀ i ∈ x, Exp G R rep [i] (ex i)) ∧ (∀ i ∈ x, (ex i).length ≤ l.length) ∧ (x.map ex).flatten = l := by
  induction x generalizing l with
  | nil => cases h; exact ⟨fun _ => [], by simp, by simp, rfl⟩
  | cons i r ih =>
    obtain ⟨l1, l2, rfl, h1, h2⟩ := h.split [i] r rfl
    obtain ⟨ex, e1, e2, e3⟩ := ih h2
    have key : ∀ j ∈ r, j = i → ex j = l1 := by
      rintro j hj rfl
      exact (e1 j hj).one hR hN hA hrep _ h1
    refine ⟨fun j => if j = i then l1 else ex j, ?_, ?_, ?_⟩
    · intro j hj
      by_cases e : j = i
      · subst e; simpa using h1
      · rcases List.mem_cons.1 hj with hj | hj
        · exact absurd hj e
        · simpa [e] using e1 j hj
    · intro j hj
      by_cases e : j = i
      · subst e; simp
      · rcases List.mem_cons.1 hj with hj | hj
        · exact absurd hj e
        · have := e2 j hj
          simp [e]; omega
    · rw [List.map_cons, List.flatten_cons, if_pos rfl, ← e3]
      congr 2
      apply List.map_congr_left
      intro j hj
      by_cases e : j = i
      · rw [if_pos e, key j hj e]
      · rw [if_neg e]

end Go.Proofs.YtjnddclkdofgdaaDoor
