/- The document: a term is put into its table. -/
import Derived.Test.YtjnddclkdofgdaaDoorTPut0M
import Derived.Test.YtjnddclkdofgdaaDoorUWr
import Derived.Test.YtjnddclkdofgdaaDoorCaps
namespace Go.Proofs.YtjnddclkdofgdaaDoor
open Go.RowKit Go.Shelf Go.WideMaps
set_option maxRecDepth 100000

theorem run_append_row (w : World) (ty : TypeId) (base : Nat) (v : Value) (P : Tb) (hown : w.ownsRow base 108 4 v P.length (rowCells P)) (hn : P.length ≤ 1000000) (hbase : base ≤ w.heap.size) (g c : Nat) (nd : Nd) (k : Nat)
    (u0 : w.cell? ⟨g, 0, none⟩ = some (.string nd.1)) (u1 : w.cell? ⟨g, 1, none⟩ = some (.int .i64 nd.2)) (u2 : w.cell? ⟨g, 2, none⟩ = some (.slice none 0 0)) (u3 : w.cell? ⟨g, 3, none⟩ = some (.int .i64 k)) :
    ∃ v' w', (Builtin.append_ #[80, 80] ty #[v, .slice (some ⟨g, 0, none⟩) 1 c]).run Tryd.prog w = .ok v' w' ∧ w'.ownsRow base 108 4 v' (P.length + 1) (rowCells P ++ [.string nd.1, .int .i64 nd.2, .slice none 0 0, .int .i64 k]) ∧ w.grownBy w' v.ownBlock ∧ Moved w v v' := by
  obtain ⟨i, hi, hz, hss, hy⟩ := info_parts infoRow
  have hnews : ∀ (j : Nat) (u' : Value), [Value.string nd.1, Value.int .i64 nd.2, Value.slice none 0 0, Value.int .i64 k][j]? = some u' → w.cell? ((⟨g, 0, none⟩ : Addr).add j) = some u' := by
    intro j u' hj
    have hj0 := (List.getElem?_eq_some_iff.1 hj).1
    simp at hj0
    match j, hj0, hj with
    | 0, _, hj => simp at hj; subst hj; exact u0
    | 1, _, hj => simp at hj; subst hj; exact u1
    | 2, _, hj => simp at hj; subst hj; exact u2
    | 3, _, hj => simp at hj; subst hj; exact u3
  have h1c : ∀ x ∈ [Value.string nd.1, Value.int .i64 nd.2, Value.slice none 0 0, Value.int .i64 k], x.oneCell' = true := by intro x hx; simp at hx; rcases hx with rfl | rfl | rfl | rfl <;> rfl
  by_cases hv : v.ownBlock = none
  · have hnil : v = .slice none 0 0 ∧ P.length = 0 := by
      obtain ⟨_, h | ⟨g, cap, cur, rfl, _⟩⟩ := hown
      · exact h
      · simp [Value.ownBlock] at hv
    obtain ⟨v', w', hr, h1, h2, h3⟩ := run_append_own (P := Tryd.prog) w w.heap.size 80 ty 108 i _ 4 56 Tryd.underlying80 hi hz hss hy rfl (by decide) v P.length (rowCells P) (by rw [hnil.1, hnil.2]; have : rowCells P = [] := (by rw [List.eq_nil_of_length_eq_zero hnil.2]; rfl); rw [this]; exact World.ownsRow_nil _ _ _ _) ⟨g, 0, none⟩ 1 c [.string nd.1, .int .i64 nd.2, .slice none 0 0, .int .i64 k] rfl hnews h1c (by unfold maxLen; omega) (by omega) (Nat.le_refl _)
    refine ⟨v', w', hr, own_mono h1 hbase, h2, ?_⟩
    cases hb : v'.ownBlock with
    | none => exact Or.inl (by rw [hb, hv])
    | some g' => exact Or.inr ⟨g', hb, (own_lt h1 g' hb).1⟩
  · obtain ⟨v', w', hr, h1, h2, _⟩ := run_append_own (P := Tryd.prog) w base 80 ty 108 i _ 4 56 Tryd.underlying80 hi hz hss hy rfl (by decide) v P.length (rowCells P) hown ⟨g, 0, none⟩ 1 c [.string nd.1, .int .i64 nd.2, .slice none 0 0, .int .i64 k] rfl hnews h1c (by unfold maxLen; omega) (by omega) hbase
    refine ⟨v', w', hr, h1, h2, ?_⟩
    rcases append_where w base 80 ty 108 i _ 4 56 Tryd.underlying80 hi hz hss hy (by decide) v P.length (rowCells P) hown hv ⟨g, 0, none⟩ 1 c [.string nd.1, .int .i64 nd.2, .slice none 0 0, .int .i64 k] rfl hnews h1c (by unfold maxLen; omega) (by omega) hr with e | e
    · exact Or.inl e
    · exact Or.inr ⟨_, e, Nat.le_refl _⟩
theorem step_append_row {ops : Array Oper} {o : Oper} {a : Act} {w : World} {K : Act → World → Prop} {Q : Exit → Act → World → Prop} {E : Prop} (hgd : o.guard = none) (s x : Operand)
    (ho : o.op = .call { callee := .builtin .append, args := #[s, x], argTypes := #[80, 80] }) (base : Nat) (v : Value) (P : Tb) (hs : a.eval s = v) (hown : w.ownsRow base 108 4 v P.length (rowCells P)) (hn : P.length ≤ 1000000) (hbase : base ≤ w.heap.size)
    (g c : Nat) (nd : Nd) (k : Nat) (hx : a.eval x = .slice (some ⟨g, 0, none⟩) 1 c) (u0 : w.cell? ⟨g, 0, none⟩ = some (.string nd.1)) (u1 : w.cell? ⟨g, 1, none⟩ = some (.int .i64 nd.2)) (u2 : w.cell? ⟨g, 2, none⟩ = some (.slice none 0 0)) (u3 : w.cell? ⟨g, 3, none⟩ = some (.int .i64 k))
    (h : ∀ v' w', w'.ownsRow base 108 4 v' (P.length + 1) (rowCells P ++ [.string nd.1, .int .i64 nd.2, .slice none 0 0, .int .i64 k]) → w.grownBy w' v.ownBlock → Moved w v v' → K (a.put o.dst v') w') :
    if Region.wanted o (yielded ops a.tmps) = true then Oper.wp Tryd.prog o a w K Q else E := by
  have hw : Region.wanted o (yielded ops a.tmps) = true := by simp [Region.wanted, hgd]
  rw [if_pos hw]
  obtain ⟨v', w', hr, h1, h2, h3⟩ := run_append_row w o.type base v P hown hn hbase g c nd k u0 u1 u2 u3
  unfold Oper.wp execOp
  simp only [ho, resolve, invoke, builtin, Sem.run_bind, Sem.run_pure, Result.andThen_ok, List.map_toArray, List.map_cons, List.map_nil, hs, hx, hr]
  exact h v' w' h1 h2 h3
theorem own_shape3 {w : World} {B : Nat} {e : TypeId} {size : Nat} {v : Value} {n : Nat} {xs : List Value} (h : w.ownsRow B e size v n xs) : ∃ a m c, v = .slice a m c := by
  obtain ⟨a, c, e⟩ := own_shape h
  exact ⟨a, _, c, e⟩
theorem PFar.alloc {w w' : World} {tp : Nat} {v : Value} (h : PFar w w' tp v) (o : Obj) : PFar w (w'.alloc o) tp v :=
  ⟨h.os, h.tape, h.output, Nat.le_trans h.size (by simp), fun k h1 h2 h3 => by rw [heap_alloc_old _ _ (Nat.lt_of_lt_of_le h1 h.size), h.block k h1 h2 h3]⟩

/-- A variable that has a row. -/
theorem putR_old {w W : World} {B tp : Nat} {v : Value} {P : Tb} {up : Int} {nd : Nd} {r : List Nd} {k : Nat} (hb : Below w.heap.size w W) (htab : TabP w B tp v P) (hk : k < P.length) (hn : P[k].1.node = shN up nd) (hv : varB nd = true) : PutR w B tp v P up (nd :: r) k r W v P :=
  ⟨htab.below hb, Put.old hv ⟨P[k].1, by rw [List.getElem?_map, List.getElem?_eq_getElem hk]; rfl, hn⟩ (Put.nil _ _), PFar.below hb, Moved.refl _ _, fun p hp => Or.inl ⟨p, hp, rfl⟩, by simp⟩
structure RowR (w : World) (B tp bx : Nat) (v v3 : Value) (P : Tb) (nd : Nd) (w4 : World) : Prop where
  tab : TabP w4 B tp v3 (P ++ [(⟨nd, P.length, []⟩, .slice none 0 0)])
  far : PFar w w4 tp v
  moved : Moved w v v3
  b0 : w4.cell? ⟨bx, 0, none⟩ = some (.string nd.1)
  b1 : w4.cell? ⟨bx, 1, none⟩ = some (.int .i64 nd.2)
  blt : bx < w4.heap.size
  vne : v3.ownBlock ≠ some bx
  tne : bx ≠ tp
/-- A row is put behind the others. -/
theorem put_row {w W w3 : World} {B tp bx : Nat} {v v3 : Value} {P : Tb} {nd : Nd} {X : Obj} (hb : Below w.heap.size w W) (htab : TabP w B tp v P) (hbx : w.heap.size ≤ bx) (k0 : W.cell? ⟨bx, 0, none⟩ = some (.string nd.1)) (k1 : W.cell? ⟨bx, 1, none⟩ = some (.int .i64 nd.2))
    (hg : (W.drew.alloc X).grownBy w3 v.ownBlock) (ho : w3.ownsRow B 108 4 v3 (P.length + 1) (rowCells P ++ [.string nd.1, .int .i64 nd.2, .slice none 0 0, .int .i64 P.length])) (hm : Moved (W.drew.alloc X) v v3) :
    RowR w B tp bx v v3 P nd (w3.setCell ⟨tp, 0, none⟩ v3) ∧ w3.cell? ⟨tp, 0, none⟩ = some v ∧ w3.frozen? ⟨tp, 0, none⟩ = false := by
  have hb2 : Below W.heap.size W (W.drew.alloc X) := (below_drawn (w1 := W.drew) ⟨1, rfl⟩).alloc (Nat.le_refl _) X
  have hbA : Below w.heap.size w (W.drew.alloc X) := hb.trans (hb2.mono hb.size)
  have ht := htab.below hbA
  have htp : tp < w.heap.size := (Array.getElem?_eq_some_iff.1 htab.box).1
  obtain ⟨g1, g2⟩ := ht.grow hg ho
  have hvb : v.ownBlock ≠ some bx := fun e => by have := (own_lt htab.row bx e).2; omega
  have j0 := Below.at' hb2 (Nat.le_refl _) k0
  have j1 := Below.at' hb2 (Nat.le_refl _) k1
  have hbl : bx < W.heap.size := World.block_lt_of_cell? _ _ k0
  have hsz := hg.size
  have hsA : (W.drew.alloc X).heap.size = W.heap.size + 1 := by simp
  refine ⟨⟨g1, (PFar.below hbA).trans (Moved.refl _ _) g2, ?_, ?_, ?_, ?_, ?_, by omega⟩, ?_, ?_⟩
  · rcases hm with e | ⟨g, e, hgg⟩
    · exact Or.inl e
    · exact Or.inr ⟨g, e, Nat.le_trans hbA.size hgg⟩
  · exact cell_set_other (hg.cell j0 (fun e => hvb e.symm)) (by simp; omega)
  · exact cell_set_other (hg.cell j1 (fun e => hvb e.symm)) (by simp; omega)
  · simp [World.setCell]; omega
  · intro e
    rcases hm with e' | ⟨g, e', hgg⟩
    · exact hvb (by rw [← e', e])
    · rw [e] at e'; simp at e'; omega
  · exact hg.cell ht.cell (fun e => ht.ne e.symm)
  · rw [World.frozen?_of_block (hg.block tp (Array.getElem?_eq_some_iff.1 ht.box).1 (fun e => ht.ne e.symm))]; exact ht.soft
/-- A variable that gets a row. -/
theorem putR_new {w w4 : World} {B tp bx : Nat} {v v3 : Value} {P : Tb} {up : Int} {nd : Nd} {r : List Nd} (h : RowR w B tp bx v v3 P (shN up nd) w4) (hv : varB nd = true) (hno : ∀ j (hj : j < P.length), P[j].1.node ≠ shN up nd) : PutR w B tp v P up (nd :: r) P.length r w4 v3 (P ++ [(⟨shN up nd, P.length, []⟩, .slice none 0 0)]) := by
  have hl : (P.map Prod.fst).length = P.length := by simp
  have hp := Put.new (R := P.map Prod.fst) (s := r) (k := 0) hv (fun x hx => by
    obtain ⟨p, hp, rfl⟩ := List.mem_map.1 hx
    obtain ⟨j, hj, rfl⟩ := List.getElem_of_mem hp
    exact hno j hj) (Put.nil _ _)
  rw [hl] at hp
  refine ⟨h.tab, by rw [List.map_append]; exact hp, h.far, h.moved, fun p hp => ?_, by simp; omega⟩
  rcases List.mem_append.1 hp with hp | hp
  · exact Or.inl ⟨p, hp, rfl⟩
  · simp at hp
    subst hp
    exact Or.inr (Or.inl rfl)

/-- A number is put behind a row of numbers, nil or not. -/
theorem run_append_num (w : World) (ty : TypeId) (base : Nat) (v : Value) (n : Nat) (xs : List Value) (hown : w.ownsRow base 3 1 v n xs) (hn : n ≤ 1000000) (hbase : base ≤ w.heap.size) (g c : Nat) (u : Int) (hu : w.cell? ⟨g, 0, none⟩ = some (.int .i64 u)) :
    ∃ v' w', (Builtin.append_ #[34, 34] ty #[v, .slice (some ⟨g, 0, none⟩) 1 c]).run Tryd.prog w = .ok v' w' ∧ w'.ownsRow base 3 1 v' (n + 1) (xs ++ [.int .i64 u]) ∧ w.grownBy w' v.ownBlock ∧ Moved w v v' := by
  by_cases hv : v.ownBlock = none
  · obtain ⟨i, hi, hz, hs, hy⟩ := info_parts infoInt
    have hnil : v = .slice none 0 0 ∧ n = 0 := by
      obtain ⟨_, h | ⟨g, cap, cur, rfl, _⟩⟩ := hown
      · exact h
      · simp [Value.ownBlock] at hv
    obtain ⟨rfl, rfl⟩ := hnil
    have hxs : xs = [] := List.eq_nil_of_length_eq_zero (by have := hown.1; simpa using this)
    subst hxs
    have hnews : ∀ (j : Nat) (u' : Value), [Value.int .i64 u][j]? = some u' → w.cell? ((⟨g, 0, none⟩ : Addr).add j) = some u' := by
      intro j u' hj
      have hj0 : j = 0 := by
        have := (List.getElem?_eq_some_iff.1 hj).1
        simp at this
        exact this
      subst hj0
      simp at hj
      subst hj
      exact hu
    obtain ⟨v', w', hr, h1, h2, h3⟩ := run_append_own (P := Tryd.prog) w w.heap.size 34 ty 3 i (.int .i64 0) 1 8 Tryd.underlying34 hi hz hs hy rfl (by decide) (.slice none 0 0) 0 [] (World.ownsRow_nil _ _ _ _) ⟨g, 0, none⟩ 1 c [.int .i64 u] rfl hnews (one1 u) (by unfold maxLen; omega) (by omega) (Nat.le_refl _)
    refine ⟨v', w', hr, own_mono h1 hbase, h2, ?_⟩
    cases hb : v'.ownBlock with
    | none => exact Or.inl (by rw [hb, hv])
    | some g' => exact Or.inr ⟨g', hb, (own_lt h1 g' hb).1⟩
  · obtain ⟨v', w', h1, h2, h3, h4⟩ := run_append_int w ty base v n xs hown hv hn hbase g c u hu
    refine ⟨v', w', h1, h2, h3, ?_⟩
    rcases h4 with e | e
    · exact Or.inl e
    · exact Or.inr ⟨_, e, Nat.le_refl _⟩
theorem wpList_append_num {ops : Array Oper} {rest : List Oper} {o : Oper} {a : Act} {w : World} {Q : Exit → Act → World → Prop} (hgd : o.guard = none) (s x : Operand) (ho : o.op = .call { callee := .builtin .append, args := #[s, x], argTypes := #[34, 34] })
    (base : Nat) (v : Value) (n : Nat) (xs : List Value) (hs : a.eval s = v) (hown : w.ownsRow base 3 1 v n xs) (hn : n ≤ 1000000) (hbase : base ≤ w.heap.size) (g c : Nat) (u : Int) (hx : a.eval x = .slice (some ⟨g, 0, none⟩) 1 c) (hu : w.cell? ⟨g, 0, none⟩ = some (.int .i64 u))
    (h : ∀ v' w', w'.ownsRow base 3 1 v' (n + 1) (xs ++ [.int .i64 u]) → w.grownBy w' v.ownBlock → Moved w v v' → wpList Tryd.prog ops Q rest (a.put o.dst v') w') : wpList Tryd.prog ops Q (o :: rest) a w := by
  refine wpList_plain hgd fun K hK' => ?_
  obtain ⟨v', w', hr, h1, h2, h3⟩ := run_append_num w o.type base v n xs hown hn hbase g c u hu
  unfold Oper.wp execOp
  simp only [ho, resolve, invoke, builtin, Sem.run_bind, Sem.run_pure, Result.andThen_ok, List.map_toArray, List.map_cons, List.map_nil, hs, hx, hr]
  exact hK' _ _ (h v' w' h1 h2 h3)
/-- A name and its parts. -/
theorem putR_name {w w4 wr : World} {B tp bx g cap : Nat} {v v3 pv : Value} {P P' : Tb} {up : Int} {nd : Nd} {r r' : List Nd} {ps : List Nat} (h : RowR w B tp bx v v3 P nd w4) (hv : varB nd = false) (hl : PLoop w4 B tp v3 (P ++ [(⟨nd, P.length, []⟩, .slice none 0 0)]) up r (wants nd) r' pv ps wr (.slice (some ⟨g, 0, none⟩) P'.length cap) P') (hk : P.length < P'.length) :
    PutR w B tp v P up (nd :: r) P.length r' (wr.setCell ⟨g, P.length * 4 + 2, none⟩ pv) (.slice (some ⟨g, 0, none⟩) P'.length cap) (P'.set P.length ({ P'[P.length].1 with parts := ps }, pv)) := by
  have hln : (P.map Prod.fst).length = P.length := by simp
  have hws := h.far.size
  have hown : wr.ownsRow B 3 1 pv ps.length (natC ps) := own_mono hl.own (Nat.le_trans (by have := h.tab.high; have := (Array.getElem?_eq_some_iff.1 h.tab.box).1; omega) (Nat.le_refl _))
  have hp1 := hl.put
  rw [List.map_append] at hp1
  have hp := Put.name (R := P.map Prod.fst) (n := nd) (k := 0) (s := r) (s1 := r') hv (by rw [hln]; exact hp1) (Put.nil _ _)
  rw [hln] at hp
  refine ⟨hl.tab.setParts _ hk ps pv hown, by rw [map_setParts _ _ hk]; exact hp, (h.far.trans h.moved hl.far).setV (h.moved.trans hl.moved hws) rfl, h.moved.trans hl.moved hws, fun p hpm => ?_, ?_⟩
  · rcases List.mem_or_eq_of_mem_set hpm with hpm | rfl
    · rcases hl.old p hpm with ⟨q, hq, e⟩ | e | ⟨g', e, hgg⟩
      · rcases List.mem_append.1 hq with hq | hq
        · exact Or.inl ⟨q, hq, e⟩
        · simp at hq
          subst hq
          rw [e]
          exact Or.inr (Or.inl rfl)
      · exact Or.inr (Or.inl e)
      · exact Or.inr (Or.inr ⟨g', e, by omega⟩)
    · right
      cases hb : pv.ownBlock with
      | none => exact Or.inl rfl
      | some g' => exact Or.inr ⟨g', rfl, by have := (own_lt hl.own g' hb).1; omega⟩
  · have := hl.len
    simp at this ⊢
    omega

theorem PFar.cell {w w' : World} {tp : Nat} {v u : Value} {p : Addr} (h : PFar w w' tp v) (hc : w.cell? p = some u) (h1 : p.block ≠ tp) (h2 : v.ownBlock ≠ some p.block) : w'.cell? p = some u := by
  have hb := h.block p.block (World.block_lt_of_cell? w p hc) h1 h2
  rw [← hc]
  unfold World.cell?
  rw [hb]
theorem Put.ps_len {up : Int} {R : List Rw} {k : Nat} {s : List Nd} {R' : List Rw} {ps : List Nat} {s' : List Nd} (h : Put up R k s R' ps s') : ps.length = k := by
  obtain ⟨g, hg⟩ := h.inv
  rw [hg.ps, List.length_map, starts_length]
def PutPost (w : World) (B tp : Nat) (v : Value) (P : Tb) (up : Int) (l : List Nd) (i q k i' : Nat) (w' : World) : Prop :=
  i' ≤ l.length ∧ i ≤ i' ∧ termGo (l.drop i') q = true ∧ ∃ (v' : Value) (P' : Tb), PutR w B tp v P up (l.drop i) k (l.drop i') w' v' P'

set_option maxHeartbeats 4000000 in
theorem tput_any (B tp : Nat) (up : Int) (hup : 0 ≤ up ∧ up ≤ 1000) (a : Option Addr) (ca : Nat) (l : List Nd) (hl60 : l.length ≤ 60) (hlow : ∀ p, a = some p → p.block < B) :
    ∀ (n i q : Nat) (v : Value) (P : Tb) (w : World), (l.drop i).length ≤ n → termGo (l.drop i) (q + 1) = true → NodesIn w a l → TabP w B tp v P → P.length + (l.drop i).length ≤ 100000 → B ≤ w.heap.size →
    Calls Tryd.prog 38 #[.pointer (some ⟨tp, 0, none⟩), .slice a l.length ca, .int .i64 i, .int .i64 up] w fun e w' => ∃ k i' : Nat, e = .returned (.tuple #[.int .i64 k, .int .i64 i']) ∧ PutPost w B tp v P up l i q k i' w' := by
  intro n
  induction n with
  | zero =>
    intro i q v P w hn ht
    have := List.eq_nil_of_length_eq_zero (Nat.le_zero.1 hn)
    rw [this] at ht
    simp [termGo] at ht
  | succ n ih =>
    intro i q v P w hn ht hN htab hP hB
    have hi : i < l.length := by
      apply Nat.lt_of_not_le
      intro h
      rw [List.drop_eq_nil_of_le h] at ht
      simp [termGo] at ht
    obtain ⟨b, o, rfl, e1, e2⟩ := hN.cell i hi
    have hd : l.drop i = l[i] :: l.drop (i + 1) := List.drop_eq_getElem_cons hi
    rw [hd, termGo_cons, Bool.and_eq_true] at ht
    obtain ⟨hok, ht⟩ := ht
    have hs := hN.short i hi
    have hii : (i : Int) < (l.length : Int) := by omega
    have hdl : (l.drop i).length = (l.drop (i + 1)).length + 1 := by rw [hd]; rfl
    have HD := hide hd
    have HT := hide ht
    have HOK := hide hok
    have HN := hide hN
    have HTAB := hide htab
    have IH := hide ih
    obtain ⟨va, vc, rfl⟩ := own_shape htab.row
    have hcell := htab.cell
    have htp : tp < w.heap.size := (Array.getElem?_eq_some_iff.1 htab.box).1
    generalize l[i] = nd at *
    obtain ⟨s, x⟩ := nd
    simp only at e1 e2 hs
    clear hd ht hok hN htab ih
    by_cases hv : s.toList.isEmpty = true
    · have hvb : varB (s, x) = true := by simpa [varB] using hv
      have hx : 0 ≤ x ∧ x < 60 := by have := HOK.out; unfold nodeOk at this; rw [if_pos hvb] at this; simpa using this
      obtain ⟨hx0, hx1⟩ := hx
      obtain ⟨hu0, hu1⟩ := hup
      have HV := hide hvb
      clear hvb
      go_enter Tryd.func38, Tryd.ntmps38
      go_wp2
      obtain ⟨y0, y1⟩ := nd2_new w (.string s) (.int .i64 (x + up)) 27
      have hbA : Below w.heap.size w (w.alloc (.cells #[.string s, .int .i64 (x + up)] 27)) := (Below.refl _ _).alloc (Nat.le_refl _) _
      generalize w.alloc (.cells #[.string s, .int .i64 (x + up)] 27) = W1 at *
      have HBA := hide hbA
      clear hbA e1 e2
      have hc0 := HTAB.out.shape
      obtain ⟨va', vc', hve, hsh⟩ := hc0
      simp at hve
      obtain ⟨rfl, rfl⟩ := hve
      have HSH := hide hsh
      clear hsh
      have hcell1 := Below.at' HBA.out (Nat.le_refl _) hcell
      clear hcell
      go_loopw [11] (fun i wr => ∃ k : Nat, k ≤ P.length ∧ i = .int .i64 k ∧ (∀ j (hj : j < k) (hj' : j < P.length), P[j].1.node ≠ (s, x + up)) ∧ ∃ d, wr = W1.drewN d) (fun i _ => P.length - (intOf i).toNat)
      case atStart => exact ⟨0, Nat.zero_le _, rfl, fun j hj => by omega, 0, rfl⟩
      case round =>
        obtain ⟨k, hk, rfl, hno, d, rfl⟩ := hrel
        have HNO := hide hno
        clear hno
        by_cases hlt : k < P.length
        · have hlti : (k : Int) < (P.length : Int) := by omega
          obtain ⟨g, rfl, q1, q2, q3, q4⟩ := HSH.out k hlt
          have f1 := Below.at' HBA.out (Nat.le_refl _) q1
          have f2 := Below.at' HBA.out (Nat.le_refl _) q2
          have hnb := nodeB_eq P[k].1.node (s, x + up)
          have g9 := guard27
          have q9 := eqNode P[k].1.node.1 s P[k].1.node.2 (x + up)
          clear q1 q2 q3 q4
          simp only at hnb
          by_cases he : P[k].1.node = (s, x + up)
          · rw [decide_eq_true he] at hnb
            have HE := hide he
            clear he
            go_wp2
            go_quiet (fail)
            go_wp2
            go_ret2
            refine ⟨k, i + 1, ret_two rfl (by go_num), by omega, by omega, ?_, .slice (some ⟨g, 0, none⟩) P.length vc, P, ?_⟩
            · have := HT.out
              rw [wants_var HV.out] at this
              exact this
            · rw [HD.out]
              exact putR_old (HBA.out.trans ((below_drawn (by first | exact draw2 _ _ _ | exact ⟨_, rfl⟩)).mono HBA.out.size)) HTAB.out hlt HE.out HV.out
          · rw [decide_eq_false he] at hnb
            have HE := hide he
            clear he
            go_wp2
            go_quiet (fail)
            go_wp2
            go_roundw
            case rel =>
              refine ⟨k + 1, by omega, by go_num, fun j hj hj' => ?_, (by first | exact draw2 _ _ _ | exact ⟨_, rfl⟩)⟩
              by_cases hjk : j < k
              · exact HNO.out j hjk hj'
              · have : j = k := by omega
                subst this
                exact HE.out
            case measure => simp [intOf]; omega
        · have hke : k = P.length := by omega
          subst hke
          have hlti : ¬ ((P.length : Int) < (P.length : Int)) := by omega
          have hb2 : Below w.heap.size w (W1.drewN d) := HBA.out.trans ((below_drawn ⟨d, rfl⟩).mono HBA.out.size)
          have y0' : (W1.drewN d).cell? ⟨w.heap.size, 0, none⟩ = some (.string s) := y0
          have y1' : (W1.drewN d).cell? ⟨w.heap.size, 1, none⟩ = some (.int .i64 (x + up)) := y1
          have hc2 : (W1.drewN d).cell? ⟨tp, 0, none⟩ = some (.slice va P.length vc) := hcell1
          have hbs := hb2.size
          have hbl := World.block_lt_of_cell? _ _ y0'
          clear y0 y1 hcell1
          generalize W1.drewN d = W2 at *
          have HB2 := hide hb2
          have hrow : W2.drew.ownsRow B 108 4 (.slice va P.length vc) P.length (rowCells P) := (HTAB.out.below hb2).row
          clear hb2
          have hcX : ∀ X, (W2.alloc X).cell? ⟨tp, 0, none⟩ = some (.slice va P.length vc) := fun X => Below.at' ((Below.refl W2.heap.size W2).alloc (Nat.le_refl _) X) (Nat.le_refl _) hc2
          go_wp2_with fail
          go_region_law (refine step_append_row (by rfl) _ _ (by rfl) B _ P (by rfl) (hrow.alloc _) (by omega) (by simp; omega) W2.heap.size 1 (s, x + up) P.length (by rfl) (by simp) (by simp) (by simp) (by simp) ?_; intro v3 w3 ho3 hg3 hm3; obtain ⟨hR, d3, f3⟩ := put_row (nd := (s, x + up)) HB2.out HTAB.out (Nat.le_refl _) y0' y1' hg3 ho3 hm3; obtain ⟨va3, n3, vc3, rfl⟩ := own_shape3 ho3; have HR := hide hR; clear ho3 hg3 hm3 hR)
          all_goals
            have z0 := HR.out.b0
            have z1 := HR.out.b1
            clear d3 f3 hcX
            generalize w3.setCell ⟨tp, 0, none⟩ (.slice va3 n3 vc3) = w4 at *
            go_wp2
            go_ret2
            refine ⟨P.length, i + 1, ret_two rfl (by go_num), by omega, by omega, ?_, .slice va3 n3 vc3, P ++ [(⟨shN up (s, x), P.length, []⟩, .slice none 0 0)], ?_⟩
            · have := HT.out
              rw [wants_var HV.out] at this
              exact this
            · rw [HD.out]
              exact putR_new (nd := (s, x)) HR.out HV.out (fun j hj => HNO.out j hj hj)
    · have hv' : s.toList.isEmpty = false := by simpa using hv
      have hvb : varB (s, x) = false := by simpa [varB] using hv
      have hx : 0 ≤ x ∧ x ≤ 5 := by have := HOK.out; unfold nodeOk at this; rw [if_neg (by rw [hvb]; simp)] at this; simp at this; exact this.2
      obtain ⟨m, rfl⟩ := Int.eq_ofNat_of_zero_le hx.1
      have hm5 : m ≤ 5 := by omega
      have hw : wants (s, (m : Int)) = m := by simp [wants, hvb]
      rw [hw] at HT
      have HW := hide hw
      have HV := hide hvb
      clear hvb hx hw hv
      go_enter Tryd.func38, Tryd.ntmps38
      go_wp2_with fail
      obtain ⟨y0, y1⟩ := nd2_new w (.string s) (.int .i64 m) 27
      have hbA : Below w.heap.size w (w.alloc (.cells #[.string s, .int .i64 m] 27)) := (Below.refl _ _).alloc (Nat.le_refl _) _
      generalize w.alloc (.cells #[.string s, .int .i64 m] 27) = W2 at *
      have hc2 := Below.at' hbA (Nat.le_refl _) hcell
      have hbs := hbA.size
      have hbl := World.block_lt_of_cell? _ _ y0
      have hrow : W2.drew.ownsRow B 108 4 (.slice va P.length vc) P.length (rowCells P) := (HTAB.out.below hbA).row
      have HB2 := hide hbA
      clear hbA e1 e2 hcell
      have hcX : ∀ X, (W2.alloc X).cell? ⟨tp, 0, none⟩ = some (.slice va P.length vc) := fun X => Below.at' ((Below.refl W2.heap.size W2).alloc (Nat.le_refl _) X) (Nat.le_refl _) hc2
      go_region_law (refine step_append_row (by rfl) _ _ (by rfl) B _ P (by rfl) (hrow.alloc _) (by omega) (by simp; omega) W2.heap.size 1 (s, (m : Int)) P.length (by rfl) (by simp) (by simp) (by simp) (by simp) ?_; intro v3 w3 ho3 hg3 hm3; obtain ⟨hR, d3, f3⟩ := put_row (nd := (s, (m : Int))) HB2.out HTAB.out (Nat.le_refl _) y0 y1 hg3 ho3 hm3; obtain ⟨va3, n3, vc3, rfl⟩ := own_shape3 ho3; have HR := hide hR; clear ho3 hg3 hm3 hR)
      all_goals
        have z0 := HR.out.b0
        clear d3 f3 y0 y1 hc2 hbl hrow hbs hcX
        generalize w3.setCell ⟨tp, 0, none⟩ (.slice va3 n3 vc3) = w4 at *
        go_wp2
        have z1 := HR.out.b1
        have hbx := HR.out.blt
        have hP0 : (P ++ [((⟨(s, (m : Int)), P.length, []⟩ : Rw), Value.slice none 0 0)]).length = P.length + 1 := by simp
        go_loopw [2, 13, 14] (fun at' pv c wr => ∃ (j u : Nat) (ps : List Nat) (v' : Value) (P' : Tb), j ≤ m ∧ c = .int .i64 j ∧ at' = .int .i64 u ∧ i + 1 ≤ u ∧ u ≤ l.length ∧ termGo (l.drop u) (q + (m - j)) = true ∧ PLoop w4 B tp (.slice va3 n3 vc3) (P ++ [(⟨(s, (m : Int)), P.length, []⟩, .slice none 0 0)]) up (l.drop (i + 1)) j (l.drop u) pv ps wr v' P') (fun _ _ c _ => m - (intOf c).toNat)
        case atStart => exact ⟨0, i + 1, [], _, _, Nat.zero_le _, rfl, by go_num, Nat.le_refl _, by omega, HT.out, PLoop.start HR.out.tab⟩
        case round =>
          obtain ⟨j, u, ps, v', P', hj, rfl, rfl, hiu, hul, htu, hL⟩ := hrel
          have hbw : Below B w wr := (HR.out.far.low HTAB.out.high (fun k e => (own_lt HTAB.out.row k e).1) hB).trans (hL.far.low HR.out.tab.high (fun k e => (own_lt HR.out.tab.row k e).1) (Nat.le_trans hB HR.out.far.size))
          have hz1 : wr.cell? ⟨w.heap.size, 1, none⟩ = some (.int .i64 m) := hL.far.cell z1 HR.out.tne HR.out.vne
          have hlen := hL.len
          rw [hP0] at hlen
          have hpsl := hL.put.ps_len
          have hps : ps.length ≤ 1000000 := by omega
          have HL := hide hL
          by_cases hjm : j < m
          · have hjmi : (j : Int) < (m : Int) := by omega
            have htu' : termGo (l.drop u) ((q + (m - j - 1)) + 1) = true := by rw [show q + (m - j - 1) + 1 = q + (m - j) by omega]; exact htu
            have hlu : (l.drop u).length ≤ n := by simp at hdl hn ⊢; omega
            have CP := hide (IH.out u (q + (m - j - 1)) v' P' wr hlu htu' (HN.out.lowB hlow hbw) hL.tab (by omega) (Nat.le_trans hB hbw.size))
            obtain ⟨pa, pn, pc, rfl⟩ := own_shape3 hL.own
            have hw4r := HL.out.far.size
            clear hL htu htu' hpsl hlen hlu
            go_wp2_with (first
              | (at_builtin; refine wpList_append_num rfl (.tmp 89) (.tmp 91) rfl w4.heap.size _ ps.length (natC ps) rfl (HO5.out.alloc _) hps (by simp; omega) w5.heap.size 1 k rfl (by simp) ?_; intro pv6 w6 ho6 hg6 hm6; have HNX := hide ((HL.out.next HPR.out).2 hg6 ho6 hm6); obtain ⟨a6, n6, c6, rfl⟩ := own_shape3 ho6; clear ho6 hg6 hm6)
              | (go_at_call 38; refine (unhide CP).mono ?_; rintro e w5 ⟨k, u', rfl, hu1, hu2, hu3, v5, P5, hpr⟩; have HPR := hide hpr; have HO5 := hide (HL.out.next (X := .map #[] 0) (w6 := w5) (pv6 := .slice none 0 0) hpr).1; have hw5 := hpr.far.size; have HU3 := hide hu3; clear hpr hu3)
              | go_in)
            go_roundw
            case rel => exact ⟨j + 1, u', ps ++ [k], v5, P5, by omega, by go_num, rfl, by omega, hu1, by rw [show q + (m - (j + 1)) = q + (m - j - 1) by omega]; exact HU3.out, HNX.out⟩
            case measure => simp [intOf]; omega
          · have hje : j = m := by omega
            subst hje
            have hlti : ¬ ((j : Int) < (j : Int)) := by omega
            have hk' : P.length < P'.length := by have := hL.put.len; rw [hP0] at this; omega
            have hki : (P.length : Int) < (P'.length : Int) := by omega
            obtain ⟨a', cap', rfl, hsh⟩ := hL.tab.shape
            obtain ⟨g', rfl, q1, q2, q3, q4⟩ := hsh P.length hk'
            have hcl := hL.tab.cell
            have hfr := hL.tab.frozen (P.length * 4 + 2)
            obtain ⟨pa, pn, pc, rfl⟩ := own_shape3 hL.own
            have HTU := hide htu
            have hpl : P'.length ≤ 1000000 := by omega
            clear q1 q2 q4 hsh hL htu hlen hpsl
            go_wp2
            go_ret2
            refine ⟨P.length, u, ret_two rfl rfl, hul, by omega, ?_, .slice (some ⟨g', 0, none⟩) P'.length cap', _, by rw [HD.out]; exact putR_name HR.out HV.out (by rw [HW.out]; exact HL.out) hk'⟩
            have := HTU.out
            simpa using this

end Go.Proofs.YtjnddclkdofgdaaDoor
