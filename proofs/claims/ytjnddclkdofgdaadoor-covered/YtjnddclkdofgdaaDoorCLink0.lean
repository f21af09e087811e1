/- Lists of literals that the matcher makes. -/
import Derived.Test.YtjnddclkdofgdaaDoorCShare2
import Derived.ArgAppend
import Derived.Deep.AppendLies
namespace Go.Proofs.YtjnddclkdofgdaaDoor
open Go.RowKit Go.Shelf
set_option maxRecDepth 100000

/-- The nodes of an atom that lie below. -/
def AtomB (w : World) (B : Nat) (v : Value) (l : List Nd) : Prop := ∃ a cap, v = .slice a l.length cap ∧ l.length ≤ cap ∧ NodesB w B a l
/-- A row of literals that was made since. -/
def RowK (w : World) (B b0 : Nat) (wr : World) (v : Value) (G : List Lt) : Prop := ∃ P : List (Lt × Value), P.map Prod.fst = G ∧ wr.ownsRow b0 30 2 v P.length (litCells P) ∧ ∀ p ∈ P, AtomB w B p.2 p.1.2
theorem RowK.nil (w : World) (B b0 : Nat) (wr : World) : RowK w B b0 wr (.slice none 0 0) [] := ⟨[], rfl, World.ownsRow_nil _ _ _ _, by simp⟩
theorem RowK.below {w wr wx : World} {B b0 : Nat} {v : Value} {G : List Lt} (h : RowK w B b0 wr v G) (k : Below wr.heap.size wr wx) : RowK w B b0 wx v G := by
  obtain ⟨P, h1, h2, h3⟩ := h
  exact ⟨P, h1, own_below h2 k (Nat.le_refl _), h3⟩
theorem RowK.kept {w wr wx : World} {B b0 : Nat} {v : Value} {G : List Lt} {r : Option Nat} (h : RowK w B b0 wr v G) (k : wr.grownBy wx r) (hr : v.ownBlock = none ∨ v.ownBlock ≠ r) : RowK w B b0 wx v G := by
  obtain ⟨P, h1, h2, h3⟩ := h
  exact ⟨P, h1, h2.kept k hr, h3⟩
theorem RowK.lt {w wr : World} {B b0 : Nat} {v : Value} {G : List Lt} (h : RowK w B b0 wr v G) : ∀ k, v.ownBlock = some k → b0 ≤ k ∧ k < wr.heap.size := by
  obtain ⟨P, _, h2, _⟩ := h
  exact own_lt h2
theorem own_stays {w : World} {B B' : Nat} {g n cap : Nat} {xs : List Value} (h : w.ownsRow B' 30 2 (.slice (some ⟨g, 0, none⟩) n cap) n xs) : Stays w B g := by
  obtain ⟨_, ⟨h, _⟩ | ⟨g', cap', cur, hv, hb, hh, _⟩⟩ := h
  · simp at h
  · obtain ⟨rfl, -⟩ : g = g' ∧ cap = cap' := by simpa using hv
    refine Or.inr fun cs T fr hx => ?_
    rw [hh] at hx
    simp at hx
    rw [← hx.2.1]
    exact ⟨by decide, by decide⟩
theorem RowK.lits {w wr : World} {B b0 : Nat} {v : Value} {G : List Lt} (h : RowK w B b0 wr v G) (k : Below w.heap.size w wr) (h8 : G.length ≤ 8) : ∃ a cap, v = .slice a G.length cap ∧ G.length ≤ cap ∧ LitsK wr B a G ∧ ∀ p, a = some p → v.ownBlock = some p.block := by
  obtain ⟨P, rfl, h2, h3⟩ := h
  have h2' := h2
  obtain ⟨_, ⟨rfl, h0⟩ | ⟨g, cap, cur, rfl, hb, hh, hc, hm, hz, ht⟩⟩ := h2
  · exact ⟨none, 0, by simp [h0], by simp [h0], ⟨h8, fun k hk => by simp at hk; omega⟩, by simp⟩
  · refine ⟨some ⟨g, 0, none⟩, cap, by simp, by simpa using hc, ⟨h8, fun j hj => ?_⟩, fun p hp => by simp at hp; subst hp; rfl⟩
    have hj' : j < P.length := by simpa using hj
    obtain ⟨aa, ac, e1, e2, e3⟩ := h3 P[j] (List.getElem_mem _)
    refine ⟨g, 0, aa, ac, rfl, own_stays h2', ?_, ?_, ?_, ?_⟩
    · rw [Nat.zero_add, h2'.cellAt (j * 2) (by omega), (litCells_at P j hj').1]; simp
    · rw [Nat.zero_add, h2'.cellAt (j * 2 + 1) (by omega), (litCells_at P j hj').2, e1]; simp
    · simpa using e2
    · have := e3.fr (Fr.of_below k)
      simpa using this
/-- The group: one literal of the list that came in, or a row of its own (gk: the block that an append may write into). -/
def GrpV (w : World) (B b o : Nat) (c0 : Lt) (wr : World) (v : Value) (gk : Option Nat) (G : List Lt) : Prop :=
  (v = .slice (some ⟨b, o, none⟩) 1 1 ∧ G = [c0] ∧ gk = none) ∨ (RowK w B w.heap.size wr v G ∧ gk = v.ownBlock ∧ 0 < G.length)
theorem GrpV.below {w wr wx : World} {B b o : Nat} {c0 : Lt} {v : Value} {gk : Option Nat} {G : List Lt} (h : GrpV w B b o c0 wr v gk G) (k : Below wr.heap.size wr wx) : GrpV w B b o c0 wx v gk G := by
  rcases h with h | ⟨h1, h2⟩
  · exact Or.inl h
  · exact Or.inr ⟨h1.below k, h2⟩
theorem GrpV.kept {w wr wx : World} {B b o : Nat} {c0 : Lt} {v : Value} {gk r : Option Nat} {G : List Lt} (h : GrpV w B b o c0 wr v gk G) (k : wr.grownBy wx r) (hr : ∀ j, r = some j → gk ≠ some j) : GrpV w B b o c0 wx v gk G := by
  rcases h with h | ⟨h1, rfl, h3⟩
  · exact Or.inl h
  · refine Or.inr ⟨h1.kept k ?_, rfl, h3⟩
    cases hv : v.ownBlock with
    | none => exact Or.inl rfl
    | some j =>
      right
      intro e
      exact hr j e.symm hv
theorem GrpV.lt {w wr : World} {B b o : Nat} {c0 : Lt} {v : Value} {gk : Option Nat} {G : List Lt} (h : GrpV w B b o c0 wr v gk G) : ∀ k, gk = some k → w.heap.size ≤ k ∧ k < wr.heap.size := by
  rcases h with ⟨_, _, rfl⟩ | ⟨h1, rfl, _⟩
  · intro k hk; simp at hk
  · exact h1.lt
theorem GrpV.lits {w wr : World} {B b o : Nat} {c : List Lt} {v : Value} {gk : Option Nat} {G : List Lt} (h0 : 0 < c.length) (hC : LitsK w B (some ⟨b, o, none⟩) c) (h : GrpV w B b o c[0] wr v gk G) (k : Below w.heap.size w wr) (h8 : G.length ≤ 8) : ∃ ga go cap, v = .slice (some ⟨ga, go, none⟩) G.length cap ∧ G.length ≤ cap ∧ LitsK wr B (some ⟨ga, go, none⟩) G := by
  rcases h with ⟨rfl, rfl, rfl⟩ | ⟨h1, _, h3⟩
  · refine ⟨b, o, 1, rfl, Nat.le_refl _, ⟨by simp, fun j hj => ?_⟩⟩
    have hj0 : j = 0 := by simpa using hj
    subst hj0
    obtain ⟨b', o', aa, ac, e, hs, h1, h2, h3, h4⟩ := (hC.fr (Fr.of_below k)).cell 0 h0
    obtain ⟨rfl, rfl⟩ : b = b' ∧ o = o' := by simpa using e
    exact ⟨b, o, aa, ac, rfl, hs, h1, h2, h3, h4⟩
  · obtain ⟨a, cap, rfl, h4, h5, _⟩ := h1.lits k h8
    obtain ⟨b', o', _, _, rfl, _⟩ := h5.cell 0 h3
    exact ⟨b', o', cap, rfl, h4, h5⟩
/-- Behind an append to the group. -/
theorem GrpV.more {w w1 : World} {B b o : Nat} {c0 : Lt} {v va : Value} {G : List Lt} {x : Lt} {P : List (Lt × Value)} (hP : P.map Prod.fst = G) (hA : ∀ p ∈ P, AtomB w B p.2 p.1.2) (hx : AtomB w B va x.2)
    (ho' : w1.ownsRow w.heap.size 30 2 v (P.length + 1) (litCells P ++ [.bool x.1, va])) : GrpV w B b o c0 w1 v v.ownBlock (G ++ [x]) := by
  refine Or.inr ⟨⟨P ++ [(x, va)], by simp [hP], by rw [litCells_snoc, List.length_append]; exact ho', fun p hp => ?_⟩, rfl, by simp⟩
  rcases List.mem_append.1 hp with hp | hp
  · exact hA p hp
  · simp at hp; subst hp; exact hx
theorem RowK.more {w w1 : World} {B b0 : Nat} {v va : Value} {G : List Lt} {x : Lt} {P : List (Lt × Value)} (hP : P.map Prod.fst = G) (hA : ∀ p ∈ P, AtomB w B p.2 p.1.2) (hx : AtomB w B va x.2)
    (ho' : w1.ownsRow b0 30 2 v (P.length + 1) (litCells P ++ [.bool x.1, va])) : RowK w B b0 w1 v (G ++ [x]) := by
  refine ⟨P ++ [(x, va)], by simp [hP], by rw [litCells_snoc, List.length_append]; exact ho', fun p hp => ?_⟩
  rcases List.mem_append.1 hp with hp | hp
  · exact hA p hp
  · simp at hp; subst hp; exact hx

/-- The inner loop: what it has put where. -/
structure Inner (w wr : World) (B b o : Nat) (c0 : Lt) (p : Lt → Bool) (gk : Option Nat) (G R : List Lt) (wi : World) (gv av : Value) : Prop where
  grp : ∃ gk', GrpV w B b o c0 wi gv gk' (G ++ R.filter p) ∧ (∀ k, av.ownBlock = some k → gk' ≠ some k) ∧ (gk' = gk ∨ ∃ k, gk' = some k ∧ wr.heap.size ≤ k)
  row : RowK w B wr.heap.size wi av (R.filter fun y => !p y)
  rest : ∀ k, k < wr.heap.size → gk ≠ some k → wi.heap[k]? = wr.heap[k]?
  size : wr.heap.size ≤ wi.heap.size
  low : Below w.heap.size w wi
theorem Inner.below {w wr wi wx : World} {B b o : Nat} {c0 : Lt} {p : Lt → Bool} {gk : Option Nat} {G R : List Lt} {gv av : Value} (h : Inner w wr B b o c0 p gk G R wi gv av) (k : Below wi.heap.size wi wx) : Inner w wr B b o c0 p gk G R wx gv av := by
  obtain ⟨gk', h1, h2, h3⟩ := h.grp
  exact ⟨⟨gk', h1.below k, h2, h3⟩, h.row.below k, fun j hj hg => by rw [k.block j (Nat.lt_of_lt_of_le hj h.size)]; exact h.rest j hj hg, Nat.le_trans h.size k.size, h.low.trans (k.mono h.low.size)⟩
/-- One more goes to the group. -/
theorem Inner.group {w wr wi w1 : World} {B b o g' cap n : Nat} {c0 y : Lt} {p : Lt → Bool} {gk gk' : Option Nat} {G R : List Lt} {gv av : Value} (h : Inner w wr B b o c0 p gk G R wi gv av) (hy : p y = true)
    (h2 : ∀ k, av.ownBlock = some k → gk' ≠ some k) (h3 : gk' = gk ∨ ∃ k, gk' = some k ∧ wr.heap.size ≤ k)
    (hn : GrpV w B b o c0 w1 (.slice (some ⟨g', 0, none⟩) n cap) (some g') (G ++ R.filter p ++ [y])) (hg : wi.grownBy w1 gk') (hat : gk' = some g' ∨ wi.heap.size ≤ g') (hlow : ∀ k, gk' = some k → w.heap.size ≤ k) :
    Inner w wr B b o c0 p gk G (R ++ [y]) w1 (.slice (some ⟨g', 0, none⟩) n cap) av := by
  refine ⟨⟨some g', ?_, fun k hk => ?_, ?_⟩, ?_, fun k hk hgk => ?_, Nat.le_trans h.size hg.size, h.low.grown hg h.low.size fun k e => hlow k e⟩
  · rw [List.filter_append, List.filter_cons_of_pos hy, List.filter_nil, ← List.append_assoc]; exact hn
  · rcases hat with hat | hat
    · rw [← hat]; exact h2 k hk
    · have := (h.row.lt k hk).2
      simp
      omega
  · rcases hat with hat | hat
    · rw [← hat]; exact h3
    · exact Or.inr ⟨g', rfl, Nat.le_trans h.size hat⟩
  · rw [List.filter_append, List.filter_cons_of_neg (by simp [hy]), List.filter_nil, List.append_nil]
    refine h.row.kept hg ?_
    cases hv : av.ownBlock with
    | none => exact Or.inl rfl
    | some k => exact Or.inr (fun e => h2 k hv e.symm)
  · rw [hg.block k (Nat.lt_of_lt_of_le hk h.size) (fun e => ?_)]
    · exact h.rest k hk hgk
    · rcases h3 with h3 | ⟨j, h3, hj⟩
      · exact hgk (by rw [← h3]; exact e.symm)
      · rw [h3] at e; simp at e; omega
/-- One more goes to the rest. -/
theorem Inner.apart {w wr wi w1 : World} {B b o g' cap n : Nat} {c0 y : Lt} {p : Lt → Bool} {gk : Option Nat} {G R : List Lt} {gv av : Value} (h : Inner w wr B b o c0 p gk G R wi gv av) (hy : p y = false)
    (hn : RowK w B wr.heap.size w1 (.slice (some ⟨g', 0, none⟩) n cap) ((R.filter fun y => !p y) ++ [y])) (hg : wi.grownBy w1 av.ownBlock) (hat : av.ownBlock = some g' ∨ g' = wi.heap.size) (hw : w.heap.size ≤ wr.heap.size) :
    Inner w wr B b o c0 p gk G (R ++ [y]) w1 gv (.slice (some ⟨g', 0, none⟩) n cap) := by
  obtain ⟨gk', h1, h2, h3⟩ := h.grp
  refine ⟨⟨gk', ?_, fun k hk => ?_, h3⟩, ?_, fun k hk hgk => ?_, Nat.le_trans h.size hg.size, h.low.grown hg h.low.size fun k e => Nat.le_trans hw (h.row.lt k e).1⟩
  · rw [List.filter_append, List.filter_cons_of_neg (by simp [hy]), List.filter_nil, List.append_nil]
    exact h1.kept hg h2
  · simp [Value.ownBlock] at hk
    subst hk
    rcases hat with hat | hat
    · exact h2 _ hat
    · intro e
      have := (h1.lt _ e).2
      omega
  · rw [List.filter_append, List.filter_cons_of_pos (by simp [hy]), List.filter_nil]
    exact hn
  · rw [hg.block k (Nat.lt_of_lt_of_le hk h.size) (fun e => ?_)]
    · exact h.rest k hk hgk
    · have := (h.row.lt k e.symm).1
      omega
theorem Inner.start {w wr : World} {B b o : Nat} {c0 : Lt} {p : Lt → Bool} {gk : Option Nat} {G : List Lt} {gv : Value} (h : GrpV w B b o c0 wr gv gk G) (hb : Below w.heap.size w wr) : Inner w wr B b o c0 p gk G [] wr gv (.slice none 0 0) :=
  ⟨⟨gk, by simpa using h, by simp [Value.ownBlock], Or.inl rfl⟩, RowK.nil _ _ _ _, fun _ _ _ => rfl, Nat.le_refl _, hb⟩
/-- The rest of the literals, while others are put elsewhere. -/
theorem LitsK.move {wr wi : World} {B : Nat} {ra : Option Addr} {R : List Lt} {gk : Option Nat} (h : LitsK wr B ra R) (hr : ∀ k, k < wr.heap.size → gk ≠ some k → wi.heap[k]? = wr.heap[k]?) (hq : ∀ q, ra = some q → gk ≠ some q.block) (hg : ∀ k, gk = some k → B ≤ k) : LitsK wi B ra R := by
  refine ⟨h.few, fun k hk => ?_⟩
  obtain ⟨b, o, aa, cap, e, hs, h1, h2, h3, h4⟩ := h.cell k hk
  have hb := hr b (World.block_lt_of_cell? wr _ h1) (hq _ e)
  refine ⟨b, o, aa, cap, e, ?_, (World.cell?_of_block hb).trans h1, (World.cell?_of_block hb).trans h2, h3, ⟨⟨h4.nodes.few, h4.nodes.short, fun j hj => ?_⟩, h4.low⟩⟩
  · rcases hs with hs | hs
    · exact Or.inl hs
    · exact Or.inr fun cs T fr hx => hs cs T fr (by rw [← hb]; exact hx)
  · obtain ⟨b2, o2, e2, h5, h6⟩ := h4.nodes.cell j hj
    have hl := h4.low _ e2
    have hb2 := hr b2 (World.block_lt_of_cell? wr _ h5) (fun e => by have := hg _ e; simp at hl; omega)
    exact ⟨b2, o2, e2, (World.cell?_of_block hb2).trans h5, (World.cell?_of_block hb2).trans h6⟩
theorem LitsK.tail {w : World} {B b o : Nat} {c : List Lt} (h : LitsK w B (some ⟨b, o, none⟩) c) : LitsK w B (some ⟨b, o + 2, none⟩) c.tail := by
  refine ⟨by have := h.few; simp; omega, fun k hk => ?_⟩
  have hk' : k + 1 < c.length := by simp at hk; omega
  obtain ⟨b', o', aa, cap, e, hs, h1, h2, h3, h4⟩ := h.cell (k + 1) hk'
  obtain ⟨rfl, rfl⟩ : b = b' ∧ o = o' := by simpa using e
  have ht : c.tail[k] = c[k + 1] := by simp
  rw [ht]
  exact ⟨b, o + 2, aa, cap, rfl, hs, by rw [show o + 2 + k * 2 = o + (k + 1) * 2 by omega]; exact h1, by rw [show o + 2 + k * 2 + 1 = o + (k + 1) * 2 + 1 by omega]; exact h2, h3, h4⟩
theorem mem_parts {α : Type} (p : α → Bool) (G R c : List α) (h : ∀ l, l ∈ c ↔ l ∈ G ∨ l ∈ R) : ∀ l, l ∈ c ↔ l ∈ G ++ R.filter p ∨ l ∈ R.filter fun y => !p y := by
  intro l
  rw [h l, List.mem_append, List.mem_filter, List.mem_filter]
  by_cases hp : p l = true
  · simp [hp]
  · simp [hp]
theorem len_parts {α : Type} (p : α → Bool) (R : List α) : (R.filter p).length + (R.filter fun y => !p y).length = R.length := by
  induction R with
  | nil => rfl
  | cons x r ih =>
    by_cases hp : p x = true
    · rw [List.filter_cons_of_pos hp, List.filter_cons_of_neg (by simp [hp])]; simp; omega
    · rw [List.filter_cons_of_neg hp, List.filter_cons_of_pos (by simp [hp])]; simp; omega

end Go.Proofs.YtjnddclkdofgdaaDoor
