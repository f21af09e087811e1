/- The document's table while a term is put: what its memory is. The document: what a row was made is written behind other nodes. -/
import Derived.Test.YtjnddclkdofgdaaDoorULaid
import Derived.Test.YtjnddclkdofgdaaDoorUWr0
namespace Go.Proofs.YtjnddclkdofgdaaDoor
open Go.RowKit Go.Shelf Go.WideMaps
set_option maxRecDepth 100000

theorem infoRow : (Tryd.prog.info? 108).map (fun i => (i.zero, i.size, i.bytes)) = some (some (.agg #[.string ⟨#[]⟩, .int .i64 0, .slice none 0 0, .int .i64 0]), 4, 56) := by kernel_rfl
theorem rowCells_snoc (P : Tb) (x : Rw × Value) : rowCells (P ++ [x]) = rowCells P ++ [.string x.1.node.1, .int .i64 x.1.node.2, x.2, .int .i64 x.1.cls] := by simp [rowCells]
/-- What putting leaves as it was. -/
structure PFar (w w' : World) (tp : Nat) (v : Value) : Prop where
  os : w'.os = w.os
  tape : w'.tape = w.tape
  output : w'.output = w.output
  size : w.heap.size ≤ w'.heap.size
  block : ∀ k, k < w.heap.size → k ≠ tp → v.ownBlock ≠ some k → w'.heap[k]? = w.heap[k]?
theorem PFar.refl (w : World) (tp : Nat) (v : Value) : PFar w w tp v := ⟨rfl, rfl, rfl, Nat.le_refl _, fun _ _ _ _ => rfl⟩
theorem PFar.trans {w w1 w2 : World} {tp : Nat} {v v1 : Value} (h : PFar w w1 tp v) (hm : Moved w v v1) (k : PFar w1 w2 tp v1) : PFar w w2 tp v :=
  ⟨k.os.trans h.os, k.tape.trans h.tape, k.output.trans h.output, Nat.le_trans h.size k.size, fun i h1 h2 h3 => by
    rw [k.block i (Nat.lt_of_lt_of_le h1 h.size) h2 (fun e => by
      rcases hm with hm | ⟨g, hm, hg⟩
      · exact h3 (hm.symm.trans e)
      · rw [hm] at e; simp at e; omega), h.block i h1 h2 h3]⟩
theorem PFar.grown {w w' : World} {tp : Nat} {v : Value} (hg : w.grownBy w' v.ownBlock) : PFar w w' tp v := ⟨hg.os, hg.tape, hg.output, hg.size, fun k h1 _ h3 => hg.block k h1 (fun e => h3 e.symm)⟩
theorem PFar.below {w w' : World} {tp : Nat} {v : Value} (hg : Below w.heap.size w w') : PFar w w' tp v := ⟨hg.os, hg.tape, hg.output, hg.size, fun k h1 _ _ => hg.block k h1⟩
theorem PFar.set {w w' : World} {tp : Nat} {v : Value} (h : PFar w w' tp v) (j : Nat) (x : Value) : PFar w (w'.setCell ⟨tp, j, none⟩ x) tp v := by
  have hg := grown_setCell w' ⟨tp, j, none⟩ x
  exact ⟨hg.os.trans h.os, hg.tape.trans h.tape, hg.output.trans h.output, Nat.le_trans h.size hg.size, fun k h1 h2 h3 => by rw [hg.block k (Nat.lt_of_lt_of_le h1 h.size) (by simpa using h2), h.block k h1 h2 h3]⟩
/-- Blocks of others stay. -/
theorem PFar.own {w w' : World} {tp B : Nat} {v x : Value} {e : TypeId} {size n : Nat} {xs : List Value} (h : PFar w w' tp v) (ho : w.ownsRow B e size x n xs) (h1 : x.ownBlock ≠ some tp) (h2 : x.ownBlock = none ∨ x.ownBlock ≠ v.ownBlock) : w'.ownsRow B e size x n xs := by
  obtain ⟨k1, ⟨rfl, k2⟩ | ⟨g, cap, cur, rfl, hb, hh, hr⟩⟩ := ho
  · exact ⟨k1, Or.inl ⟨rfl, k2⟩⟩
  · refine ⟨k1, Or.inr ⟨g, cap, cur, rfl, hb, ?_, hr⟩⟩
    rw [h.block g (Array.getElem?_eq_some_iff.1 hh).1 ?_ ?_, hh]
    · rintro rfl; exact h1 rfl
    · intro e
      rcases h2 with h2 | h2
      · simp [Value.ownBlock] at h2
      · exact h2 (by rw [e]; rfl)
theorem PFar.low {w w' : World} {tp B : Nat} {v : Value} (h : PFar w w' tp v) (ht : B ≤ tp) (hv : ∀ k, v.ownBlock = some k → B ≤ k) (hB : B ≤ w.heap.size) : Below B w w' :=
  ⟨h.os, h.tape, h.output, h.size, fun k hk => h.block k (by omega) (by omega) (fun e => by have := hv k e; omega)⟩
/-- A row's block is not the table's struct. -/
theorem TabP.parts_ne {w : World} {B tp : Nat} {v : Value} {P : Tb} (h : TabP w B tp v P) {x : Value} {e : TypeId} {size n : Nat} {xs : List Value} {B' : Nat} (ho : w.ownsRow B' e size x n xs) (he : e ≠ 82) : x.ownBlock ≠ some tp := own_ne_box ho h.box he
/-- One more row. -/
theorem TabP.grow {w w1 : World} {B tp : Nat} {v v1 : Value} {P : Tb} (h : TabP w B tp v P) {n : Nd} {c : Nat} (hg : w.grownBy w1 v.ownBlock) (ho : w1.ownsRow B 108 4 v1 (P.length + 1) (rowCells P ++ [.string n.1, .int .i64 n.2, .slice none 0 0, .int .i64 c])) :
    TabP (w1.setCell ⟨tp, 0, none⟩ v1) B tp v1 (P ++ [(⟨n, c, []⟩, .slice none 0 0)]) ∧ PFar w (w1.setCell ⟨tp, 0, none⟩ v1) tp v := by
  have hb1 : w1.heap[tp]? = some (.cells #[v] 82) := by rw [hg.block tp (Array.getElem?_eq_some_iff.1 h.box).1 (fun e => h.ne e.symm), h.box]
  have hbx : (w1.setCell ⟨tp, 0, none⟩ v1).heap[tp]? = some (.cells #[v1] 82) := by
    unfold World.setCell
    simp [Array.getElem?_modify, hb1]
  refine ⟨⟨hbx, h.high, ?_, ?_⟩, (PFar.grown hg).set 0 v1⟩
  · rw [List.length_append, rowCells_snoc]
    exact own_setB ho hb1 (by decide)
  · intro p hp
    rcases List.mem_append.1 hp with hp | hp
    · exact own_setB (own_grown (h.parts p hp) hg (own_apart (h.parts p hp) h.row (by decide))) hb1 (by decide)
    · simp at hp
      subst hp
      exact World.ownsRow_nil _ _ _ _
theorem rowCells_parts (P : Tb) : ∀ (k : Nat) (h : k < P.length) (ps : List Nat) (pv : Value), (rowCells P).set (k * 4 + 2) pv = rowCells (P.set k ({ P[k].1 with parts := ps }, pv)) := by
  induction P with
  | nil => intro k h; simp at h
  | cons x r ih =>
    intro k h ps pv
    cases k with
    | zero => rfl
    | succ k =>
      have := ih k (by simpa using h) ps pv
      rw [show (k + 1) * 4 + 2 = k * 4 + 2 + 1 + 1 + 1 + 1 by omega, List.set_cons_succ, rowCells_cons, rowCells_cons, List.set_cons_succ, List.set_cons_succ, List.set_cons_succ, List.set_cons_succ, this]
      rfl
/-- A row's parts are written. -/
theorem TabP.setParts {w : World} {B tp g cap : Nat} {P : Tb} (h : TabP w B tp (.slice (some ⟨g, 0, none⟩) P.length cap) P) (k : Nat) (hk : k < P.length) (ps : List Nat) (pv : Value) (ho : w.ownsRow B 3 1 pv ps.length (natC ps)) :
    TabP (w.setCell ⟨g, k * 4 + 2, none⟩ pv) B tp (.slice (some ⟨g, 0, none⟩) P.length cap) (P.set k ({ P[k].1 with parts := ps }, pv)) := by
  have hne := h.ne
  simp [Value.ownBlock] at hne
  have key : ∀ {x : Value} {n : Nat} {xs : List Value}, w.ownsRow B 3 1 x n xs → (w.setCell ⟨g, k * 4 + 2, none⟩ pv).ownsRow B 3 1 x n xs := fun hx =>
    own_setC hx (by
      rcases own_apart hx h.row (by decide) with e | e
      · rw [e]; simp
      · exact fun e' => e (by rw [← e']; rfl)) _
  refine ⟨?_, h.high, ?_, ?_⟩
  · rw [heap_setCell_other _ _ _ _ (by simpa using fun e => hne e.symm), h.box]
  · have r := (h.row.stored (k * 4 + 2) pv).1
    rw [rowCells_parts P k hk ps pv] at r
    simpa using r
  · intro p hp
    rcases List.mem_or_eq_of_mem_set hp with hp | rfl
    · exact key (h.parts p hp)
    · exact key ho
theorem map_setParts (P : Tb) (k : Nat) (h : k < P.length) (ps : List Nat) (pv : Value) : (P.set k ({ P[k].1 with parts := ps }, pv)).map Prod.fst = Go.Proofs.YtjnddclkdofgdaaDoor.setParts (P.map Prod.fst) k ps := by
  apply List.ext_getElem?
  intro i
  rw [setParts_at, List.getElem?_map, List.getElem?_map, List.getElem?_set]
  by_cases e : i = k
  · subst e; simp [h]
  · rw [if_neg (fun x => e x.symm), if_neg e]
/-- What put answers. -/
structure PutR (w : World) (B tp : Nat) (v : Value) (P : Tb) (up : Int) (s : List Nd) (k : Nat) (s' : List Nd) (w' : World) (v' : Value) (P' : Tb) : Prop where
  tab : TabP w' B tp v' P'
  put : Put up (P.map Prod.fst) 1 s (P'.map Prod.fst) [k] s'
  far : PFar w w' tp v
  moved : Moved w v v'
  old : ∀ p ∈ P', (∃ q ∈ P, p.2 = q.2) ∨ p.2.ownBlock = none ∨ ∃ g, p.2.ownBlock = some g ∧ w.heap.size ≤ g
  len : P'.length + s'.length ≤ P.length + s.length
/-- The parts so far. -/
structure PLoop (w : World) (B tp : Nat) (v : Value) (P0 : Tb) (up : Int) (s : List Nd) (j : Nat) (s' : List Nd) (pv : Value) (ps : List Nat) (w' : World) (v' : Value) (P' : Tb) : Prop where
  tab : TabP w' B tp v' P'
  put : Put up (P0.map Prod.fst) j s (P'.map Prod.fst) ps s'
  far : PFar w w' tp v
  moved : Moved w v v'
  old : ∀ p ∈ P', (∃ q ∈ P0, p.2 = q.2) ∨ p.2.ownBlock = none ∨ ∃ g, p.2.ownBlock = some g ∧ w.heap.size ≤ g
  len : P'.length + s'.length ≤ P0.length + s.length
  own : w'.ownsRow w.heap.size 3 1 pv ps.length (natC ps)
  apart : ∀ p ∈ P', p.2.ownBlock = none ∨ p.2.ownBlock ≠ pv.ownBlock
section
variable {w w' : World} {B tp : Nat} {v v' pv : Value} {P0 P' : Tb} {up : Int} {s s' : List Nd} {j : Nat} {ps : List Nat}
theorem PLoop.start (h : TabP w B tp v P0) : PLoop w B tp v P0 up s 0 s (.slice none 0 0) [] w v P0 :=
  ⟨h, Put.nil _ _, PFar.refl _ _ _, Moved.refl _ _, fun p hp => Or.inl ⟨p, hp, rfl⟩, Nat.le_refl _, World.ownsRow_nil _ _ _ _, fun p _ => by
    cases hb : p.2.ownBlock with
    | none => exact Or.inl rfl
    | some g => exact Or.inr (by simp [Value.ownBlock])⟩
theorem TabP.grown (h : TabP w B tp v P0) {wx : World} {o : Option Nat} (hg : w.grownBy wx o) (h0 : o ≠ some tp) (h1 : v.ownBlock = none ∨ v.ownBlock ≠ o) (h2 : ∀ p ∈ P0, p.2.ownBlock = none ∨ p.2.ownBlock ≠ o) : TabP wx B tp v P0 :=
  ⟨by rw [hg.block tp (Array.getElem?_eq_some_iff.1 h.box).1 (fun e => h0 e.symm), h.box], h.high, own_grown h.row hg h1, fun p hp => own_grown (h.parts p hp) hg (h2 p hp)⟩
theorem Put.len (h : Put up (P0.map Prod.fst) j s (P'.map Prod.fst) ps s') : P0.length ≤ P'.length := by
  obtain ⟨g, hg⟩ := h.inv
  have := hg.more
  simpa using this
/-- A part is put, and its row stands behind the others. -/
theorem PLoop.next (h : PLoop w B tp v P0 up s j s' pv ps w' v' P') {k : Nat} {s2 : List Nd} {w5 w6 : World} {v5 pv6 : Value} {P5 : Tb} {X : Obj} (hr : PutR w' B tp v' P' up s' k s2 w5 v5 P5) :
    w5.ownsRow w.heap.size 3 1 pv ps.length (natC ps) ∧ ((w5.alloc X).grownBy w6 pv.ownBlock → w6.ownsRow w.heap.size 3 1 pv6 (ps.length + 1) (natC ps ++ [.int .i64 k]) → Moved (w5.alloc X) pv pv6 → PLoop w B tp v P0 up s (j + 1) s2 pv6 (ps ++ [k]) w6 v5 P5) := by
  have hpt : pv.ownBlock ≠ some tp := own_ne_box h.own h.tab.box (by decide)
  have hpv : pv.ownBlock = none ∨ pv.ownBlock ≠ v'.ownBlock := own_apart h.own h.tab.row (by decide)
  have ho5 := hr.far.own h.own hpt hpv
  refine ⟨ho5, fun hg ho hm => ?_⟩
  have hbA : Below w5.heap.size w5 (w5.alloc X) := (Below.refl _ _).alloc (Nat.le_refl _) X
  have hsA : (w5.alloc X).heap.size = w5.heap.size + 1 := by simp
  have hw5 := hr.far.size
  have hwn := h.far.size
  have hap : ∀ p ∈ P5, p.2.ownBlock = none ∨ p.2.ownBlock ≠ pv.ownBlock := by
    intro p hp
    rcases hr.old p hp with ⟨q, hq, e⟩ | e | ⟨g, e, hgg⟩
    · rw [e]; exact h.apart q hq
    · exact Or.inl e
    · right
      intro e'
      rw [e] at e'
      have := (own_lt h.own g e'.symm).2
      omega
  have ht6 : TabP w6 B tp v5 P5 := (hr.tab.below hbA).grown hg (own_ne_box ho5 hr.tab.box (by decide)) (own_apart hr.tab.row ho5 (by decide)) hap
  have hfar : PFar w w6 tp v := by
    have h1 := h.far.trans h.moved hr.far
    refine ⟨hg.os.trans h1.os, hg.tape.trans h1.tape, hg.output.trans h1.output, by have := hg.size; have := h1.size; omega, fun i i1 i2 i3 => ?_⟩
    rw [hg.block i (by omega) (fun e => by have := (own_lt h.own i e.symm).1; omega), heap_alloc_old _ _ (by omega), h1.block i i1 i2 i3]
  refine ⟨ht6, h.put.append hr.put, hfar, h.moved.trans hr.moved hwn, ?_, by have := h.len; have := hr.len; omega, by rw [List.length_append, show natC (ps ++ [k]) = natC ps ++ [Value.int .i64 k] from List.map_append ..]; exact ho, ?_⟩
  · intro p hp
    rcases hr.old p hp with ⟨q, hq, e⟩ | e | ⟨g, e, hgg⟩
    · rw [e]; exact h.old q hq
    · exact Or.inr (Or.inl e)
    · exact Or.inr (Or.inr ⟨g, e, by omega⟩)
  · intro p hp
    rcases hm with e | ⟨g, e, hgg⟩
    · rw [e]; exact hap p hp
    · rw [e]
      cases hb : p.2.ownBlock with
      | none => exact Or.inl rfl
      | some g' =>
        right
        intro e'
        simp at e'
        have := (own_lt (hr.tab.parts p hp) g' hb).2
        omega
end
theorem PFar.setV {w wr : World} {tp g j : Nat} {v v' x : Value} (h : PFar w wr tp v) (hm : Moved w v v') (hg : v'.ownBlock = some g) : PFar w (wr.setCell ⟨g, j, none⟩ x) tp v := by
  have hs := grown_setCell wr ⟨g, j, none⟩ x
  refine ⟨hs.os.trans h.os, hs.tape.trans h.tape, hs.output.trans h.output, Nat.le_trans h.size hs.size, fun k h1 h2 h3 => ?_⟩
  rw [hs.block k (Nat.lt_of_lt_of_le h1 h.size) (fun e => ?_), h.block k h1 h2 h3]
  simp at e
  subst e
  rcases hm with e | ⟨g', e, hgg⟩
  · exact h3 (by rw [← e, hg])
  · rw [hg] at e; simp at e; omega
theorem NodesIn.lowB {w w' : World} {a : Option Addr} {l : List Nd} {B : Nat} (h : NodesIn w a l) (hlow : ∀ p, a = some p → p.block < B) (hb : Below B w w') : NodesIn w' a l :=
  ⟨h.few, h.short, fun k hk => by
    obtain ⟨b, o, rfl, h1, h2⟩ := h.cell k hk
    have hl := hlow _ rfl
    exact ⟨b, o, rfl, (hb.cell (p := ⟨b, o + k * 2, none⟩) hl).trans h1, (hb.cell (p := ⟨b, o + k * 2 + 1, none⟩) hl).trans h2⟩⟩

end Go.Proofs.YtjnddclkdofgdaaDoor

namespace Go.Proofs.YtjnddclkdofgdaaDoor
open Go.RowKit Go.Shelf Go.WideMaps
set_option maxRecDepth 100000

/-- A row of nodes. -/
def OwnN (w : World) (B : Nat) (v : Value) (l : List Nd) : Prop := w.ownsRow B 27 2 v l.length (nodeCells l)
theorem OwnN.shape {w : World} {B : Nat} {v : Value} {l : List Nd} (h : OwnN w B v l) : ∃ a n c, v = .slice a n c := by
  obtain ⟨a, c, e⟩ := own_shape h
  exact ⟨a, _, c, e⟩
/-- The class of a row. -/
def rdOf (Q : Tb) (i : Nat) : Nat := if h : i < Q.length then Q[i].1.cls else Q.length + i
theorem rdOf_iff {Q : Tb} (hok : TabOk Q) (i j : Nat) : rdOf Q i = rdOf Q j ↔ clsR Q i j := by
  unfold rdOf
  by_cases hi : i < Q.length <;> by_cases hj : j < Q.length
  · rw [dif_pos hi, dif_pos hj]; exact (clsR.iff hi hj).symm
  · rw [dif_pos hi, dif_neg hj]
    constructor
    · intro e; have := hok.cls i hi; omega
    · rintro (e | ⟨_, h, _⟩)
      · omega
      · exact absurd h hj
  · rw [dif_neg hi, dif_pos hj]
    constructor
    · intro e; have := hok.cls j hj; omega
    · rintro (e | ⟨h, _, _⟩)
      · omega
      · exact absurd h hi
  · rw [dif_neg hi, dif_neg hj]
    constructor
    · intro e; exact Or.inl (by omega)
    · rintro (e | ⟨h, _, _⟩)
      · omega
      · exact absurd h hi
theorem take_step (x e : List Nd) : (x.take 501 ++ e).take 501 = (x ++ e).take 501 := by
  by_cases h : x.length ≤ 501
  · rw [List.take_of_length_le h]
  · have h1 : (x.take 501).length = 501 := by simp; omega
    rw [List.take_append_of_le_length (by omega), List.take_append_of_le_length (by omega), List.take_take]
    simp
theorem take_le (x : List Nd) (h : x.length ≤ 501) : x.take 501 = x := List.take_of_length_le h
/-- What is written of a row with no head, or with one. -/
theorem exp_nohead {Q : Tb} {row : Nat} {m : List Nd} (hr : row < Q.length) (he : Exp (grOf Q) (clsR Q) (rdOf Q) [row] m) (hno : ∀ i (h : i < Q.length), ¬ (Q[i].1.cls = Q[row].1.cls ∧ varB Q[i].1.node = false)) : m = [(⟨#[]⟩, (Q[row].1.cls : Int))] := by
  cases he with
  | var h1 h2 =>
    cases h2
    unfold rdOf
    rw [dif_pos hr]
  | name h1 h2 h3 =>
    obtain ⟨hj, hv⟩ := grOf_named h2
    exact absurd ⟨((clsR.iff hr hj).1 h1).symm, hv⟩ (hno _ hj)
theorem exp_head {Q : Tb} (hok : TabOk Q) (hD : Down (grOf Q) (clsR Q)) (hNC : NoClash (grOf Q) (clsR Q)) {row h : Nat} {m : List Nd} (hr : row < Q.length) (hh : h < Q.length) (hc : Q[h].1.cls = Q[row].1.cls) (hv : varB Q[h].1.node = false) (he : Exp (grOf Q) (clsR Q) (rdOf Q) [row] m) :
    ∃ l, m = Q[h].1.node :: l ∧ Exp (grOf Q) (clsR Q) (rdOf Q) Q[h].1.parts l := by
  have hn : (grOf Q).named h := by show varB ((grOf Q).lab h) = false; rw [grOf_lab Q h hh]; exact hv
  have hrh : clsR Q row h := (clsR.iff hr hh).2 hc.symm
  cases he with
  | var h1 h2 => exact absurd hn (h1 h hrh)
  | @name _ j _ l h1 h2 h3 =>
    have hjh : clsR Q j h := hD.trans _ _ _ (hD.symm _ _ h1) hrh
    have ha := ch_same hD hNC hok.arity hjh h2 hn
    rw [List.append_nil] at h3
    have h4 := h3.same hD (fun i j hij => (rdOf_iff hok i j).2 hij) _ ha
    rw [grOf_ch Q h hh] at h4
    have hl := hNC j h hjh h2 hn
    rw [grOf_lab Q h hh] at hl
    exact ⟨l, by rw [hl], h4⟩

theorem below_app {w w1 : World} {d B1 : Nat} {v : Value} {n : Nat} {xs : List Value} {e : TypeId} {size : Nat} {X : Obj} (h : w.ownsRow B1 e size v n xs) (hB : B1 ≤ w.heap.size) (hg : ((w.drewN d).alloc X).grownBy w1 v.ownBlock) : Below B1 w w1 := by
  have hb : Below B1 w ((w.drewN d).alloc X) := (((below_drawn ⟨d, rfl⟩).alloc (Nat.le_refl _) X : Below w.heap.size w ((w.drewN d).alloc X))).mono hB
  refine hb.trans ⟨hg.os, hg.tape, hg.output, hg.size, fun k hk => hg.block k (by simp; omega) (fun e => ?_)⟩
  have := (own_lt h k e.symm).1
  omega

theorem new2c (w : World) (s x : Value) (t : TypeId) (n : Nat) (hn : n = w.heap.size) : ∀ j u, [s, x][j]? = some u → (w.alloc (.cells #[s, x] t)).cell? ⟨n, j, none⟩ = some u := by
  subst hn
  intro j u hj
  match j, hj with
  | 0, hj => simp at hj; subst hj; simp
  | 1, hj => simp at hj; subst hj; simp
  | j + 2, hj => simp at hj

set_option maxHeartbeats 2000000 in
theorem tNodes_any (B tp : Nat) (v : Value) (Q : Tb) (hok : TabOk Q) (hD : Down (grOf Q) (clsR Q)) (hNC : NoClash (grOf Q) (clsR Q)) (hf : Q.length ≤ 1000000) (hps : ∀ p ∈ Q, p.1.parts.length ≤ 1000000) (w0 : World) (h0 : TabP w0 B tp v Q) (B1 : Nat) (hB1 : w0.heap.size ≤ B1) :
    ∀ (n row : Nat) (m out : List Nd) (vo : Value) (w : World), m.length < n → Exp (grOf Q) (clsR Q) (rdOf Q) [row] m → row < Q.length → Below B1 w0 w → B1 ≤ w.heap.size → OwnN w B1 vo out → out.length ≤ 501 →
    Calls Tryd.prog 40 #[.pointer (some ⟨tp, 0, none⟩), vo, .int .i64 row] w fun e w' => ∃ vo', e = .returned vo' ∧ OwnN w' B1 vo' ((out ++ m).take 501) ∧ Below B1 w w' := by
  obtain ⟨iN, hN, hN0, hN1, hN2⟩ := info_parts infoNode
  obtain ⟨va, vcap, rfl, hc0⟩ := h0.shape
  intro n
  induction n with
  | zero => intro row m out vo w hm; omega
  | succ n ih =>
    intro row m out vo w hm he hr hb hBw ho hout
    have htab : TabP w B tp (.slice va Q.length vcap) Q := h0.below (hb.mono hB1)
    obtain ⟨oa, oc, rfl⟩ := own_shape ho
    have IH := hide ih
    clear ih
    by_cases hbig : 500 < out.length
    · have hbi : (500 : Int) < (out.length : Int) := by omega
      have HO := hide ho
      clear htab hc0 ho
      go_enter Tryd.func40, Tryd.ntmps40
      go_wp2
      go_ret
      have e : (out ++ m).take 501 = out := by rw [List.take_append_of_le_length (by omega), List.take_of_length_le hout]
      exact ⟨_, rfl, by rw [e]; exact HO.out, Below.refl _ _⟩
    · have hbi : ¬ (500 : Int) < (out.length : Int) := by omega
      have hcell := htab.cell
      obtain ⟨g, rfl, q1, q2, q3, q4⟩ := hc0 row hr
      have e4 := Below.at' hb hB1 q4
      clear q1 q2 q3 q4
      have hri : (row : Int) < (Q.length : Int) := by omega
      have CH := hide (thead_any B tp _ Q Q[row].1.cls w htab hf)
      have HE := hide he
      have HC0 := hide hc0
      have HO := hide ho
      have HB := hide hb
      have HTAB := hide htab
      have HQR := hide (show Q[row].1.cls = Q[row].1.cls from rfl)
      clear htab hc0 ho hb he
      generalize hcls : Q[row].1.cls = cl at *
      have HCL := hide hcls
      clear hcls HQR
      go_enter Tryd.func40, Tryd.ntmps40
      go_upto_region 5 with (first
        | (go_at_call 64; refine (unhide CH).mono ?_; rintro e w1 ⟨r, rfl, hh, d, rfl⟩)
        | go_in)
      clear CH
      rcases hh with ⟨rfl, hno⟩ | ⟨h, rfl, hhl, hhc, hhv⟩
      · have HM := hide (exp_nohead hr HE.out (by rw [HCL.out]; exact hno))
        rw [HCL.out] at HM
        clear hno
        have ho := HO.out
        go_wp2_with (first
          | (at_builtin; refine wpList_append_own _ rfl (.tmp 27) (.tmp 30) 28 rfl B1 27 iN (.agg #[.string ⟨#[]⟩, .int .i64 0]) 2 24 Tryd.underlying28 hN hN0 hN1 hN2 rfl (by decide) _ _ _ rfl ((own_drewN ho d).alloc _) ⟨w.heap.size, 0, none⟩ 1 1 [.string ⟨#[]⟩, .int .i64 cl] rfl rfl ?d1 ?d2 ?d3 ?d4 ?d5 ?_)
          | go_in)
        case d1 => first | exact new2 _ _ _ _ _ (by first | rfl | simp) | exact new2c (w.drewN d) _ _ 27 w.heap.size rfl
        case d2 => first | exact one2 _ _ | exact ⟨rfl, rfl⟩
        case d3 => unfold maxLen; omega
        case d4 => omega
        case d5 => first | omega | (simp; omega)
        intro v' w1 ho' hg' _
        clear ho
        have HO' := hide ho'
        have HG' := hide hg'
        clear ho' hg'
        go_wp2
        go_ret
        refine ⟨_, rfl, ?_, ?_⟩
        · have := HO'.out
          unfold OwnN
          rw [HM.out, take_le _ (by simp; omega), List.length_append, nodeCells_snoc]
          exact this
        · exact below_app HO.out hBw HG'.out
      · obtain ⟨l, hml, hel⟩ := exp_head hok hD hNC hr hhl (by rw [HCL.out]; exact hhc) hhv HE.out
        obtain ⟨ex, x1, x2, x3⟩ := exp_each hD hNC hok.arity (fun i j hij => (rdOf_iff hok i j).2 hij) hel
        obtain ⟨g', hg', q1, q2, q3, q4⟩ := HC0.out h hhl
        simp at hg'
        subst hg'
        have f1 := Below.at' HB.out hB1 q1
        have f2 := Below.at' HB.out hB1 q2
        have f3 := Below.at' HB.out hB1 q3
        clear q1 q2 q3 q4
        have hhi : (h : Int) < (Q.length : Int) := by omega
        have hh0 : ¬ (h : Int) < 0 := by omega
        have HPT := hide (h0.parts Q[h] (List.getElem_mem _))
        have hpl := hps Q[h] (List.getElem_mem _)
        have HPP := hide (hok.parts h hhl)
        clear hhc hhv hel
        have HML := hide hml
        have HX1 := hide x1
        have HX2 := hide x2
        have HX3 := hide x3
        clear hml x1 x2 x3
        generalize Q[h].1.parts = pl at *
        generalize hq2 : Q[h].2 = pv at *
        generalize Q[h].1.node = nd at *
        obtain ⟨s, x⟩ := nd
        simp only at f1 f2
        obtain ⟨pa, pc, rfl, hpc⟩ := own_nats HPT.out
        have HPC := hide hpc
        have HPV := hide hq2
        clear hpc hq2
        have ho := HO.out
        go_wp2_with (first
          | (at_builtin; refine wpList_append_own _ rfl (.tmp 32) (.tmp 41) 28 rfl B1 27 iN (.agg #[.string ⟨#[]⟩, .int .i64 0]) 2 24 Tryd.underlying28 hN hN0 hN1 hN2 rfl (by decide) _ _ _ rfl ((own_drewN ho d).alloc _) ⟨w.heap.size, 0, none⟩ 1 1 [.string s, .int .i64 x] rfl rfl ?d1 ?d2 ?d3 ?d4 ?d5 ?_)
          | go_in)
        case d1 => first | exact new2 _ _ _ _ _ (by first | rfl | simp) | exact new2c (w.drewN d) _ _ 27 w.heap.size rfl
        case d2 => first | exact one2 _ _ | exact ⟨rfl, rfl⟩
        case d3 => unfold maxLen; omega
        case d4 => omega
        case d5 => first | omega | (simp; omega)
        intro v' w1 ho' hg' _
        have hb1 : Below B1 w w1 := below_app ho hBw hg'
        clear ho f1 f2 f3 e4 hcell
        have HO' := hide ho'
        have HB1' := hide hb1
        clear ho' hg' hb1
        go_wp2
        go_loopw [1, 9] (fun lv i wr => ∃ k : Nat, k ≤ pl.length ∧ i = .int .i64 k ∧ OwnN wr B1 lv ((out ++ [(s, x)] ++ ((pl.take k).map ex).flatten).take 501) ∧ Below B1 w wr) (fun _ i _ => pl.length - (intOf i).toNat)
        case atStart =>
          refine ⟨0, Nat.zero_le _, rfl, ?_, HB1'.out⟩
          unfold OwnN
          rw [List.take_zero, List.map_nil, List.flatten_nil, List.append_nil, take_le _ (by simp; omega), List.length_append, nodeCells_snoc]
          exact HO'.out
        case round =>
          obtain ⟨k, hk, rfl, hor, hbr⟩ := hrel
          have hbw := HB.out.trans hbr
          have htr : TabP wr B tp _ Q := h0.below (hbw.mono hB1)
          have hcell := htr.cell
          obtain ⟨g', hg', q1, q2, q3, q4⟩ := HC0.out h hhl
          simp at hg'
          subst hg'
          have f3 := Below.at' hbw hB1 q3
          rw [show (Q[h].2 : Value) = .slice pa pl.length pc from HPV.out] at f3
          clear q1 q2 q3 q4 htr
          have HOR := hide hor
          have HBR := hide hbr
          obtain ⟨ra, rn, rc, rfl⟩ := hor.shape
          clear hor hbr
          by_cases hlt : k < pl.length
          · have hlti : (k : Int) < (pl.length : Int) := by omega
            obtain ⟨g2, rfl, e2⟩ := HPC.out k hlt
            have e3 := Below.at' hbw hB1 e2
            have CN := hide (IH.out pl[k] (ex pl[k]) _ _ wr (by have := HX2.out pl[k] (List.getElem_mem _); have := HML.out; have := congrArg List.length this; simp at this; omega) (HX1.out _ (List.getElem_mem _)) (HPP.out _ (List.getElem_mem _)) hbw (Nat.le_trans hBw HBR.out.size) HOR.out (by simp; omega))
            have HK1 : Hid ((pl.take (k + 1)).map ex = (pl.take k).map ex ++ [ex pl[k]]) := hide (by rw [List.take_succ_eq_append_getElem hlt, List.map_append]; rfl)
            have HCUR : Hid ((((out ++ [(s, x)] ++ ((pl.take k).map ex).flatten).take 501) ++ ex pl[k]).take 501 = (out ++ [(s, x)] ++ ((pl.take (k + 1)).map ex).flatten).take 501) := hide (by rw [take_step, HK1.out, List.flatten_append]; simp)
            clear e2 HOR HK1
            generalize ((out ++ [(s, x)] ++ ((pl.take k).map ex).flatten).take 501) = cur at *
            generalize pl[k] = pk at *
            go_wp2_with (first
              | (go_at_call 40; refine (unhide CN).mono ?_; rintro e w2 ⟨v2, rfl, ho2, hb2⟩; have HO2 := hide ho2; have HB2 := hide hb2; obtain ⟨a2, n2, c2, rfl⟩ := ho2.shape; clear ho2 hb2)
              | go_in)
            go_roundw
            case rel => exact ⟨k + 1, by omega, by go_num, by rw [← HCUR.out]; exact HO2.out, HBR.out.trans HB2.out⟩
            case measure => simp [intOf]; omega
          · have hke : k = pl.length := by omega
            subst hke
            have hlti : ¬ ((pl.length : Int) < (pl.length : Int)) := by omega
            go_wp2
            go_ret
            refine ⟨_, rfl, ?_, HBR.out⟩
            have := HOR.out
            rw [List.take_length, HX3.out] at this
            rw [HML.out, show out ++ (s, x) :: l = out ++ [(s, x)] ++ l by simp]
            exact this

end Go.Proofs.YtjnddclkdofgdaaDoor
