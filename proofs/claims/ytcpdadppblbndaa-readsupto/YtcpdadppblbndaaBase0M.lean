/- Small words for the walks. What a slice of nodes, and of literals, holds in memory: plain words for the walks. What stays as it was while a call appends to rows of its own: words for the walks. -/
import Derived.Test.YtcpdadppblbndaaChecked
import Derived.WalkKit
import Derived.WalkSpells
import Derived.WalkLawsBesides
import Derived.Laws.StructEq
import Derived.Deep.QuietTactic
import Derived.BigQuiet
namespace Go.Proofs.Ytcpdadppblbndaa
open Go.RowKit

theorem hide {p : Prop} (h : p) : Hid p := h
theorem unhide {p : Prop} (h : Hid p) : p := h

theorem ret_int {k : IntKind} {a b : Int} (h : a = b) : Ending.returned (.int k a) = .returned (.int k b) := by rw [h]
theorem ret_bool {a b : Bool} (h : a = b) : Ending.returned (.bool a) = .returned (.bool b) := by rw [h]

theorem draw2 (w : World) (n m : Nat) : ∃ k, (w.drewN n).drewN m = w.drewN k := ⟨_, World.drewN_drewN _ _ _⟩
theorem drawn_trans {w w1 w2 : World} (h : ∃ n, w1 = w.drewN n) (k : ∃ n, w2 = w1.drewN n) : ∃ n, w2 = w.drewN n := by
  obtain ⟨n, rfl⟩ := h
  obtain ⟨m, rfl⟩ := k
  exact ⟨_, World.drewN_drewN _ _ _⟩
theorem below_drawn {w w1 : World} (h : ∃ n, w1 = w.drewN n) : Below w.heap.size w w1 := by
  obtain ⟨n, rfl⟩ := h
  exact ⟨rfl, rfl, rfl, Nat.le_refl _, fun _ _ => rfl⟩
/-- A cell that is there stays, whatever is made behind. -/
theorem Below.at' {w w1 : World} {B : Nat} (h : Below B w w1) (hB : w.heap.size ≤ B) {a : Addr} {v : Value} (hc : w.cell? a = some v) : w1.cell? a = some v :=
  (h.cell (Nat.lt_of_lt_of_le (World.block_lt_of_cell? w a hc) hB)).trans hc

end Go.Proofs.Ytcpdadppblbndaa

namespace Go.Proofs.Ytcpdadppblbndaa
open Go.RowKit

/-- A node: its name, its number. -/
abbrev Nd := ByteArray × Int
/-- A literal: with NOT or without, and the nodes of its atom. -/
abbrev Lt := Bool × List Nd

/-- The cells of nodes, two a node. -/
structure NodesIn (w : World) (a : Option Addr) (l : List Nd) : Prop where
  few : l.length ≤ 5864062014805
  short : ∀ k (h : k < l.length), l[k].1.size ≤ 140737488355328
  cell : ∀ k (h : k < l.length), ∃ b o, a = some ⟨b, o, none⟩ ∧ w.cell? ⟨b, o + k * 2, none⟩ = some (.string l[k].1) ∧ w.cell? ⟨b, o + k * 2 + 1, none⟩ = some (.int .i64 l[k].2)

/-- The cells of literals, two a literal, and of their atoms. -/
structure LitsIn (w : World) (a : Option Addr) (c : List Lt) : Prop where
  few : c.length ≤ 4398046511104
  cell : ∀ k (h : k < c.length), ∃ b o aa cap, a = some ⟨b, o, none⟩ ∧ w.cell? ⟨b, o + k * 2, none⟩ = some (.bool c[k].1) ∧ w.cell? ⟨b, o + k * 2 + 1, none⟩ = some (.slice aa c[k].2.length cap) ∧ NodesIn w aa c[k].2

theorem NodesIn.below {w w1 : World} {a : Option Addr} {l : List Nd} (h : NodesIn w a l) {B : Nat} (k : Below B w w1) (hB : w.heap.size ≤ B) : NodesIn w1 a l :=
  ⟨h.few, h.short, fun j hj => by obtain ⟨b, o, h1, h2, h3⟩ := h.cell j hj; exact ⟨b, o, h1, Below.at' k hB h2, Below.at' k hB h3⟩⟩
theorem LitsIn.below {w w1 : World} {a : Option Addr} {l : List Lt} (h : LitsIn w a l) {B : Nat} (k : Below B w w1) (hB : w.heap.size ≤ B) : LitsIn w1 a l :=
  ⟨h.few, fun j hj => by obtain ⟨b, o, aa, cap, h1, h2, h3, h4⟩ := h.cell j hj; exact ⟨b, o, aa, cap, h1, Below.at' k hB h2, Below.at' k hB h3, h4.below k hB⟩⟩
theorem NodesIn.drawn {w w1 : World} {a : Option Addr} {l : List Nd} (h : NodesIn w a l) (k : ∃ n, w1 = w.drewN n) : NodesIn w1 a l := h.below (below_drawn k) (Nat.le_refl _)
theorem LitsIn.drawn {w w1 : World} {a : Option Addr} {l : List Lt} (h : LitsIn w a l) (k : ∃ n, w1 = w.drewN n) : LitsIn w1 a l := h.below (below_drawn k) (Nat.le_refl _)
theorem NodesIn.drewN {w : World} {a : Option Addr} {l : List Nd} (h : NodesIn w a l) (n : Nat) : NodesIn (w.drewN n) a l := h.drawn ⟨n, rfl⟩
theorem LitsIn.drewN {w : World} {a : Option Addr} {l : List Lt} (h : LitsIn w a l) (n : Nat) : LitsIn (w.drewN n) a l := h.drawn ⟨n, rfl⟩

theorem stood46 : Try.prog.stoodInHeld 46 = false := by kernel_rfl
theorem guard46 : Try.prog.eqGuardType Try.prog.depth 46 = false := by kernel_rfl
theorem struct46 : Try.prog.underlying 46 = some (.struct (Try.prog.fieldsOf 46)) := by kernel_rfl

/-- Are two nodes the same? -/
def nodeB (s : ByteArray) (a : Int) (t : ByteArray) (b : Int) : Bool := s.toList == t.toList && a == b
theorem toList_inj {s t : ByteArray} : s.toList = t.toList ↔ s = t := by
  rw [ByteArray.toList_eq, ByteArray.toList_eq]
  obtain ⟨⟨x⟩⟩ := s
  obtain ⟨⟨y⟩⟩ := t
  simp
theorem nodeB_eq (x y : ByteArray × Int) : nodeB x.1 x.2 y.1 y.2 = decide (x = y) := by
  rw [Bool.eq_iff_iff]
  simp [nodeB, toList_inj, Prod.ext_iff]
theorem eqNode (s t : ByteArray) (a b : Int) (w : World) : (Op.equalIn 10000 46 (.agg #[.string s, .int .i64 a]) (.agg #[.string t, .int .i64 b])).run Try.prog w = .ok (nodeB s a t b) w := by
  unfold nodeB
  rw [show (10000 : Nat) = 9999 + 1 from rfl, run_equalIn_agg w 9999 46 _ _ struct46 stood46]
  simp only [Program.fieldsOf, Try.underlying46]
  go_simp
  cases h1 : (s.toList == t.toList) <;> cases h2 : (a == b) <;> simp_all

end Go.Proofs.Ytcpdadppblbndaa

namespace Go.Proofs.Ytcpdadppblbndaa
open Go.RowKit

/-- Of the blocks that were there all stay as they were, but for rows of elements of the type T from B on. -/
structure Kept (B : Nat) (T : TypeId) (w w' : World) : Prop where
  os : w'.os = w.os
  tape : w'.tape = w.tape
  output : w'.output = w.output
  size : w.heap.size ≤ w'.heap.size
  block : ∀ k, k < w.heap.size → (k < B ∨ ∀ cs fr, w.heap[k]? ≠ some (.cells cs T fr)) → w'.heap[k]? = w.heap[k]?

theorem Kept.refl (B : Nat) (T : TypeId) (w : World) : Kept B T w w := ⟨rfl, rfl, rfl, Nat.le_refl _, fun _ _ _ => rfl⟩
theorem Kept.trans {B : Nat} {T : TypeId} {a b c : World} (h : Kept B T a b) (k : Kept B T b c) : Kept B T a c :=
  ⟨k.os.trans h.os, k.tape.trans h.tape, k.output.trans h.output, Nat.le_trans h.size k.size, fun i hi hc => by
    have e := h.block i hi hc
    rw [k.block i (Nat.lt_of_lt_of_le hi h.size) (by rw [e]; exact hc), e]⟩
theorem Kept.of_below {B : Nat} {T : TypeId} {w w' : World} (h : Below w.heap.size w w') : Kept B T w w' := ⟨h.os, h.tape, h.output, h.size, fun k hk _ => h.block k hk⟩
theorem Kept.below {B : Nat} {T : TypeId} {w w' : World} (h : Kept B T w w') (hB : B ≤ w.heap.size) : Below B w w' := ⟨h.os, h.tape, h.output, h.size, fun k hk => h.block k (by omega) (Or.inl hk)⟩
theorem Kept.alloc {B : Nat} {T : TypeId} {a w : World} (h : Kept B T a w) (o : Obj) : Kept B T a (w.alloc o) := h.trans (.of_below ((Below.refl _ _).alloc (Nat.le_refl _) o))
theorem Kept.setCell {B : Nat} {T : TypeId} {a w : World} (h : Kept B T a w) {p : Addr} (hp : a.heap.size ≤ p.block) (u : Value) : Kept B T a (w.setCell p u) :=
  ⟨h.os, h.tape, h.output, by have := h.size; simpa [World.setCell] using this, fun k hk hc => by
    rw [Below.heap_setCell _ _ _ _ (by omega)]; exact h.block k hk hc⟩
theorem Kept.drawn {B : Nat} {T : TypeId} {a w w1 : World} (h : Kept B T a w) (k : ∃ n, w1 = w.drewN n) : Kept B T a w1 := h.trans (.of_below (below_drawn k))
/-- Behind an append to a row of that type from B on. -/
theorem Kept.grownOwn {B : Nat} {T : TypeId} {a w w' : World} {size : Nat} {v : Value} {n : Nat} {xs : List Value} (h : Kept B T a w) (hg : w.grownBy w' v.ownBlock) (ho : w.ownsRow B T size v n xs) : Kept B T a w' := by
  refine h.trans ⟨hg.os, hg.tape, hg.output, hg.size, fun k hk hc => hg.block k hk ?_⟩
  intro e
  obtain ⟨_, ⟨rfl, _⟩ | ⟨g, cap, cur, rfl, hb, hh, _⟩⟩ := ho
  · simp [Value.ownBlock] at e
  · simp [Value.ownBlock] at e
    subst e
    rcases hc with hc | hc
    · omega
    · exact hc _ _ hh
/-- Behind an append to a row of the call's own. -/
theorem Kept.grownNew {B B' : Nat} {T e : TypeId} {a w w' : World} {size : Nat} {v : Value} {n : Nat} {xs : List Value} (h : Kept B T a w) (hg : w.grownBy w' v.ownBlock) (ho : w.ownsRow B' e size v n xs) (hB : a.heap.size ≤ B') : Kept B T a w' := by
  refine ⟨hg.os.trans h.os, hg.tape.trans h.tape, hg.output.trans h.output, Nat.le_trans h.size hg.size, fun k hk hc => ?_⟩
  rw [hg.block k (Nat.lt_of_lt_of_le hk h.size) ?_, h.block k hk hc]
  intro e
  obtain ⟨_, ⟨rfl, _⟩ | ⟨g, cap, cur, rfl, hb, hh, _⟩⟩ := ho
  · simp [Value.ownBlock] at e
  · simp [Value.ownBlock] at e
    omega
theorem own_lt {w : World} {B : Nat} {e : TypeId} {size : Nat} {v : Value} {n : Nat} {xs : List Value} (h : w.ownsRow B e size v n xs) : ∀ k, v.ownBlock = some k → B ≤ k ∧ k < w.heap.size := World.ownsRow.lt h
/-- A row of another type stays. -/
theorem Kept.own {B B' : Nat} {T e : TypeId} {w w' : World} {size : Nat} {v : Value} {n : Nat} {xs : List Value} (h : Kept B T w w') (he : e ≠ T) (ho : w.ownsRow B' e size v n xs) : w'.ownsRow B' e size v n xs := by
  obtain ⟨h1, ⟨rfl, h2⟩ | ⟨g, cap, cur, rfl, hb, hh, hr⟩⟩ := ho
  · exact ⟨h1, Or.inl ⟨rfl, h2⟩⟩
  · refine ⟨h1, Or.inr ⟨g, cap, cur, rfl, hb, ?_, hr⟩⟩
    have hg : g < w.heap.size := (Array.getElem?_eq_some_iff.1 hh).1
    rw [h.block g hg (Or.inr ?_), hh]
    intro cs fr hx
    rw [hh] at hx
    simp at hx
    exact he hx.2.1
/-- Two rows of different types are different blocks. -/
theorem own_apart {w : World} {B B' : Nat} {e e' : TypeId} {size size' : Nat} {v v' : Value} {n n' : Nat} {xs xs' : List Value} (h : w.ownsRow B e size v n xs) (h' : w.ownsRow B' e' size' v' n' xs') (he : e ≠ e') : v.ownBlock = none ∨ v.ownBlock ≠ v'.ownBlock := by
  obtain ⟨_, ⟨rfl, _⟩ | ⟨g, cap, cur, rfl, hb, hh, _⟩⟩ := h
  · exact Or.inl rfl
  · obtain ⟨_, ⟨rfl, _⟩ | ⟨g', cap', cur', rfl, hb', hh', _⟩⟩ := h'
    · right; simp [Value.ownBlock]
    · right
      simp [Value.ownBlock]
      rintro rfl
      rw [hh] at hh'
      simp at hh'
      exact he hh'.2
/-- What is below stays below. -/
theorem own_below {w w' : World} {B B' : Nat} {e : TypeId} {size : Nat} {v : Value} {n : Nat} {xs : List Value} (h : w.ownsRow B e size v n xs) (k : Below B' w w') (hB : w.heap.size ≤ B') : w'.ownsRow B e size v n xs := by
  obtain ⟨h1, ⟨rfl, h2⟩ | ⟨g, cap, cur, rfl, hb, hh, hr⟩⟩ := h
  · exact ⟨h1, Or.inl ⟨rfl, h2⟩⟩
  · refine ⟨h1, Or.inr ⟨g, cap, cur, rfl, hb, ?_, hr⟩⟩
    have hg : g < w.heap.size := (Array.getElem?_eq_some_iff.1 hh).1
    rw [k.block g (by omega), hh]
theorem own_mono {w : World} {B B' : Nat} {e : TypeId} {size : Nat} {v : Value} {n : Nat} {xs : List Value} (h : w.ownsRow B e size v n xs) (hB : B' ≤ B) : w.ownsRow B' e size v n xs := by
  obtain ⟨h1, ⟨rfl, h2⟩ | ⟨g, cap, cur, rfl, hb, hr⟩⟩ := h
  · exact ⟨h1, Or.inl ⟨rfl, h2⟩⟩
  · exact ⟨h1, Or.inr ⟨g, cap, cur, rfl, by omega, hr⟩⟩

/-- The cells of nodes. -/
def nodeCells (l : List Nd) : List Value := l.flatMap fun n => [.string n.1, .int .i64 n.2]
theorem nodeCells_length (l : List Nd) : (nodeCells l).length = l.length * 2 := by
  induction l with
  | nil => rfl
  | cons x r ih => simp [nodeCells] at ih ⊢; omega
theorem nodeCells_snoc (l : List Nd) (x : Nd) : nodeCells (l ++ [x]) = nodeCells l ++ [.string x.1, .int .i64 x.2] := by simp [nodeCells]
theorem nodeCells_at (l : List Nd) : ∀ k (h : k < l.length), (nodeCells l)[k * 2]? = some (.string l[k].1) ∧ (nodeCells l)[k * 2 + 1]? = some (.int .i64 l[k].2) := by
  induction l with
  | nil => intro k h; simp at h
  | cons x r ih =>
    intro k h
    cases k with
    | zero => simp [nodeCells]
    | succ k =>
      have := ih k (by simpa using h)
      have e1 : (k + 1) * 2 = k * 2 + 2 := by omega
      have e2 : (k + 1) * 2 + 1 = k * 2 + 1 + 2 := by omega
      rw [e1]
      simp only [nodeCells, List.flatMap_cons, List.cons_append, List.nil_append, List.getElem?_cons_succ, List.getElem_cons_succ] at this ⊢
      exact this
/-- A row of nodes, as the walks read it. -/
theorem own_nodes {w : World} {B : Nat} {v : Value} {l : List Nd} (h : w.ownsRow B 46 2 v l.length (nodeCells l)) (hf : l.length ≤ 5864062014805) (hs : ∀ k (h : k < l.length), l[k].1.size ≤ 140737488355328) :
    ∃ a cap, v = .slice a l.length cap ∧ NodesIn w a l := by
  obtain ⟨h1, ⟨rfl, h2⟩ | ⟨g, cap, cur, rfl, hb, hh, hc, hm, hz, ht⟩⟩ := h
  · refine ⟨none, 0, by rw [h2], ⟨hf, hs, fun k hk => by omega⟩⟩
  · have ho : w.ownsRow B 46 2 (.slice (some ⟨g, 0, none⟩) l.length cap) l.length (nodeCells l) := ⟨h1, Or.inr ⟨g, cap, cur, rfl, hb, hh, hc, hm, hz, ht⟩⟩
    refine ⟨_, _, rfl, ⟨hf, hs, fun k hk => ⟨g, 0, rfl, ?_, ?_⟩⟩⟩
    · rw [Nat.zero_add, ho.cellAt (k * 2) (by omega), (nodeCells_at l k hk).1]
    · rw [Nat.zero_add, ho.cellAt (k * 2 + 1) (by omega), (nodeCells_at l k hk).2]

end Go.Proofs.Ytcpdadppblbndaa
