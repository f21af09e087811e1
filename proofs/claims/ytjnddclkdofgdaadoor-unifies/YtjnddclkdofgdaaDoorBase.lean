/- What a slice of nodes, and of literals, holds in memory: plain words for the walks. -/
import Derived.Test.YtjnddclkdofgdaaDoorBase0
namespace Go.Proofs.YtjnddclkdofgdaaDoor
open Go.RowKit

/-- A node: its name, its number. -/
abbrev Nd := ByteArray × Int
/-- A literal: with NOT or without, and the nodes of its atom. -/
abbrev Lt := Bool × List Nd

/-- The cells of nodes, two a node. -/
structure NodesIn (w : World) (a : Option Addr) (l : List Nd) : Prop where
  few : l.length ≤ 5864062014805
  short : ∀ k (h : k < l.length), l[k].1.size ≤ 140737488355328
  cell : ∀ k (h : k < l.length), ∃ b o, a = some ⟨b, o, none⟩ ∧ w.cell? ⟨b, o + k * 2, none⟩ = some (.string l[k].1) ∧ w.cell? ⟨b, o + k * 2 + 1, none⟩ = some (.int .i64 l[k].2)

/-- The cells of literals, two a literal, and of their atoms. -/
structure LitsIn (w : World) (a : Option Addr) (c : List Lt) : Prop where
  few : c.length ≤ 4398046511104
  cell : ∀ k (h : k < c.length), ∃ b o aa cap, a = some ⟨b, o, none⟩ ∧ w.cell? ⟨b, o + k * 2, none⟩ = some (.bool c[k].1) ∧ w.cell? ⟨b, o + k * 2 + 1, none⟩ = some (.slice aa c[k].2.length cap) ∧ NodesIn w aa c[k].2

theorem NodesIn.below {w w1 : World} {a : Option Addr} {l : List Nd} (h : NodesIn w a l) {B : Nat} (k : Below B w w1) (hB : w.heap.size ≤ B) : NodesIn w1 a l :=
  ⟨h.few, h.short, fun j hj => by obtain ⟨b, o, h1, h2, h3⟩ := h.cell j hj; exact ⟨b, o, h1, Below.at' k hB h2, Below.at' k hB h3⟩⟩
theorem LitsIn.below {w w1 : World} {a : Option Addr} {l : List Lt} (h : LitsIn w a l) {B : Nat} (k : Below B w w1) (hB : w.heap.size ≤ B) : LitsIn w1 a l :=
  ⟨h.few, fun j hj => by obtain ⟨b, o, aa, cap, h1, h2, h3, h4⟩ := h.cell j hj; exact ⟨b, o, aa, cap, h1, Below.at' k hB h2, Below.at' k hB h3, h4.below k hB⟩⟩
theorem NodesIn.drawn {w w1 : World} {a : Option Addr} {l : List Nd} (h : NodesIn w a l) (k : ∃ n, w1 = w.drewN n) : NodesIn w1 a l := h.below (below_drawn k) (Nat.le_refl _)
theorem LitsIn.drawn {w w1 : World} {a : Option Addr} {l : List Lt} (h : LitsIn w a l) (k : ∃ n, w1 = w.drewN n) : LitsIn w1 a l := h.below (below_drawn k) (Nat.le_refl _)
theorem NodesIn.drewN {w : World} {a : Option Addr} {l : List Nd} (h : NodesIn w a l) (n : Nat) : NodesIn (w.drewN n) a l := h.drawn ⟨n, rfl⟩
theorem LitsIn.drewN {w : World} {a : Option Addr} {l : List Lt} (h : LitsIn w a l) (n : Nat) : LitsIn (w.drewN n) a l := h.drawn ⟨n, rfl⟩

theorem stood27 : Tryd.prog.stoodInHeld 27 = false := by kernel_rfl
theorem guard27 : Tryd.prog.eqGuardType Tryd.prog.depth 27 = false := by kernel_rfl
theorem struct27 : Tryd.prog.underlying 27 = some (.struct (Tryd.prog.fieldsOf 27)) := by kernel_rfl

/-- Are two nodes the same? -/
def nodeB (s : ByteArray) (a : Int) (t : ByteArray) (b : Int) : Bool := s.toList == t.toList && a == b
theorem toList_inj {s t : ByteArray} : s.toList = t.toList ↔ s = t := by
  rw [ByteArray.toList_eq, ByteArray.toList_eq]
  obtain ⟨⟨x⟩⟩ := s
  obtain ⟨⟨y⟩⟩ := t
  simp
theorem nodeB_eq (x y : ByteArray × Int) : nodeB x.1 x.2 y.1 y.2 = decide (x = y) := by
  rw [Bool.eq_iff_iff]
  simp [nodeB, toList_inj, Prod.ext_iff]
theorem eqNode (s t : ByteArray) (a b : Int) (w : World) : (Op.equalIn 10000 27 (.agg #[.string s, .int .i64 a]) (.agg #[.string t, .int .i64 b])).run Tryd.prog w = .ok (nodeB s a t b) w := by
  unfold nodeB
  rw [show (10000 : Nat) = 9999 + 1 from rfl, run_equalIn_agg w 9999 27 _ _ struct27 stood27]
  simp only [Program.fieldsOf, Tryd.underlying27]
  go_simp
  cases h1 : (s.toList == t.toList) <;> cases h2 : (a == b) <;> simp_all

end Go.Proofs.YtjnddclkdofgdaaDoor
