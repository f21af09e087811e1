/- What the matcher holds, and what stays as it was while it works. -/
import Derived.Test.YtjnddclkdofgdaaDoorCSpec
import Derived.Test.YtjnddclkdofgdaaDoorMem
namespace Go.Proofs.YtjnddclkdofgdaaDoor
open Go.RowKit

/-- A block that no step of the matcher changes. -/
def Stays (w : World) (B k : Nat) : Prop := k < B ∨ ∀ cs T fr, w.heap[k]? = some (.cells cs T fr) → T ≠ 112 ∧ T ≠ 3
/-- What is there stays, but for the matcher and its list of numbers. -/
structure Fr (B : Nat) (w w' : World) : Prop where
  os : w'.os = w.os
  tape : w'.tape = w.tape
  output : w'.output = w.output
  size : w.heap.size ≤ w'.heap.size
  block : ∀ k, k < w.heap.size → Stays w B k → w'.heap[k]? = w.heap[k]?
theorem Fr.refl (B : Nat) (w : World) : Fr B w w := ⟨rfl, rfl, rfl, Nat.le_refl _, fun _ _ _ => rfl⟩
theorem Stays.fr {B k : Nat} {w w' : World} (h : Stays w B k) (hk : k < w.heap.size) (f : Fr B w w') : Stays w' B k := by
  have e := f.block k hk h
  rcases h with h | h
  · exact Or.inl h
  · exact Or.inr fun cs T fr hx => h cs T fr (by rw [← e]; exact hx)
theorem Fr.trans {B : Nat} {a b c : World} (h : Fr B a b) (k : Fr B b c) : Fr B a c :=
  ⟨k.os.trans h.os, k.tape.trans h.tape, k.output.trans h.output, Nat.le_trans h.size k.size, fun i hi hs => by
    rw [k.block i (Nat.lt_of_lt_of_le hi h.size) (hs.fr hi h), h.block i hi hs]⟩
theorem Fr.of_below {B : Nat} {w w' : World} (h : Below w.heap.size w w') : Fr B w w' := ⟨h.os, h.tape, h.output, h.size, fun k hk _ => h.block k hk⟩
theorem Fr.below {B : Nat} {w w' : World} (h : Fr B w w') (hB : B ≤ w.heap.size) : Below B w w' := ⟨h.os, h.tape, h.output, h.size, fun k hk => h.block k (by omega) (Or.inl hk)⟩
theorem Fr.cell {B : Nat} {w w' : World} (h : Fr B w w') {a : Addr} {v : Value} (hc : w.cell? a = some v) (hs : Stays w B a.block) : w'.cell? a = some v :=
  (World.cell?_of_block (h.block _ (World.block_lt_of_cell? w a hc) hs)).trans hc
theorem Fr.alloc {B : Nat} {a w : World} (h : Fr B a w) (o : Obj) : Fr B a (w.alloc o) := h.trans (.of_below ((Below.refl _ _).alloc (Nat.le_refl _) o))
theorem Fr.drawn {B : Nat} {a w w1 : World} (h : Fr B a w) (k : ∃ n, w1 = w.drewN n) : Fr B a w1 := h.trans (.of_below (below_drawn k))

/-- Nodes that lie below. -/
structure NodesB (w : World) (B : Nat) (a : Option Addr) (l : List Nd) : Prop where
  nodes : NodesIn w a l
  low : ∀ p, a = some p → p.block < B
theorem NodesB.fr {w w' : World} {B : Nat} {a : Option Addr} {l : List Nd} (h : NodesB w B a l) (f : Fr B w w') : NodesB w' B a l :=
  ⟨⟨h.nodes.few, h.nodes.short, fun k hk => by
    obtain ⟨b, o, e, h1, h2⟩ := h.nodes.cell k hk
    have hl := h.low _ e
    exact ⟨b, o, e, f.cell h1 (Or.inl hl), f.cell h2 (Or.inl hl)⟩⟩, h.low⟩
/-- Literals whose atoms lie below, and which stay themselves. -/
structure LitsK (w : World) (B : Nat) (a : Option Addr) (c : List Lt) : Prop where
  few : c.length ≤ 8
  cell : ∀ k (h : k < c.length), ∃ b o aa cap, a = some ⟨b, o, none⟩ ∧ Stays w B b ∧ w.cell? ⟨b, o + k * 2, none⟩ = some (.bool c[k].1) ∧ w.cell? ⟨b, o + k * 2 + 1, none⟩ = some (.slice aa c[k].2.length cap) ∧ c[k].2.length ≤ cap ∧ NodesB w B aa c[k].2
theorem LitsK.fr {w w' : World} {B : Nat} {a : Option Addr} {c : List Lt} (h : LitsK w B a c) (f : Fr B w w') : LitsK w' B a c :=
  ⟨h.few, fun k hk => by
    obtain ⟨b, o, aa, cap, e, hs, h1, h2, hc, h3⟩ := h.cell k hk
    exact ⟨b, o, aa, cap, e, hs.fr (World.block_lt_of_cell? w _ h1) f, f.cell h1 hs, f.cell h2 hs, hc, h3.fr f⟩⟩

/-- What stands in the place of one variable. -/
def TermAt (w : World) (B : Nat) (r : Option (List Nd)) (v : Value) : Prop :=
  match r with
  | none => v = .slice none 0 0
  | some t => ∃ a cap, v = .slice (some a) t.length cap ∧ NodesB w B (some a) t
theorem TermAt.fr {w w' : World} {B : Nat} {r : Option (List Nd)} {v : Value} (h : TermAt w B r v) (f : Fr B w w') : TermAt w' B r v := by
  cases r with
  | none => exact h
  | some t => obtain ⟨a, cap, h1, h2⟩ := h; exact ⟨a, cap, h1, h2.fr f⟩
/-- The matcher: the literals that it looks among, what variables are, their numbers as they were bound. -/
structure MIn (w : World) (B g : Nat) (dv : Value) (L : Bd') : Prop where
  low : B ≤ g
  blk : ∃ cs, w.heap[g]? = some (.cells cs 112 (0, 0))
  among : w.cell? ⟨g, 0, none⟩ = some dv
  term : ∀ x : Nat, x < 60 → ∃ v, w.cell? ⟨g, 1 + x, none⟩ = some v ∧ TermAt w B (look L (x : Int)) v
  bound : ∃ bv, w.cell? ⟨g, 61, none⟩ = some bv ∧ w.ownsRow B 3 1 bv L.length (L.map fun p => .int .i64 p.1)
  ok : LOk L
theorem MIn.frozen {w : World} {B g : Nat} {dv : Value} {L : Bd'} (h : MIn w B g dv L) (j : Nat) : w.frozen? ⟨g, j, none⟩ = false := by
  obtain ⟨cs, hb⟩ := h.blk
  simp [World.frozen?, hb]
theorem MIn.lt {w : World} {B g : Nat} {dv : Value} {L : Bd'} (h : MIn w B g dv L) : g < w.heap.size := World.block_lt_of_cell? w _ h.among
theorem MIn.below {w w' : World} {B g : Nat} {dv : Value} {L : Bd'} (h : MIn w B g dv L) (k : Below w.heap.size w w') : MIn w' B g dv L := by
  obtain ⟨bv, b1, b2⟩ := h.bound
  refine ⟨h.low, ?_, Below.at' k (Nat.le_refl _) h.among, fun x hx => ?_, ⟨bv, Below.at' k (Nat.le_refl _) b1, own_below b2 k (Nat.le_refl _)⟩, h.ok⟩
  · obtain ⟨cs, hb⟩ := h.blk
    exact ⟨cs, by rw [k.block g h.lt]; exact hb⟩
  · obtain ⟨v, v1, v2⟩ := h.term x hx
    exact ⟨v, Below.at' k (Nat.le_refl _) v1, v2.fr (Fr.of_below k)⟩
theorem MIn.drawn {w w' : World} {B g : Nat} {dv : Value} {L : Bd'} (h : MIn w B g dv L) (k : ∃ n, w' = w.drewN n) : MIn w' B g dv L := h.below (below_drawn k)
theorem MIn.notStays {w : World} {B g : Nat} {dv : Value} {L : Bd'} (h : MIn w B g dv L) : ¬ Stays w B g := by
  rintro (hs | hs)
  · have := h.low; omega
  · obtain ⟨cs, hb⟩ := h.blk; exact (hs cs _ _ hb).1 rfl
theorem own_notStays {w : World} {B : Nat} {v : Value} {n k : Nat} {xs : List Value} (h : w.ownsRow B 3 1 v n xs) (hk : v.ownBlock = some k) : ¬ Stays w B k := by
  obtain ⟨_, ⟨rfl, _⟩ | ⟨g, cap, cur, rfl, hb, hh, _⟩⟩ := h
  · simp [Value.ownBlock] at hk
  · simp [Value.ownBlock] at hk
    subst hk
    rintro (hs | hs)
    · omega
    · exact (hs _ _ _ hh).2 rfl
/-- A store into the matcher. -/
theorem Fr.setM {w : World} {B g : Nat} {dv : Value} {L : Bd'} (h : MIn w B g dv L) (j : Nat) (u : Value) : Fr B w (w.setCell ⟨g, j, none⟩ u) :=
  ⟨rfl, rfl, rfl, by simp [World.setCell], fun k _ hs => heap_setCell_other _ _ _ _ (fun e => h.notStays (by simp at e; rw [← e]; exact hs))⟩
theorem Fr.grownInts {w w' : World} {B : Nat} {v : Value} {n : Nat} {xs : List Value} (h : w.ownsRow B 3 1 v n xs) (hg : w.grownBy w' v.ownBlock) : Fr B w w' :=
  ⟨hg.os, hg.tape, hg.output, hg.size, fun k hk hs => hg.block k hk (fun e => own_notStays h e.symm hs)⟩
/-- The row of numbers is another block than the matcher. -/
theorem MIn.apart {w : World} {B g : Nat} {dv : Value} {L : Bd'} (h : MIn w B g dv L) {v : Value} {n : Nat} {xs : List Value} (ho : w.ownsRow B 3 1 v n xs) : some g ≠ v.ownBlock := by
  intro e
  obtain ⟨_, ⟨rfl, _⟩ | ⟨k, cap, cur, rfl, hb, hh, _⟩⟩ := ho
  · simp [Value.ownBlock] at e
  · simp [Value.ownBlock] at e
    subst e
    obtain ⟨cs, hc⟩ := h.blk
    rw [hh] at hc
    simp at hc
theorem own_setCell {w : World} {B : Nat} {e : TypeId} {size : Nat} {v : Value} {n : Nat} {xs : List Value} (h : w.ownsRow B e size v n xs) {p : Addr} (hp : some p.block ≠ v.ownBlock) (u : Value) : (w.setCell p u).ownsRow B e size v n xs := by
  obtain ⟨h1, ⟨rfl, h2⟩ | ⟨g, cap, cur, rfl, hb, hh, hr⟩⟩ := h
  · exact ⟨h1, Or.inl ⟨rfl, h2⟩⟩
  · refine ⟨h1, Or.inr ⟨g, cap, cur, rfl, hb, ?_, hr⟩⟩
    rw [heap_setCell_other _ _ _ _ (fun e => hp (by simp [Value.ownBlock, e])), hh]

end Go.Proofs.YtjnddclkdofgdaaDoor
