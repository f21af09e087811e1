/- What the matcher holds behind a step. -/
import Derived.Test.YtjnddclkdofgdaaDoorCMem
namespace Go.Proofs.YtjnddclkdofgdaaDoor
open Go.RowKit

/-- A block is the matcher's. -/
def MBlk (w : World) (g : Nat) : Prop := ∃ cs, w.heap[g]? = some (.cells cs 112 (0, 0))
theorem MBlk.set {w : World} {g : Nat} (h : MBlk w g) (j : Nat) (u : Value) : MBlk (w.setCell ⟨g, j, none⟩ u) g := by
  obtain ⟨cs, hb⟩ := h
  exact ⟨_, heap_setCell_same w g j cs _ u hb⟩
theorem MBlk.grown {w w' : World} {g : Nat} {r : Option Nat} (h : MBlk w g) (hg : w.grownBy w' r) (hr : some g ≠ r) : MBlk w' g := by
  obtain ⟨cs, hb⟩ := h
  exact ⟨cs, by rw [hg.block g (Array.getElem?_eq_some_iff.1 hb).1 hr]; exact hb⟩
theorem Fr.setB {w : World} {B g : Nat} (hB : B ≤ g) (h : MBlk w g) (j : Nat) (u : Value) : Fr B w (w.setCell ⟨g, j, none⟩ u) := by
  refine ⟨rfl, rfl, rfl, by simp [World.setCell], fun k _ hs => heap_setCell_other _ _ _ _ (fun e => ?_)⟩
  simp at e
  subst e
  rcases hs with hs | hs
  · omega
  · obtain ⟨cs, hb⟩ := h; exact (hs cs _ _ hb).1 rfl
theorem look_cast {L : Bd'} {m x : Nat} {t : List Nd} (hl : look L (m : Int) = none) : look (L ++ [((m : Int), t)]) (x : Int) = if x = m then some t else look L (x : Int) := by
  rw [look_snoc]
  by_cases h : x = m
  · subst h; rw [hl]; simp
  · have : ¬ (x : Int) = (m : Int) := by omega
    simp [h, this]

theorem MIn.more {w w2 : World} {B g m cap : Nat} {dv bv bv' : Value} {L : Bd'} {a : Addr} {t : List Nd} {o : Obj} (h : MIn w B g dv L) (hm : m < 60) (hl : look L (m : Int) = none) (hN : NodesB w B (some a) t) (ht : termGo t 1 = true) (h60 : t.length ≤ 60)
    (ho : w.ownsRow B 3 1 bv L.length (L.map fun p => .int .i64 p.1)) (hg : ((w.setCell ⟨g, 1 + m, none⟩ (.slice (some a) t.length cap)).alloc o).grownBy w2 bv.ownBlock)
    (ho2 : w2.ownsRow B 3 1 bv' (L.length + 1) ((L.map fun p => .int .i64 p.1) ++ [.int .i64 (m : Int)])) :
    MIn (w2.setCell ⟨g, 61, none⟩ bv') B g dv (L ++ [((m : Int), t)]) ∧ Fr B w (w2.setCell ⟨g, 61, none⟩ bv') := by
  have hap := h.apart ho
  have b1 : MBlk (w.setCell ⟨g, 1 + m, none⟩ (.slice (some a) t.length cap)) g := MBlk.set h.blk _ _
  have o1 := own_setCell ho (p := ⟨g, 1 + m, none⟩) hap (.slice (some a) t.length cap)
  have f1 : Fr B w (w.setCell ⟨g, 1 + m, none⟩ (.slice (some a) t.length cap)) := Fr.setB h.low h.blk _ _
  have b2 : MBlk w2 g := (b1.grown (World.grownBy_alloc _ o none) (by simp)).grown hg hap
  have f2 : Fr B w w2 := (f1.alloc o).trans (Fr.grownInts (o1.alloc o) hg)
  have f3 : Fr B w (w2.setCell ⟨g, 61, none⟩ bv') := f2.trans (Fr.setB h.low b2 _ _)
  have old : ∀ j v, j ≠ 1 + m → j ≠ 61 → w.cell? ⟨g, j, none⟩ = some v → (w2.setCell ⟨g, 61, none⟩ bv').cell? ⟨g, j, none⟩ = some v := by
    intro j v h1 h2 hv
    rw [World.cell?_setCell_other w2 _ _ _ (by first | (simp; done) | (simp; omega))]
    refine hg.cell (Below.at' ((Below.refl _ _).alloc (Nat.le_refl _) o) (Nat.le_refl _) ?_) hap
    rw [World.cell?_setCell_other w _ _ _ (by first | (simp; done) | (simp; omega))]
    exact hv
  have new : (w2.setCell ⟨g, 61, none⟩ bv').cell? ⟨g, 1 + m, none⟩ = some (.slice (some a) t.length cap) := by
    rw [World.cell?_setCell_other w2 _ _ _ (by first | (simp; done) | (simp; omega))]
    obtain ⟨v, hv, _⟩ := h.term m hm
    exact hg.cell (Below.at' ((Below.refl _ _).alloc (Nat.le_refl _) o) (Nat.le_refl _) (World.cell?_setCell_same w _ _ hv)) hap
  have c61 : ∃ u, w2.cell? ⟨g, 61, none⟩ = some u := by
    obtain ⟨bv0, hb0, _⟩ := h.bound
    refine ⟨bv0, hg.cell (Below.at' ((Below.refl _ _).alloc (Nat.le_refl _) o) (Nat.le_refl _) ?_) hap⟩
    rw [World.cell?_setCell_other w _ _ _ (by first | (simp; done) | (simp; omega))]
    exact hb0
  obtain ⟨u, hu⟩ := c61
  have hap2 : some g ≠ bv'.ownBlock := by
    intro e
    obtain ⟨_, ⟨rfl, _⟩ | ⟨k, cap, cur, rfl, hb, hh, _⟩⟩ := ho2
    · simp [Value.ownBlock] at e
    · simp [Value.ownBlock] at e
      subst e
      obtain ⟨cs, hc⟩ := b2
      rw [hh] at hc
      simp at hc
  refine ⟨⟨h.low, b2.set _ _, old 0 dv (by omega) (by omega) h.among, fun x hx => ?_, ⟨bv', World.cell?_setCell_same w2 _ _ hu, ?_⟩, h.ok.snoc hl (by omega) (by omega) ht h60⟩, f3⟩
  · rw [look_cast hl]
    by_cases hxm : x = m
    · subst hxm
      rw [if_pos rfl]
      exact ⟨_, new, a, cap, rfl, hN.fr f3⟩
    · rw [if_neg hxm]
      obtain ⟨v, hv, hT⟩ := h.term x hx
      exact ⟨v, old _ v (by omega) (by omega) hv, hT.fr f3⟩
  · have := own_setCell ho2 (p := ⟨g, 61, none⟩) hap2 bv'
    simpa using this

/-- Behind the stores of free. -/
theorem MIn.less {w w' : World} {B g : Nat} {dv : Value} {L M : Bd'} (h : MIn w B g dv (L ++ M)) (hblk : MBlk w' g) (hf : Fr B w w')
    (h0 : w'.cell? ⟨g, 0, none⟩ = some dv) (hx : ∀ x : Nat, x < 60 → w'.cell? ⟨g, 1 + x, none⟩ = if (x : Int) ∈ M.map Prod.fst then some (.slice none 0 0) else w.cell? ⟨g, 1 + x, none⟩) (h1 : (w'.cell? ⟨g, 61, none⟩).isSome = true) {bv' : Value}
    (ho : w'.ownsRow B 3 1 bv' L.length (L.map fun p => .int .i64 p.1)) : MIn (w'.setCell ⟨g, 61, none⟩ bv') B g dv L ∧ Fr B w (w'.setCell ⟨g, 61, none⟩ bv') := by
  have f3 : Fr B w (w'.setCell ⟨g, 61, none⟩ bv') := hf.trans (Fr.setB h.low hblk _ _)
  obtain ⟨u, hu⟩ := Option.isSome_iff_exists.1 h1
  have hap2 : some g ≠ bv'.ownBlock := by
    intro e
    obtain ⟨_, ⟨rfl, _⟩ | ⟨k, cap, cur, rfl, hb, hh, _⟩⟩ := ho
    · simp [Value.ownBlock] at e
    · simp [Value.ownBlock] at e
      subst e
      obtain ⟨cs, hc⟩ := hblk
      rw [hh] at hc
      simp at hc
  refine ⟨⟨h.low, hblk.set _ _, by rw [World.cell?_setCell_other w' _ _ _ (by simp)]; exact h0, fun x hx60 => ?_, ⟨bv', World.cell?_setCell_same w' _ _ hu, own_setCell ho (p := ⟨g, 61, none⟩) hap2 bv'⟩, h.ok.left⟩, f3⟩
  rw [World.cell?_setCell_other w' _ _ _ (by first | (simp; done) | (simp; omega)), hx x hx60]
  obtain ⟨v, hv, hT⟩ := h.term x hx60
  by_cases hm : (x : Int) ∈ M.map Prod.fst
  · rw [if_pos hm]
    refine ⟨_, rfl, ?_⟩
    have : look L (x : Int) = none := by
      cases hl : look L (x : Int) with
      | none => rfl
      | some t =>
        exfalso
        have hnd := h.ok.once
        rw [List.map_append, List.nodup_append] at hnd
        exact hnd.2.2 _ (List.mem_map.2 ⟨_, look_mem hl, rfl⟩) _ hm rfl
    rw [this]
    rfl
  · rw [if_neg hm]
    refine ⟨v, hv, ?_⟩
    have e : look (L ++ M) (x : Int) = look L (x : Int) := by
      rw [look_append]
      have : look M (x : Int) = none := by
        cases hl : look M (x : Int) with
        | none => rfl
        | some t => exact absurd (List.mem_map.2 ⟨_, look_mem hl, rfl⟩) hm
      rw [this]
      simp
    rw [← e]
    exact hT.fr f3

end Go.Proofs.YtjnddclkdofgdaaDoor
