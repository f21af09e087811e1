/- The program: two lists of literals put together. -/
import Derived.Test.YtjnddclkdofgdaaDoorCLinked
import Derived.Lib.AppendZeros
import Derived.Deep.SlicePairs
namespace Go.Proofs.YtjnddclkdofgdaaDoor
open Go.RowKit Go.Shelf
set_option maxRecDepth 100000

theorem zeros_row (w : World) (n cap : Nat) (z : Value) (hz : z.cells.size = 2) (hn : n ≤ cap) (hc : cap ≤ maxLen) :
    (w.drew.alloc (.cells (Builtin.zeroCells z.cells n ++ Builtin.zeroCells z.cells (cap - n)) 30)).ownsRow w.heap.size 30 2 (.slice (some ⟨w.heap.size, 0, none⟩) 0 cap) 0 [] := by
  refine ⟨by simp, .inr ⟨w.heap.size, cap, _, rfl, Nat.le_refl _, heap_alloc_new w.drew _, Nat.zero_le _, hc, ?_, by simp⟩⟩
  simp only [Array.size_append, size_zeroCells, hz, ← Nat.add_mul]
  congr 1
  omega

set_option maxHeartbeats 400000 in
theorem grow_any (n : Nat) (w : World) (hn : n ≤ 16) :
    Calls Tryd.prog 127 #[.slice none 0 0, .int .i64 n] w fun e w' => ∃ v, e = .returned v ∧ w'.ownsRow w.heap.size 30 2 v 0 [] ∧ Below w.heap.size w w' := by
  obtain ⟨iL, hL, hL0, hL1, hL2⟩ := info_parts infoLit
  by_cases h0 : n = 0
  · subst h0
    go_enter Tryd.func127, Tryd.ntmps127
    go_wp2
    go_ret
    exact ⟨_, rfl, World.ownsRow_nil _ _ _ _, Below.refl _ _⟩
  · have hge := grownCap_ge w n 0 30
    have hle := grownCap_le_maxLen w n 0 30 (by unfold maxLen; omega)
    have hR := hide (Lib.run_append_nil_zeros (P := Tryd.prog) w 22 3 22 30 iL (.agg #[.bool false, .slice none 0 0]) .i64 .i64 Tryd.underlying22 Tryd.underlying3 hL hL0 n (by omega) (by omega) (by omega) (by rw [hL2]; omega))
    have HZ := hide (zeros_row w n (grownCap w n 0 30) (.agg #[.bool false, .slice none 0 0]) rfl hge hle)
    have hgi : (0 : Int) ≤ (grownCap w n 0 30 : Int) := by omega
    have hn1 : (0 : Int) < (n : Int) := by omega
    have HBW : Hid (Below w.heap.size w (w.drew.alloc (.cells (Builtin.zeroCells (Value.agg #[.bool false, .slice none 0 0]).cells n ++ Builtin.zeroCells (Value.agg #[.bool false, .slice none 0 0]).cells (grownCap w n 0 30 - n)) 30))) := hide ((below_drawn (w := w) (w1 := w.drew) ⟨1, rfl⟩).alloc (Nat.le_refl _) _)
    clear h0
    go_enter Tryd.func127, Tryd.ntmps127
    go_wp2_with (first
      | (at_builtin; refine Lib.wpList_append_run _ rfl _ _ _ _ rfl _ _ rfl rfl _ _ (unhide hR) ?_)
      | go_in)
    go_ret
    exact ⟨_, rfl, HZ.out, HBW.out⟩
theorem litCells_append (P Q : List (Lt × Value)) : litCells (P ++ Q) = litCells P ++ litCells Q := by simp [litCells]
theorem litCells_one (w : World) (B : Nat) (P : List (Lt × Value)) (h : ∀ p ∈ P, AtomB w B p.2 p.1.2) : ∀ u ∈ litCells P, u.oneCell' = true := by
  intro u hu
  simp only [litCells, List.mem_flatMap] at hu
  obtain ⟨p, hp, hu⟩ := hu
  obtain ⟨a, cap, e, _⟩ := h p hp
  simp at hu
  rcases hu with rfl | rfl
  · rfl
  · rw [e]; rfl
/-- The cells of literals, read off. -/
theorem LitsK.cells {w : World} {B b o : Nat} {c : List Lt} (h : LitsK w B (some ⟨b, o, none⟩) c) : ∃ P : List (Lt × Value), P.map Prod.fst = c ∧ (∀ p ∈ P, AtomB w B p.2 p.1.2) ∧ ∀ j u, (litCells P)[j]? = some u → w.cell? ⟨b, o + j, none⟩ = some u := by
  obtain ⟨f, hf⟩ := Deep.choose_lt (α := Value) (n := c.length) (p := fun k v => ∀ hk : k < c.length, AtomB w B v c[k].2 ∧ w.cell? ⟨b, o + k * 2, none⟩ = some (.bool c[k].1) ∧ w.cell? ⟨b, o + k * 2 + 1, none⟩ = some v) (fun k hk => by
    obtain ⟨b', o', aa, cap, e, _, h1, h2, h3, h4⟩ := h.cell k hk
    obtain ⟨rfl, rfl⟩ : b = b' ∧ o = o' := by simpa using e
    exact ⟨_, fun _ => ⟨⟨aa, cap, rfl, h3, h4⟩, h1, h2⟩⟩)
  have hl : ((List.range c.length).map fun k => ((c[k]?).getD (false, []), f k)).length = c.length := by simp
  refine ⟨(List.range c.length).map fun k => ((c[k]?).getD (false, []), f k), ?_, fun p hp => ?_, fun j u hu => ?_⟩
  · rw [List.map_map]
    refine List.ext_getElem (by simp) fun k h1 h2 => ?_
    simp [h2]
  · obtain ⟨k, hk, rfl⟩ := List.mem_map.1 hp
    have hk' : k < c.length := by simpa using hk
    simp only [List.getElem?_eq_getElem hk', Option.getD_some]
    exact (hf k hk' hk').1
  · have hj : j < (litCells ((List.range c.length).map fun k => ((c[k]?).getD (false, []), f k))).length := (List.getElem?_eq_some_iff.1 hu).1
    rw [litCells_length, hl] at hj
    have hk : j / 2 < c.length := by omega
    obtain ⟨q1, q2⟩ := litCells_at ((List.range c.length).map fun k => ((c[k]?).getD (false, []), f k)) (j / 2) (by rw [hl]; exact hk)
    simp [hk] at q1 q2
    obtain ⟨_, e1, e2⟩ := hf (j / 2) hk hk
    rcases Nat.mod_two_eq_zero_or_one j with h0 | h0
    · have e : j = j / 2 * 2 := by omega
      rw [e] at hu ⊢
      rw [q1] at hu
      simp at hu
      rw [← hu]
      exact e1
    · have e : j = j / 2 * 2 + 1 := by omega
      rw [e] at hu ⊢
      rw [q2] at hu
      simp at hu
      rw [← hu, ← Nat.add_assoc]
      exact e2

set_option maxHeartbeats 1000000 in
theorem concat_any (B q b1 o1 n1 b2 o2 n2 : Nat) (c1 c2 : List Lt) (w : World) (h1 : LitsK w B (some ⟨b1, o1, none⟩) c1) (h2 : LitsK w B (some ⟨b2, o2, none⟩) c2) (k0 : w.cell? ⟨q, 0, none⟩ = some (.slice (some ⟨b1, o1, none⟩) c1.length n1)) (k1 : w.cell? ⟨q, 1, none⟩ = some (.slice (some ⟨b2, o2, none⟩) c2.length n2)) :
    Calls Tryd.prog 105 #[.slice (some ⟨q, 0, none⟩) 2 2] w fun e w' => ∃ v, e = .returned v ∧ RowK w B w.heap.size w' v (c1 ++ c2) ∧ Below w.heap.size w w' := by
  obtain ⟨iL, hL, hL0, hL1, hL2⟩ := info_parts infoLit
  have f1 := h1.few
  have f2 := h2.few
  obtain ⟨P1, hP1, hA1, hc1⟩ := h1.cells
  obtain ⟨P2, hP2, hA2, hc2⟩ := h2.cells
  have hl1 : P1.length = c1.length := by rw [← hP1]; simp
  have hl2 : P2.length = c2.length := by rw [← hP2]; simp
  have CG := hide (grow_any (c1.length + c2.length) w (by omega))
  have HL1 := hide hl1
  have HL2 := hide hl2
  have HC1 := hide hc1
  have HC2 := hide hc2
  have HA1 := hide hA1
  have HA2 := hide hA2
  have HP1 := hide hP1
  have HP2 := hide hP2
  clear h1 h2 hP1 hP2 hA1 hA2 hc1 hc2 hl1 hl2
  go_enter Tryd.func105, Tryd.ntmps105
  go_wp2
  go_loop [3, 11] (fun t i => ∃ k m : Nat, k ≤ 2 ∧ i = .int .i64 k ∧ t = .int .i64 m ∧ m ≤ 16 ∧ ((k = 0 ∧ m = 0) ∨ (k = 1 ∧ m = c1.length) ∨ (k = 2 ∧ m = c1.length + c2.length))) (fun _ i => 2 - (intOf i).toNat)
  case atStart => exact ⟨0, 0, by omega, rfl, rfl, by omega, Or.inl ⟨rfl, rfl⟩⟩
  case round =>
    obtain ⟨k, m, hk, rfl, rfl, hm, hc⟩ := hrel
    rcases hc with ⟨rfl, rfl⟩ | ⟨rfl, hc⟩ | ⟨rfl, hc⟩
    · go_wp2
      go_round
      case rel => exact ⟨1, c1.length, by omega, by go_num, by go_num, by omega, Or.inr (Or.inl ⟨rfl, rfl⟩)⟩
      case measure => simp [intOf]
    · have HC := hide hc
      clear hc
      go_wp2
      go_round
      case rel => exact ⟨2, m + c2.length, by omega, by go_num, by go_num, by have := HC.out; omega, Or.inr (Or.inr ⟨rfl, by rw [HC.out]⟩)⟩
      case measure => simp [intOf]
    · subst hc
      go_wp2_with (go_at_call 127; refine (unhide CG).mono ?_; rintro e w1 ⟨v, rfl, ho, hb⟩; have HO := hide ho; have HB := hide hb; clear ho hb)
      go_loopw [6, 27] (fun t i wr => ∃ (k : Nat) (P : List (Lt × Value)), k ≤ 2 ∧ i = .int .i64 k ∧ wr.ownsRow w.heap.size 30 2 t P.length (litCells P) ∧ Below w.heap.size w wr ∧ ((k = 0 ∧ P = []) ∨ (k = 1 ∧ P = P1) ∨ (k = 2 ∧ P = P1 ++ P2))) (fun _ i _ => 2 - (intOf i).toNat)
      case atStart => exact ⟨0, [], by omega, rfl, HO.out, HB.out, Or.inl ⟨rfl, rfl⟩⟩
      case round =>
      obtain ⟨k, P, hk, rfl, ho', hb', hor⟩ := hrel
      have HO' := hide ho'
      clear ho'
      rcases hor with ⟨rfl, rfl⟩ | ⟨rfl, hor⟩ | ⟨rfl, hor⟩
      · have ho := HO'.out
        have HCX := hide (fun j u (h : (litCells P1)[j]? = some u) => Below.at' hb' (Nat.le_refl _) (HC1.out j u h))
        have HB' := hide hb'
        have kk := Below.at' hb' (Nat.le_refl _) k0
        have hbs := hb'.size
        clear hb' HO'
        go_wp2_with (first
          | (at_builtin; refine wpList_append_own _ rfl _ _ 22 rfl w.heap.size 30 iL (.agg #[.bool false, .slice none 0 0]) 2 32 Tryd.underlying22 hL hL0 hL1 hL2 rfl (by decide) _ _ _ rfl ho ⟨b1, o1, none⟩ c1.length n1 (litCells P1) rfl ?d1 ?d2 ?d3 ?d4 ?d5 ?d6 ?_)
          | go_in)
        case d1 => rw [litCells_length, HL1.out]
        case d2 => exact fun j u h => by rw [Addr.add_lit]; exact HCX.out j u h
        case d3 => exact litCells_one w B P1 HA1.out
        case d4 => unfold maxLen; have := HL1.out; have := HL2.out; simp; omega
        case d5 => have := HL1.out; have := HL2.out; simp; omega
        case d6 => exact hbs
        intro v' w2 ho2 hg2 _
        have HN : Hid (w2.ownsRow w.heap.size 30 2 v' ([] ++ P1).length (litCells ([] ++ P1))) := hide (by
          have e := ho2
          rw [← HL1.out, ← litCells_append] at e
          simpa using e)
        have HBN := hide (HB'.out.grown hg2 hbs fun k e => (own_lt ho k e).1)
        clear ho2 hg2 ho
        go_wp2
        go_roundw
        case rel => exact ⟨1, [] ++ P1, by omega, by go_num, HN.out, HBN.out, Or.inr (Or.inl ⟨rfl, by simp⟩)⟩
        case measure => simp [intOf]
      · replace hor := hor.symm
        subst hor
        have ho := HO'.out
        have HCX := hide (fun j u (h : (litCells P2)[j]? = some u) => Below.at' hb' (Nat.le_refl _) (HC2.out j u h))
        have HB' := hide hb'
        have kk := Below.at' hb' (Nat.le_refl _) k1
        have hbs := hb'.size
        clear hb' HO'
        go_wp2_with (first
          | (at_builtin; refine wpList_append_own _ rfl _ _ 22 rfl w.heap.size 30 iL (.agg #[.bool false, .slice none 0 0]) 2 32 Tryd.underlying22 hL hL0 hL1 hL2 rfl (by decide) _ _ _ rfl ho ⟨b2, o2, none⟩ c2.length n2 (litCells P2) rfl ?d1 ?d2 ?d3 ?d4 ?d5 ?d6 ?_)
          | go_in)
        case d1 => rw [litCells_length, HL2.out]
        case d2 => exact fun j u h => by rw [Addr.add_lit]; exact HCX.out j u h
        case d3 => exact litCells_one w B P2 HA2.out
        case d4 => unfold maxLen; have := HL1.out; have := HL2.out; simp; omega
        case d5 => have := HL1.out; have := HL2.out; simp; omega
        case d6 => exact hbs
        intro v' w2 ho2 hg2 _
        have HN : Hid (w2.ownsRow w.heap.size 30 2 v' (P1 ++ P2).length (litCells (P1 ++ P2))) := hide (by
          have e := ho2
          rw [← HL2.out, ← litCells_append] at e
          simpa using e)
        have HBN := hide (HB'.out.grown hg2 hbs fun k e => (own_lt ho k e).1)
        clear ho2 hg2 ho
        go_wp2
        go_roundw
        case rel => exact ⟨2, P1 ++ P2, by omega, by go_num, HN.out, HBN.out, Or.inr (Or.inr ⟨rfl, by simp⟩)⟩
        case measure => simp [intOf]
      · subst hor
        have HB' := hide hb'
        clear hb'
        go_wp2
        go_ret
        exact ⟨_, rfl, ⟨P1 ++ P2, by rw [List.map_append, HP1.out, HP2.out], HO'.out, fun p hp => by rcases List.mem_append.1 hp with hp | hp; exact HA1.out p hp; exact HA2.out p hp⟩, HB'.out⟩

end Go.Proofs.YtjnddclkdofgdaaDoor
