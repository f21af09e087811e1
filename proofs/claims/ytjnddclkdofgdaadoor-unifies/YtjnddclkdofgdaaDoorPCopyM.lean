/- The copy of a clause. The argument as the walks read it. -/
import Derived.Test.YtjnddclkdofgdaaDoorPCopy0
import Derived.Deep.RegionHeld3
import Derived.Test.YtjnddclkdofgdaaDoorCaps
import Derived.Deep.SlicePairs
import Derived.SizedLaws
namespace Go.Proofs.YtjnddclkdofgdaaDoor
open Go.RowKit
set_option maxRecDepth 100000

/-- A list of nodes that is nothing has no room. -/
def NilsIn (w : World) (a : Option Addr) (c : List Lt) : Prop := ∀ k, k < c.length → ∀ b o aa n cap, a = some ⟨b, o, none⟩ → w.cell? ⟨b, o + k * 2 + 1, none⟩ = some (.slice aa n cap) → aa = none → cap = 0
theorem NilsIn.below {w w1 : World} {a : Option Addr} {c : List Lt} (h : NilsIn w a c) (hl : LitsIn w a c) (k : Below w.heap.size w w1) : NilsIn w1 a c := by
  intro i hi b o aa n cap ha hc
  obtain ⟨b', o', aa', cap', ha', _, hc', _⟩ := hl.cell i hi
  obtain ⟨rfl, rfl⟩ : b = b' ∧ o = o' := by rw [ha] at ha'; simpa using ha'
  have := Below.at' k (Nat.le_refl _) hc'
  rw [this] at hc
  obtain ⟨rfl, rfl, rfl⟩ : aa' = aa ∧ _ = n ∧ cap' = cap := by simpa using hc
  exact h i hi b o aa' _ cap' ha hc'
theorem own_caps {w : World} {B : Nat} {v : Value} {Q : List (Lt × Value)} {a : Option Addr} {m cap : Nat} (ho : w.ownsRow B 30 2 v Q.length (litCells Q)) (hQ : ∀ q ∈ Q, w.ownsRow B 27 2 q.2 q.1.2.length (nodeCells q.1.2)) (hv : v = .slice a m cap) : CapsIn w a (Q.map Prod.fst) := by
  obtain ⟨a', cap', hv', hc⟩ := own_lits ho
  rw [hv'] at hv
  obtain ⟨rfl, -, -⟩ : a' = a ∧ Q.length = m ∧ cap' = cap := by simpa using hv
  intro k hk b o aa n cc ha hcell
  have hk' : k < Q.length := by simpa using hk
  obtain ⟨g, ha', h1, h2⟩ := hc k hk'
  rw [ha] at ha'
  obtain ⟨rfl, rfl⟩ : b = g ∧ o = 0 := by simpa using ha'
  rw [Nat.zero_add] at hcell
  rw [h2] at hcell
  have hq := hQ Q[k] (List.getElem_mem _)
  have e : Q[k].2 = .slice aa n cc := by simpa using hcell
  rw [e] at hq
  obtain ⟨_, ⟨h, h0⟩ | ⟨g', c', cur, h, _, _, hnc, _⟩⟩ := hq
  · obtain ⟨-, h3, h4⟩ : aa = none ∧ n = 0 ∧ cc = 0 := by simpa using h
    omega
  · obtain ⟨-, h3, h4⟩ : aa = some ⟨g', 0, none⟩ ∧ n = _ ∧ cc = c' := by simpa using h
    omega

/-- Behind the store of the nodes' copy into the new literal. -/
theorem copy_put {wr w0 w1 : World} {xb : Bool} {va : Option Addr} {vcp : Nat} {xl : List Nd} (hd : Below wr.heap.size wr w0) (hw0 : w0.heap[wr.heap.size]? = some (.cells #[.bool xb, .slice none 0 0] 30)) (hown : w1.ownsRow w0.heap.size 27 2 (.slice va xl.length vcp) xl.length (nodeCells xl)) (hgrow : w0.grownBy w1 none) :
    (w1.setCell ⟨wr.heap.size, 1, none⟩ (.slice va xl.length vcp)).cell? ⟨wr.heap.size, 0, none⟩ = some (.bool xb) ∧ (w1.setCell ⟨wr.heap.size, 1, none⟩ (.slice va xl.length vcp)).cell? ⟨wr.heap.size, 1, none⟩ = some (.slice va xl.length vcp) ∧
      (w1.setCell ⟨wr.heap.size, 1, none⟩ (.slice va xl.length vcp)).ownsRow wr.heap.size 27 2 (.slice va xl.length vcp) xl.length (nodeCells xl) ∧ Below wr.heap.size wr (w1.setCell ⟨wr.heap.size, 1, none⟩ (.slice va xl.length vcp)) := by
  have hlt : wr.heap.size < w0.heap.size := (Array.getElem?_eq_some_iff.1 hw0).1
  have h1 : w1.heap[wr.heap.size]? = some (.cells #[.bool xb, .slice none 0 0] 30) := by rw [hgrow.block _ hlt (by simp), hw0]
  obtain ⟨c0, c1⟩ := box_cell h1
  refine ⟨?_, World.cell?_setCell_same w1 _ _ c1, ?_, (hd.grown hgrow hd.size (fun k e => by simp at e)).setCell (Nat.le_refl _) _⟩
  · rw [World.cell?_setCell_other w1 _ _ _ (by simp), c0]
  · refine own_mono (hown.kept (grown_setCell w1 _ _) ?_) (Nat.le_of_lt hlt)
    right
    intro e
    have := (own_lt hown _ e).1
    simp at this
    omega

set_option maxHeartbeats 2000000 in
theorem copied_any (a : Option Addr) (cp : Nat) (c : List Lt) (w : World) (h : LitsIn w a c) (hz : NilsIn w a c) :
    Calls Tryd.prog 13 #[.slice a c.length cp] w fun e w' => ∃ v Q, e = .returned v ∧ Q.map Prod.fst = c ∧ w'.ownsRow w.heap.size 30 2 v Q.length (litCells Q) ∧ (∀ q ∈ Q, w'.ownsRow w.heap.size 27 2 q.2 q.1.2.length (nodeCells q.1.2)) ∧ Below w.heap.size w w' := by
  obtain ⟨iL, hL, hL0, hL1, hL2⟩ := info_parts infoLit
  have hf := h.few
  go_enter Tryd.func13, Tryd.ntmps13
  go_wp2
  go_loopw [3, 4] (fun o i wr => ∃ (k : Nat) (Q : List (Lt × Value)), k ≤ c.length ∧ i = .int .i64 k ∧ Q.map Prod.fst = c.take k ∧ wr.ownsRow w.heap.size 30 2 o Q.length (litCells Q) ∧ (∀ q ∈ Q, wr.ownsRow w.heap.size 27 2 q.2 q.1.2.length (nodeCells q.1.2)) ∧ Below w.heap.size w wr)
    (fun _ i _ => c.length - (intOf i).toNat)
  case atStart => exact ⟨0, [], Nat.zero_le _, rfl, rfl, World.ownsRow_nil _ _ _ _, fun q hq => by simp at hq, Below.refl _ _⟩
  case round =>
    obtain ⟨k, Q, hk, rfl, hQ, ho, hA, hb⟩ := hrel
    have hQl : Q.length ≤ k ∧ k ≤ Q.length := by
      have h1 := congrArg List.length hQ
      simp at h1
      omega
    by_cases hlt : k < c.length
    · obtain ⟨b, q, aa, acp, rfl, e1, f1, g1⟩ := h.cell k hlt
      have hzz := hz k hlt b q aa _ acp rfl f1
      have e2 := Below.at' hb (Nat.le_refl _) e1
      have f2 := Below.at' hb (Nat.le_refl _) f1
      have hst : c.take (k + 1) = c.take k ++ [c[k]] := List.take_succ_eq_append_getElem hlt
      rw [← hQ] at hst
      have HN := hide (g1.below hb (Nat.le_refl _))
      generalize c[k] = x at *
      obtain ⟨xb, xl⟩ := x
      simp only at e2 f2 HN
      have HST := hide hst
      have HA := hide hA
      have HO := hide ho
      have HB := hide hb
      have HZ := hide hzz
      have hbs := hb.size
      clear e1 f1 h hst hQ hA ho hb g1 hz hzz
      have z1 : (0 : Int) ≤ (k : Int) := Int.natCast_nonneg _
      have z2 : (k : Int) < (c.length : Int) := by omega
      have HN1 := hide (HN.out.below ((Below.refl _ _).alloc (Nat.le_refl _) (.cells #[.bool xb, .slice none 0 0] 30)) (Nat.le_refl _))
      have l3 : b < wr.heap.size := World.block_lt_of_cell? wr _ f2
      have hne1 := World.new_ne wr _ f2
      have HF3 := hide (Below.at' ((Below.refl wr.heap.size wr).alloc (Nat.le_refl _) (.cells #[.bool xb, .slice none 0 0] 30)) (Nat.le_refl _) f2)
      go_wp2_with fail
      go_region_law (refine step_copy (by rfl) _ _ (by rfl) aa acp xl (by rfl) (by rfl) (by first | exact HN1.out | exact HN1.out.drawn ⟨1, rfl⟩ | exact HN1.out.drawn ⟨2, rfl⟩) HZ.out ?_; intro v w1 hown1 hgrow; obtain ⟨va, vcp, rfl⟩ := own_shape hown1; have hcl := hgrow.cell (a := ⟨wr.heap.size, 1, none⟩) (v := .slice none 0 0) (by simp) (by simp); have hfz : w1.frozen? ⟨wr.heap.size, 1, none⟩ = false := (by rw [hgrow.frozen_far _ (by simp) (by simp)]; simp); have hc2 := hgrow.cell (a := ⟨b, q + k * 2 + 1, none⟩) (v := .slice aa xl.length acp) HF3.out (by simp))
      all_goals
        have hp := copy_put (xb := xb) (wr := wr) ((Below.refl _ _).alloc (Nat.le_refl _) (.cells #[.bool xb, .slice none 0 0] 30)).drew (heap_new wr _) hown1 hgrow
        generalize w1.setCell ⟨wr.heap.size, 1, none⟩ (.slice va xl.length vcp) = w2 at *
        obtain ⟨p0, p1, pv, pb⟩ := hp
        have ho2 := own_below HO.out pb (Nat.le_refl _)
        have HA2 := hide (fun q hq => own_below (HA.out q hq) pb (Nat.le_refl _))
        have HV := hide (own_mono pv hbs)
        have HB2 := hide (HB.out.trans (pb.mono hbs))
        have h2s := HB2.out.size
        clear hown1 hgrow hcl hfz hc2 pv pb e2 f2 hne1
        go_wp2_with (first
          | (at_builtin; refine wpList_append_own _ rfl (.tmp 27) (.tmp 29) 22 rfl w.heap.size 30 iL (.agg #[.bool false, .slice none 0 0]) 2 32 Tryd.underlying22 hL hL0 hL1 hL2 rfl (by decide) _ _ _ rfl (ho2.alloc _) ⟨w2.heap.size, 0, none⟩ 1 1 [.bool xb, .slice va xl.length vcp] rfl rfl ?c1 ?c2 ?c3 ?c4 ?c5 ?_)
          | go_in)
        case c1 => exact new2 _ _ _ _ _ (by simp)
        case c2 => first | exact oneLit _ _ _ _ | exact ⟨rfl, rfl⟩
        case c3 => unfold maxLen; omega
        case c4 => omega
        case c5 => exact Nat.le_trans h2s (World.grownBy_alloc _ _ none).size
        intro v' w3 ho' hg' _
        have R := out_more (x := (xb, xl)) (sn := []) (s := .slice none 0 0) (fun q hq => (HA2.out q hq).alloc _) (ho2.alloc _) (World.ownsRow_nil _ _ _ _) (HV.out.alloc _) ho' hg'
        have HB3 := hide ((HB2.out.alloc h2s _).grown hg' (by simp; omega) fun k e => (own_lt ho2 k e).1)
        have HR := hide R
        clear ho' hg' ho2 R
        go_wp2
        go_roundw
        case rel => exact ⟨k + 1, Q ++ [((xb, xl), .slice va xl.length vcp)], by omega, by go_num, by rw [HST.out]; simp, HR.out.2.1, HR.out.1, HB3.out⟩
        case measure => simp [intOf]; omega
    · have hk1 : c.take k = c := List.take_of_length_le (by omega)
      rw [hk1] at hQ
      have F := hide (And.intro hQ (And.intro ho (And.intro hA hb)))
      clear hk1 hQ hA ho hb
      go_wp2
      go_ret
      exact ⟨_, Q, rfl, F.out⟩
end Go.Proofs.YtjnddclkdofgdaaDoor

namespace Go.Proofs.YtjnddclkdofgdaaDoor
open Go.RowKit Go.ChangeShapes Go.WideShapes
set_option maxRecDepth 100000

theorem spot_none {w : World} {a : Addr} {v : Value} (h : w.cell? (a.add (0 * 2)) = some v) : ∃ b o, a = ⟨b, o, none⟩ := by
  obtain ⟨b, o, sp⟩ := a
  cases sp with
  | none => exact ⟨b, o, rfl⟩
  | some s =>
    simp only [Addr.add, World.cell?] at h
    split at h <;> simp at h
theorem add_at (b o j : Nat) : (⟨b, o, none⟩ : Addr).add j = ⟨b, o + j, none⟩ := by unfold Addr.add; split <;> simp_all
theorem bytesNode : Tryd.prog.bytesOf 27 = 24 := by kernel_rfl
theorem bytesLit : Tryd.prog.bytesOf 30 = 32 := by kernel_rfl

theorem weightsAll_mem {H : Type} {P : Program} {e : TypeId} {d : DataW H} : ∀ {ds : List (DataW H)}, d ∈ ds → ∀ n ∈ d.weights P e, n ∈ DataW.weightsAll P e ds
  | [], h, _, _ => by simp at h
  | x :: r, h, n, hn => by
    simp only [DataW.weightsAll, List.mem_append]
    rcases List.mem_cons.1 h with rfl | h
    · exact Or.inl hn
    · exact Or.inr (weightsAll_mem h n hn)
theorem weights_node {H : Type} {len : Nat} {D0 D1 : Nat → DataW H} {sp : List (DataW H)} {i n : Nat} (hi : i < len) (hn : n ∈ (D0 i).weights Tryd.prog 9) : n ∈ (DataW.slice ((List.range len).map fun i => .agg [D0 i, D1 i]) sp).weights Tryd.prog 28 := by
  simp only [DataW.weights, Tryd.underlying28, List.mem_cons, List.mem_append]
  right; left
  refine weightsAll_mem (d := .agg [D0 i, D1 i]) (List.mem_map.2 ⟨i, List.mem_range.2 hi, rfl⟩) n ?_
  simp only [DataW.weights, Tryd.underlying27]
  exact DataW.weights_mem_each (j := 0) rfl rfl n hn
theorem weights_lit {H : Type} {len : Nat} {D0 D1 : Nat → DataW H} {sp : List (DataW H)} {i n : Nat} (hi : i < len) (hn : n ∈ (D1 i).weights Tryd.prog 28) : n ∈ (DataW.slice ((List.range len).map fun i => .agg [D0 i, D1 i]) sp).weights Tryd.prog 22 := by
  simp only [DataW.weights, Tryd.underlying22, List.mem_cons, List.mem_append]
  right; left
  refine weightsAll_mem (d := .agg [D0 i, D1 i]) (List.mem_map.2 ⟨i, List.mem_range.2 hi, rfl⟩) n ?_
  simp only [DataW.weights, Tryd.underlying30]
  exact DataW.weights_mem_each (j := 1) rfl rfl n hn

theorem open_nodes {H : Type} {enc : TypeId × Value → H} {w : World} {fuel : Nat} {cs : List Value} {x : DataW H × List MemPlace} (h : DataW.trod enc Tryd.prog w 0 (fun _ => true) true fuel 28 cs = some x) (hz : ∀ n ∈ x.1.weights Tryd.prog 28, n ≤ reachBytes) :
    ∃ a l cap, cs = [.slice a (List.length l) cap] ∧ NodesIn w a l ∧ (a = none → cap = 0) := by
  rcases Deep.open_slice_pairs Tryd.underlying28 Tryd.underlying27 (by kernel_rfl) rfl rfl (by kernel_rfl) (by kernel_rfl) h with ⟨rfl, rfl⟩ | ⟨a, len, cap, m, n, V0, V1, D0, D1, P0, P1, rfl, hb, hl, hm, hmm, rfl, hx⟩
  · exact ⟨none, [], 0, rfl, ⟨by decide, fun k h => absurd h (by simp), fun k h => absurd h (by simp)⟩, fun _ => rfl⟩
  · have hmc : m = cap := by simpa using hmm
    subst hmc
    obtain ⟨f, hf⟩ := Deep.choose_lt (α := Nd) (n := len) (p := fun i nd => V0 i = .string nd.1 ∧ V1 i = .int .i64 nd.2 ∧ D0 i = .lit (.string nd.1.data.toList)) (fun i hi => by
      obtain ⟨_, _, h0, h1⟩ := hx i (by omega)
      obtain ⟨s, hs, hd, _⟩ := DataW.trod_string Tryd.underlying9 h0
      obtain ⟨z, hz, _⟩ := DataW.trod_int Tryd.underlying3 h1
      exact ⟨(s, z), by simpa using hs, by simpa using hz, congrArg Prod.fst hd⟩)
    have hw : (len + (m - len)) * 24 ≤ reachBytes := by
      have := hz ((((List.range len).map fun i => DataW.agg [D0 i, D1 i]).length + ((List.range (m - len)).map fun j => DataW.agg [D0 (len + j), D1 (len + j)]).length) * Tryd.prog.bytesOf 27) (by simp only [DataW.weights, Tryd.underlying28]; exact List.mem_cons_self)
      rw [bytesNode] at this
      simpa using this
    have hr := reachBytes_lt
    refine ⟨some a, (List.range len).map f, m, by simp, ⟨by simp; omega, fun k hk => ?_, fun k hk => ?_⟩, by simp⟩
    · have hk' : k < len := by simpa using hk
      have hs : (f k).1.size ≤ reachBytes := by
        refine hz _ (weights_node hk' ?_)
        rw [(hf k hk').2.2]
        simp [DataW.weights]
      simp
      omega
    · have hk' : k < len := by simpa using hk
      obtain ⟨b, o, rfl⟩ := spot_none (hx 0 (by omega)).1
      obtain ⟨g0, g1, _⟩ := hx k (by omega)
      rw [add_at, (hf k hk').1] at g0
      rw [add_at, (hf k hk').2.1] at g1
      exact ⟨b, o, rfl, by simpa using g0, by simpa [Nat.add_assoc] using g1⟩

theorem open_lits {H : Type} {enc : TypeId × Value → H} {w : World} {fuel : Nat} {cs : List Value} {x : DataW H × List MemPlace} (h : DataW.trod enc Tryd.prog w 0 (fun _ => true) true fuel 22 cs = some x) (hz : ∀ n ∈ x.1.weights Tryd.prog 22, n ≤ reachBytes) :
    ∃ a c cap, cs = [.slice a (List.length c) cap] ∧ LitsIn w a c ∧ NilsIn w a c := by
  rcases Deep.open_slice_pairs Tryd.underlying22 Tryd.underlying30 (by kernel_rfl) rfl rfl (by kernel_rfl) (by kernel_rfl) h with ⟨rfl, rfl⟩ | ⟨a, len, cap, m, n, V0, V1, D0, D1, P0, P1, rfl, hb, hl, hm, hmm, rfl, hx⟩
  · exact ⟨none, [], 0, rfl, ⟨by decide, fun k h => absurd h (by simp)⟩, fun k h => absurd h (by simp)⟩
  · have hmc : m = cap := by simpa using hmm
    subst hmc
    obtain ⟨f, hf⟩ := Deep.choose_lt (α := Lt × Option Addr × Nat) (n := len) (p := fun i y => V0 i = .bool y.1.1 ∧ V1 i = .slice y.2.1 y.1.2.length y.2.2 ∧ NodesIn w y.2.1 y.1.2 ∧ (y.2.1 = none → y.2.2 = 0)) (fun i hi => by
      obtain ⟨_, _, h0, h1⟩ := hx i (by omega)
      obtain ⟨b, hs, hd⟩ := DataW.trod_bool Tryd.underlying4 h0
      obtain ⟨aa, l, ac, hv, hn, hq⟩ := open_nodes h1 (fun n hn => hz n (weights_lit hi hn))
      exact ⟨((b, l), aa, ac), by simpa using hs, by simpa using hv, hn, hq⟩)
    have hw : (len + (m - len)) * 32 ≤ reachBytes := by
      have := hz ((((List.range len).map fun i => DataW.agg [D0 i, D1 i]).length + ((List.range (m - len)).map fun j => DataW.agg [D0 (len + j), D1 (len + j)]).length) * Tryd.prog.bytesOf 30) (by simp only [DataW.weights, Tryd.underlying22]; exact List.mem_cons_self)
      rw [bytesLit] at this
      simpa using this
    have hr := reachBytes_lt
    have cells : ∀ k, k < len → ∃ b o, a = ⟨b, o, none⟩ ∧ w.cell? ⟨b, o + k * 2, none⟩ = some (.bool (f k).1.1) ∧ w.cell? ⟨b, o + k * 2 + 1, none⟩ = some (.slice (f k).2.1 (f k).1.2.length (f k).2.2) := by
      intro k hk'
      obtain ⟨b, o, rfl⟩ := spot_none (hx 0 (by omega)).1
      obtain ⟨g0, g1, _⟩ := hx k (by omega)
      rw [add_at, (hf k hk').1] at g0
      rw [add_at, (hf k hk').2.1] at g1
      exact ⟨b, o, rfl, g0, by simpa [Nat.add_assoc] using g1⟩
    refine ⟨some a, (List.range len).map fun i => (f i).1, m, by simp, ⟨by simp; omega, fun k hk => ?_⟩, fun k hk b o aa n cc ha hc => ?_⟩
    · have hk' : k < len := by simpa using hk
      obtain ⟨b, o, rfl, g0, g1⟩ := cells k hk'
      exact ⟨b, o, (f k).2.1, (f k).2.2, rfl, by simpa using g0, by simpa using g1, by simpa using (hf k hk').2.2.1⟩
    · have hk' : k < len := by simpa using hk
      obtain ⟨b', o', rfl, g0, g1⟩ := cells k hk'
      obtain ⟨rfl, rfl⟩ : b' = b ∧ o' = o := by simpa using ha
      rw [g1] at hc
      obtain ⟨rfl, rfl, rfl⟩ : (f k).2.1 = aa ∧ (f k).1.2.length = n ∧ (f k).2.2 = cc := by simpa using hc
      exact (hf k hk').2.2.2

end Go.Proofs.YtjnddclkdofgdaaDoor
