/- The argument as the walks read it. -/
import Derived.Test.YtjnddclkdofgdaaDoorPCopy
import Derived.Deep.SlicePairs
import Derived.SizedLaws
namespace Go.Proofs.YtjnddclkdofgdaaDoor
open Go.RowKit Go.ChangeShapes Go.WideShapes
set_option maxRecDepth 100000

theorem spot_none {w : World} {a : Addr} {v : Value} (h : w.cell? (a.add (0 * 2)) = some v) : ∃ b o, a = ⟨b, o, none⟩ := by
  obtain ⟨b, o, sp⟩ := a
  cases sp with
  | none => exact ⟨b, o, rfl⟩
  | some s =>
    simp only [Addr.add, World.cell?] at h
    split at h <;> simp at h
theorem add_at (b o j : Nat) : (⟨b, o, none⟩ : Addr).add j = ⟨b, o + j, none⟩ := by unfold Addr.add; split <;> simp_all
theorem bytesNode : Tryd.prog.bytesOf 27 = 24 := by kernel_rfl
theorem bytesLit : Tryd.prog.bytesOf 30 = 32 := by kernel_rfl

theorem weightsAll_mem {H : Type} {P : Program} {e : TypeId} {d : DataW H} : ∀ {ds : List (DataW H)}, d ∈ ds → ∀ n ∈ d.weights P e, n ∈ DataW.weightsAll P e ds
  | [], h, _, _ => by simp at h
  | x :: r, h, n, hn => by
    simp only [DataW.weightsAll, List.mem_append]
    rcases List.mem_cons.1 h with rfl | h
    · exact Or.inl hn
    · exact Or.inr (weightsAll_mem h n hn)
theorem weights_node {H : Type} {len : Nat} {D0 D1 : Nat → DataW H} {sp : List (DataW H)} {i n : Nat} (hi : i < len) (hn : n ∈ (D0 i).weights Tryd.prog 9) : n ∈ (DataW.slice ((List.range len).map fun i => .agg [D0 i, D1 i]) sp).weights Tryd.prog 28 := by
  simp only [DataW.weights, Tryd.underlying28, List.mem_cons, List.mem_append]
  right; left
  refine weightsAll_mem (d := .agg [D0 i, D1 i]) (List.mem_map.2 ⟨i, List.mem_range.2 hi, rfl⟩) n ?_
  simp only [DataW.weights, Tryd.underlying27]
  exact DataW.weights_mem_each (j := 0) rfl rfl n hn
theorem weights_lit {H : Type} {len : Nat} {D0 D1 : Nat → DataW H} {sp : List (DataW H)} {i n : Nat} (hi : i < len) (hn : n ∈ (D1 i).weights Tryd.prog 28) : n ∈ (DataW.slice ((List.range len).map fun i => .agg [D0 i, D1 i]) sp).weights Tryd.prog 22 := by
  simp only [DataW.weights, Tryd.underlying22, List.mem_cons, List.mem_append]
  right; left
  refine weightsAll_mem (d := .agg [D0 i, D1 i]) (List.mem_map.2 ⟨i, List.mem_range.2 hi, rfl⟩) n ?_
  simp only [DataW.weights, Tryd.underlying30]
  exact DataW.weights_mem_each (j := 1) rfl rfl n hn

theorem open_nodes {H : Type} {enc : TypeId × Value → H} {w : World} {fuel : Nat} {cs : List Value} {x : DataW H × List MemPlace} (h : DataW.trod enc Tryd.prog w 0 (fun _ => true) true fuel 28 cs = some x) (hz : ∀ n ∈ x.1.weights Tryd.prog 28, n ≤ reachBytes) :
    ∃ a l cap, cs = [.slice a (List.length l) cap] ∧ NodesIn w a l ∧ (a = none → cap = 0) := by
  rcases Deep.open_slice_pairs Tryd.underlying28 Tryd.underlying27 (by kernel_rfl) rfl rfl (by kernel_rfl) (by kernel_rfl) h with ⟨rfl, rfl⟩ | ⟨a, len, cap, m, n, V0, V1, D0, D1, P0, P1, rfl, hb, hl, hm, hmm, rfl, hx⟩
  · exact ⟨none, [], 0, rfl, ⟨by decide, fun k h => absurd h (by simp), fun k h => absurd h (by simp)⟩, fun _ => rfl⟩
  · have hmc : m = cap := by simpa using hmm
    subst hmc
    obtain ⟨f, hf⟩ := Deep.choose_lt (α := Nd) (n := len) (p := fun i nd => V0 i = .string nd.1 ∧ V1 i = .int .i64 nd.2 ∧ D0 i = .lit (.string nd.1.data.toList)) (fun i hi => by
      obtain ⟨_, _, h0, h1⟩ := hx i (by omega)
      obtain ⟨s, hs, hd, _⟩ := DataW.trod_string Tryd.underlying9 h0
      obtain ⟨z, hz, _⟩ := DataW.trod_int Tryd.underlying3 h1
      exact ⟨(s, z), by simpa using hs, by simpa using hz, congrArg Prod.fst hd⟩)
    have hw : (len + (m - len)) * 24 ≤ reachBytes := by
      have := hz ((((List.range len).map fun i => DataW.agg [D0 i, D1 i]).length + ((List.range (m - len)).map fun j => DataW.agg [D0 (len + j), D1 (len + j)]).length) * Tryd.prog.bytesOf 27) (by simp only [DataW.weights, Tryd.underlying28]; exact List.mem_cons_self)
      rw [bytesNode] at this
      simpa using this
    have hr := reachBytes_lt
    refine ⟨some a, (List.range len).map f, m, by simp, ⟨by simp; omega, fun k hk => ?_, fun k hk => ?_⟩, by simp⟩
    · have hk' : k < len := by simpa using hk
      have hs : (f k).1.size ≤ reachBytes := by
        refine hz _ (weights_node hk' ?_)
        rw [(hf k hk').2.2]
        simp [DataW.weights]
      simp
      omega
    · have hk' : k < len := by simpa using hk
      obtain ⟨b, o, rfl⟩ := spot_none (hx 0 (by omega)).1
      obtain ⟨g0, g1, _⟩ := hx k (by omega)
      rw [add_at, (hf k hk').1] at g0
      rw [add_at, (hf k hk').2.1] at g1
      exact ⟨b, o, rfl, by simpa using g0, by simpa [Nat.add_assoc] using g1⟩

theorem open_lits {H : Type} {enc : TypeId × Value → H} {w : World} {fuel : Nat} {cs : List Value} {x : DataW H × List MemPlace} (h : DataW.trod enc Tryd.prog w 0 (fun _ => true) true fuel 22 cs = some x) (hz : ∀ n ∈ x.1.weights Tryd.prog 22, n ≤ reachBytes) :
    ∃ a c cap, cs = [.slice a (List.length c) cap] ∧ LitsIn w a c ∧ NilsIn w a c := by
  rcases Deep.open_slice_pairs Tryd.underlying22 Tryd.underlying30 (by kernel_rfl) rfl rfl (by kernel_rfl) (by kernel_rfl) h with ⟨rfl, rfl⟩ | ⟨a, len, cap, m, n, V0, V1, D0, D1, P0, P1, rfl, hb, hl, hm, hmm, rfl, hx⟩
  · exact ⟨none, [], 0, rfl, ⟨by decide, fun k h => absurd h (by simp)⟩, fun k h => absurd h (by simp)⟩
  · have hmc : m = cap := by simpa using hmm
    subst hmc
    obtain ⟨f, hf⟩ := Deep.choose_lt (α := Lt × Option Addr × Nat) (n := len) (p := fun i y => V0 i = .bool y.1.1 ∧ V1 i = .slice y.2.1 y.1.2.length y.2.2 ∧ NodesIn w y.2.1 y.1.2 ∧ (y.2.1 = none → y.2.2 = 0)) (fun i hi => by
      obtain ⟨_, _, h0, h1⟩ := hx i (by omega)
      obtain ⟨b, hs, hd⟩ := DataW.trod_bool Tryd.underlying4 h0
      obtain ⟨aa, l, ac, hv, hn, hq⟩ := open_nodes h1 (fun n hn => hz n (weights_lit hi hn))
      exact ⟨((b, l), aa, ac), by simpa using hs, by simpa using hv, hn, hq⟩)
    have hw : (len + (m - len)) * 32 ≤ reachBytes := by
      have := hz ((((List.range len).map fun i => DataW.agg [D0 i, D1 i]).length + ((List.range (m - len)).map fun j => DataW.agg [D0 (len + j), D1 (len + j)]).length) * Tryd.prog.bytesOf 30) (by simp only [DataW.weights, Tryd.underlying22]; exact List.mem_cons_self)
      rw [bytesLit] at this
      simpa using this
    have hr := reachBytes_lt
    have cells : ∀ k, k < len → ∃ b o, a = ⟨b, o, none⟩ ∧ w.cell? ⟨b, o + k * 2, none⟩ = some (.bool (f k).1.1) ∧ w.cell? ⟨b, o + k * 2 + 1, none⟩ = some (.slice (f k).2.1 (f k).1.2.length (f k).2.2) := by
      intro k hk'
      obtain ⟨b, o, rfl⟩ := spot_none (hx 0 (by omega)).1
      obtain ⟨g0, g1, _⟩ := hx k (by omega)
      rw [add_at, (hf k hk').1] at g0
      rw [add_at, (hf k hk').2.1] at g1
      exact ⟨b, o, rfl, g0, by simpa [Nat.add_assoc] using g1⟩
    refine ⟨some a, (List.range len).map fun i => (f i).1, m, by simp, ⟨by simp; omega, fun k hk => ?_⟩, fun k hk b o aa n cc ha hc => ?_⟩
    · have hk' : k < len := by simpa using hk
      obtain ⟨b, o, rfl, g0, g1⟩ := cells k hk'
      exact ⟨b, o, (f k).2.1, (f k).2.2, rfl, by simpa using g0, by simpa using g1, by simpa using (hf k hk').2.2.1⟩
    · have hk' : k < len := by simpa using hk
      obtain ⟨b', o', rfl, g0, g1⟩ := cells k hk'
      obtain ⟨rfl, rfl⟩ : b' = b ∧ o' = o := by simpa using ha
      rw [g1] at hc
      obtain ⟨rfl, rfl, rfl⟩ : (f k).2.1 = aa ∧ (f k).1.2.length = n ∧ (f k).2.2 = cc := by simpa using hc
      exact (hf k hk').2.2.2

end Go.Proofs.YtjnddclkdofgdaaDoor
