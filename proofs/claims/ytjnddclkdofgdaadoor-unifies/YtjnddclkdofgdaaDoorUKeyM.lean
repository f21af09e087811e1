/- The program: variables as keys of a map; rows of numbers that grow. The program: where a variable stood first. The program: the leader that a node gets. The program: steps of regions that draw their order: a call, an append. -/
import Derived.Test.YtjnddclkdofgdaaDoorUTm
import Derived.Lib.AppendZerosOnto
import Derived.Maps.OwnSet
import Derived.Maps.Keyed
import Derived.DeepKeys4
import Derived.Test.YtjnddclkdofgdaaDoorPTermM
import Derived.Deep.RegionLaw
import Derived.RangeFuncOwn
namespace Go.Proofs.YtjnddclkdofgdaaDoor
open Go.RowKit Go.Shelf Go.WideMaps
set_option maxRecDepth 100000

theorem uLaidOut : laidOutB Tryd.prog = true := by kernel_rfl
theorem varKeyed : Maps.Keyed Tryd.prog 141 := Maps.Keyed.of_law (deep_law_laid uLaidOut (m := 2) (by decide) (of_decide_eq_true (by kernel_rfl)) (by kernel_rfl) (by kernel_rfl))
def keyV (o x : Int) : Value := .agg #[.int .i64 o, .int .i64 x]
theorem keyLits_v (n : Nat) (o x : Int) (wo : (Lit.int .i64 o).wf = true) (wx : (Lit.int .i64 x).wf = true) : Tryd.prog.keyLits (n + 1 + 1) 141 [.int .i64 o, .int .i64 x] = some [.int .i64 o, .int .i64 x] := by
  have hc : Tryd.prog.cellsOf 141 = 2 := by kernel_rfl
  have hci : Tryd.prog.cellsOf 3 = 1 := by kernel_rfl
  unfold Program.keyLits
  simp only [Tryd.underlying141, hc]
  simp [List.mapM_cons, Program.keyLits, Tryd.underlying3, hci, wo, wx]
theorem keyOf_v (o x : Int) (ho : -1000000000 ≤ o ∧ o ≤ 1000000000) (hx : -1000000000 ≤ x ∧ x ≤ 1000000000) : ∃ kl, keyOf Tryd.prog 141 (keyV o x) = some kl := by
  have hk : Tryd.prog.keyType 141 = true := by kernel_rfl
  have hc : Tryd.prog.cellsOf 141 = 2 := by kernel_rfl
  have hs : Tryd.prog.types.size + 1 = (Tryd.prog.types.size - 1) + 1 + 1 := by
    have : 0 < Tryd.prog.types.size := of_decide_eq_true (by kernel_rfl)
    omega
  have hform : (keyV o x).formed Tryd.prog 141 = true := by
    unfold Value.formed keyV
    simp only [Tryd.underlying141, hc]
    rfl
  unfold keyOf
  simp only [Tryd.underlying141, hk, hform, Bool.and_self, if_true]
  rw [hs]
  have := keyLits_v (Tryd.prog.types.size - 1) o x (wf_i64 ho.1 ho.2) (wf_i64 hx.1 hx.2)
  exact ⟨_, by rw [show (keyV o x).cells.toList = [.int .i64 o, .int .i64 x] from rfl, this]; rfl⟩

theorem grown_below {w w' : World} {o : Option Nat} (h : Below w.heap.size w w') : w.grownBy w' o := ⟨h.os, h.tape, h.output, h.size, fun k hk _ => h.block k hk⟩

/-- A row to which zeros were put. -/
theorem zeros_cells (k : Nat) : (Builtin.zeroCells (Value.int .i64 0).cells k).toList = List.replicate k (.int .i64 0) := by
  apply List.ext_getElem?
  intro j
  have h1 : (Value.int .i64 0).cells = #[.int .i64 0] := rfl
  rw [h1]
  by_cases hj : j < k
  · simp [Builtin.zeroCells, hj, Nat.mod_one]
  · simp [Builtin.zeroCells, hj]
theorem run_zeros_own (w : World) (ty : TypeId) (base : Nat) (v : Value) (n k : Nat) (xs : List Value) (hown : w.ownsRow base 3 1 v n xs) (hv : v.ownBlock ≠ none) (hk : 0 < k) (hb : n + k ≤ 1000000) (hbase : base ≤ w.heap.size) :
    ∃ v' w', (Builtin.append_ #[34, 3] ty #[v, .int .i64 k]).run Tryd.prog w = .ok v' w' ∧ w'.ownsRow base 3 1 v' (n + k) (xs ++ List.replicate k (.int .i64 0)) ∧ w.grownBy w' v.ownBlock ∧ (v'.ownBlock = v.ownBlock ∨ v'.ownBlock = some w.heap.size) := by
  obtain ⟨i, hi, hz, hs, hy⟩ := info_parts infoInt
  have hlen : (xs ++ List.replicate k (Value.int .i64 0)).length = (n + k) * 1 := by rw [List.length_append, hown.1]; simp
  rcases hown.2 with ⟨rfl, rfl⟩ | ⟨g, cap, cur, rfl, hbg, hg, hnc, hcm, hcs, htake⟩
  · exact absurd rfl hv
  · by_cases hroom : n + k ≤ cap
    · have hst := run_storeCells_at Tryd.prog g n 3 (List.replicate k (Value.int .i64 0)) 0 cur w hg (by simp; omega) (by intro u hu; rw [List.eq_of_mem_replicate hu]; rfl)
      have hw : IntKind.i64.wrap (k : Int) = k := by rw [IntKind.wrap_i64]; omega
      have hneg : ¬ ((k : Int) < 0) := by omega
      have h48i : ¬ (281474976710656 < (k : Int) * 8) := by omega
      have hk0 : k ≠ 0 := by omega
      refine ⟨.slice (some ⟨g, 0, none⟩) (n + k) cap, w.setRow g (cur.toList.take n ++ List.replicate k (Value.int .i64 0) ++ cur.toList.drop (n + k)).toArray, ?_, ⟨hlen, .inr ⟨g, cap, _, rfl, hbg, setRow_heap w g cur _ 3 _ hg, hroom, hcm, ?_, ?_⟩⟩, ⟨rfl, rfl, rfl, by simp, fun j _ hj => setRow_other w g j _ (fun e => hj (by simp [Value.ownBlock, e]))⟩, Or.inl rfl⟩
      · simp [Builtin.append_, run_underlying Tryd.underlying34, run_underlying Tryd.underlying3, sizeOf, typeInfo, zeroValue, hi, hz, hs, hy, asInt, asIntOf, hw, hneg, h48i, hroom, hk0, Addr.add_lit, zeros_cells]
        rw [hst]
        simp
      · simp
        omega
      · rw [Nat.mul_one] at htake ⊢
        have hx : xs.length = n := by have := hown.1; omega
        rw [htake, ← show (xs ++ List.replicate k (Value.int .i64 0)).length = n + k by simp [hx]]
        exact List.take_left
    · have holds : ∀ j u, xs[j]? = some u → w.cell? ((⟨g, 0, none⟩ : Addr).add j) = some u := hown.cells (g := g) rfl
      have hf := run_firstCells_some (P := Tryd.prog) w.drew i.size n ⟨g, 0, none⟩ n cap xs (by rw [hs]; exact hown.1) (fun j u hu => holds j u hu)
      have hr := Go.Lib.run_append_grow_zeros (P := Tryd.prog) w 34 3 ty 3 i (.int .i64 0) .i64 .i64 Tryd.underlying34 Tryd.underlying3 hi hz (some ⟨g, 0, none⟩) n cap xs hf k hk (by omega) (by omega) (by omega) (by rw [hy]; omega) (growslice_fits (by omega) (by rw [hy]; omega))
      have hge := grownCap_ge w (n + k) cap 3
      have hcm' : grownCap w (n + k) cap 3 ≤ maxLen := grownCap_le_maxLen w (n + k) cap 3 (by unfold maxLen; omega)
      refine ⟨_, _, hr, ⟨hlen, .inr ⟨w.heap.size, _, _, rfl, hbase, heap_alloc_new w.drew _, hge, hcm', ?_, ?_⟩⟩, ⟨rfl, rfl, rfl, by simp, fun j hj _ => Below.heap_alloc w.drew _ j hj⟩, Or.inr rfl⟩
      · simp [size_zeroCells, hown.1, Value.cells]
        omega
      · rw [Nat.mul_one]
        simp only [Array.toList_append, zeros_cells]
        rw [← show (xs ++ List.replicate k (Value.int .i64 0)).length = n + k by rw [hlen]; omega]
        exact List.take_left

end Go.Proofs.YtjnddclkdofgdaaDoor

namespace Go.Proofs.YtjnddclkdofgdaaDoor
open Go.RowKit Go.Shelf Go.WideMaps
set_option maxRecDepth 100000

/-- Nodes, each with its owner. -/
abbrev Tg := Int × Nd
def isV (o x : Int) (p : Tg) : Bool := varB p.2 && (decide (p.1 = o) && decide (p.2.2 = x))
def firstV (M : List Tg) (o x : Int) : Option Nat := M.findIdx? (isV o x)
theorem firstV_snoc (M : List Tg) (p : Tg) (o x : Int) : firstV (M ++ [p]) o x = (firstV M o x).or (if isV o x p then some M.length else none) := by
  unfold firstV
  rw [List.findIdx?_append]
  congr 1
  by_cases h : isV o x p = true <;> simp [h]
theorem firstV_lt {M : List Tg} {o x : Int} {p : Nat} (h : firstV M o x = some p) : p < M.length := (List.findIdx?_eq_some_iff_findIdx_eq.1 h).1
/-- The leader that a node gets. -/
def leadFor (M : List Tg) (o : Int) (n : Nd) : Nat := if varB n then (firstV M o n.2).getD M.length else M.length
structure FirstIs (D : DataW Unit) (M : List Tg) : Prop where
  tidy : Maps.Tidy D
  old : ∀ o x kl p, keyOf Tryd.prog 141 (keyV o x) = some kl → firstV M o x = some p → Maps.has D kl = true ∧ ∀ z, D.atKey kl z = .lit (.int .i64 p)
  new : ∀ o x kl, keyOf Tryd.prog 141 (keyV o x) = some kl → firstV M o x = none → Maps.has D kl = false
theorem FirstIs.start : FirstIs (.map []) [] := ⟨⟨[], rfl, by simp⟩, fun o x kl p _ h => by simp [firstV] at h, fun _ _ _ _ _ => rfl⟩
theorem FirstIs.skip {D : DataW Unit} {M : List Tg} (h : FirstIs D M) {p : Tg} (hp : varB p.2 = false ∨ firstV M p.1 p.2.2 ≠ none) : FirstIs D (M ++ [p]) := by
  have key : ∀ o x, firstV (M ++ [p]) o x = firstV M o x := by
    intro o x
    rw [firstV_snoc]
    cases hf : firstV M o x with
    | some q => rfl
    | none =>
      have : isV o x p = false := by
        rcases hp with hp | hp
        · simp [isV, hp]
        · by_cases e : isV o x p = true
          · simp [isV] at e
            rw [e.2.1, e.2.2] at hp
            exact absurd hf hp
          · simpa using e
      simp [this]
  exact ⟨h.tidy, fun o x kl q hk hq => h.old o x kl q hk (by rw [← key]; exact hq), fun o x kl hk hq => h.new o x kl hk (by rw [← key]; exact hq)⟩
theorem keyV_inj {o x o' x' : Int} (h : keyV o x = keyV o' x') : o = o' ∧ x = x' := by simpa [keyV] using h
theorem FirstIs.put {D : DataW Unit} {M : List Tg} (h : FirstIs D M) {o : Int} {n : Nd} (hv : varB n = true) (hf : firstV M o n.2 = none) {kl : Lit} (hk : keyOf Tryd.prog 141 (keyV o n.2) = some kl) :
    FirstIs (D.put kl (.lit (.int .i64 M.length))) (M ++ [(o, n)]) := by
  have hkey := varKeyed.key hk
  have hne : ∀ o' x' kl', keyOf Tryd.prog 141 (keyV o' x') = some kl' → ¬ (o' = o ∧ x' = n.2) → kl' ≠ kl := by
    rintro o' x' kl' hk' hn rfl
    exact hn (keyV_inj (varKeyed.inj hk' hk))
  have hiv : ∀ o' x', isV o' x' (o, n) = true ↔ (o' = o ∧ x' = n.2) := by
    intro o' x'
    simp [isV, hv]
    constructor
    · rintro ⟨rfl, rfl⟩; exact ⟨rfl, rfl⟩
    · rintro ⟨rfl, rfl⟩; exact ⟨rfl, rfl⟩
  refine ⟨h.tidy.put hkey _, fun o' x' kl' q hk' hq => ?_, fun o' x' kl' hk' hq => ?_⟩
  · rw [firstV_snoc] at hq
    by_cases he : o' = o ∧ x' = n.2
    · obtain ⟨rfl, rfl⟩ := he
      rw [hf, (hiv _ _).2 ⟨rfl, rfl⟩] at hq
      simp at hq
      subst hq
      rw [hk] at hk'
      simp at hk'
      subst hk'
      exact ⟨Maps.has_put_same h.tidy.isMap hkey _, fun z => Maps.atKey_put_same h.tidy.isMap hkey _ _⟩
    · have hq' : firstV M o' x' = some q := by
        cases hfo : firstV M o' x' with
        | some r => rw [hfo] at hq; simpa using hq
        | none =>
          rw [hfo] at hq
          have : isV o' x' (o, n) = false := by rw [← Bool.not_eq_true, hiv]; exact he
          simp [this] at hq
      have ho := h.old o' x' kl' q hk' hq'
      have hn := hne o' x' kl' hk' he
      exact ⟨by rw [Maps.has_put_other hn]; exact ho.1, fun z => by rw [Maps.atKey_put_other hn]; exact ho.2 z⟩
  · rw [firstV_snoc] at hq
    by_cases he : o' = o ∧ x' = n.2
    · rw [(hiv _ _).2 he] at hq
      cases hfo : firstV M o' x' with
      | some r => rw [hfo] at hq; simp at hq
      | none => rw [hfo] at hq; simp at hq
    · have hq' : firstV M o' x' = none := by
        cases hfo : firstV M o' x' with
        | some r => rw [hfo] at hq; simp at hq
        | none => rfl
      rw [Maps.has_put_other (hne o' x' kl' hk' he)]
      exact h.new o' x' kl' hk' hq'

end Go.Proofs.YtjnddclkdofgdaaDoor

namespace Go.Proofs.YtjnddclkdofgdaaDoor
open Go.RowKit Go.Shelf Go.WideMaps
set_option maxRecDepth 100000

theorem ownsMap_at {k : TypeId} {mp n : Nat} {D : DataW Unit} {a b : World} (h : a.ownsMap Tryd.prog k numElem mp n D) (hb : b.heap[mp]? = a.heap[mp]?) : b.ownsMap Tryd.prog k numElem mp n D := by
  obtain ⟨es, clock, hh, hr⟩ := h
  exact ⟨es, clock, by rw [hb]; exact hh, hr⟩
theorem ownsMap_lt {k : TypeId} {mp n : Nat} {D : DataW Unit} {a : World} (h : a.ownsMap Tryd.prog k numElem mp n D) : mp < a.heap.size := by
  obtain ⟨es, clock, hh, _⟩ := h
  exact (Array.getElem?_eq_some_iff.1 hh).1
theorem ownsMap_below {k : TypeId} {mp n : Nat} {D : DataW Unit} {a b : World} (h : a.ownsMap Tryd.prog k numElem mp n D) (hb : Below a.heap.size a b) : b.ownsMap Tryd.prog k numElem mp n D := ownsMap_at h (hb.block mp (ownsMap_lt h))

set_option maxHeartbeats 2000000 in
theorem uLeaderFor_any (tb mp nm cn : Nat) (an : Option Addr) (D : DataW Unit) (M : List Tg) (o : Int) (s : ByteArray) (x : Int) (w : World) (c0 : w.cell? ⟨tb, 0, none⟩ = some (.slice an M.length cn)) (c4 : w.cell? ⟨tb, 4, none⟩ = some (.map (some mp)))
    (hown : w.ownsMap Tryd.prog 141 numElem mp nm D) (hD : FirstIs D M) (hn : nm ≤ M.length) (hM : M.length ≤ 1000000) (ho : -1000000000 ≤ o ∧ o ≤ 1000000000) (hx : -1000000000 ≤ x ∧ x ≤ 1000000000) :
    Calls Tryd.prog 80 #[.pointer (some ⟨tb, 0, none⟩), .int .i64 o, .agg #[.string s, .int .i64 x]] w fun e w' => ∃ nm' D', e = .returned (.int .i64 (leadFor M o (s, x))) ∧ w'.ownsMap Tryd.prog 141 numElem mp nm' D' ∧ FirstIs D' (M ++ [(o, (s, x))]) ∧ nm' ≤ M.length + 1 ∧ w.grownBy w' (some mp) := by
  have htb : tb < w.heap.size := World.block_lt_of_cell? w _ c4
  have CV := hide (fun wx => isVariable_any s x wx)
  by_cases hv : s.toList.isEmpty = true
  · have hvb : varB (s, x) = true := hv
    rw [hv] at CV
    obtain ⟨kl, hkey⟩ := keyOf_v o x ho hx
    have HO := hide hown
    have HD := hide hD
    have HK := hide hkey
    clear hown hD hv ho hx
    go_enter Tryd.func80, Tryd.ntmps80
    go_wp2_with (first
      | (go_at_call 47; refine (unhide CV _).mono ?_; rintro e w1 ⟨rfl, hb1⟩; have hb : Below w.heap.size w w1 := ((Below.refl _ _).alloc (Nat.le_refl _) _).trans (hb1.mono (by simp)); have k0 := Below.at' hb (Nat.le_refl _) c0; have k4 := Below.at' hb (Nat.le_refl _) c4; have x1 : w1.cell? ⟨w.heap.size, 1, none⟩ = some (.int .i64 x) := Below.at' hb1 (Nat.le_refl _) (by simp); have HB := hide hb; clear hb hb1)
      | go_in)
    have hbk : Below w1.heap.size w1 (w1.alloc (.cells #[.int .i64 o, .int .i64 x] 141)) := (Below.refl _ _).alloc (Nat.le_refl _) _
    have q0 := Below.at' hbk (Nat.le_refl _) k0
    have q4 := Below.at' hbk (Nat.le_refl _) k4
    have hwk : w.heap.size ≤ w1.heap.size := HB.out.size
    have HB2 := hide (HB.out.trans (hbk.mono hwk))
    have v0 : (w1.alloc (.cells #[.int .i64 o, .int .i64 x] 141)).cell? ⟨w1.heap.size, 0, none⟩ = some (.int .i64 o) := by simp
    have v1 : (w1.alloc (.cells #[.int .i64 o, .int .i64 x] 141)).cell? ⟨w1.heap.size, 1, none⟩ = some (.int .i64 x) := by simp
    generalize w1.alloc (.cells #[.int .i64 o, .int .i64 x] 141) = w2 at *
    have HO2 := hide (ownsMap_below HO.out HB2.out)
    clear k0 k4 x1 hbk hkey c0 c4
    cases hf : firstV M o x with
    | some p =>
      have hol := HD.out.old o x kl p HK.out hf
      have HR : Hid (leadFor M o (s, x) = p) := hide (by unfold leadFor; rw [hvb]; simp [hf])
      have HD2 := hide (HD.out.skip (p := (o, (s, x))) (Or.inr (by simp [hf])))
      have hrun : ∀ wx : World, wx.ownsMap Tryd.prog 141 numElem mp nm D → (Instr.lookup 121 (.map (some mp)) (.agg #[.int .i64 o, .int .i64 x]) true).run Tryd.prog wx = .ok (.tuple #[.int .i64 p, .bool true]) wx := fun wx hx => by
        obtain ⟨v, ps, h1, h2⟩ := hx.look_ok varKeyed Tryd.underlying121 (Tryd.zeroValue3 _) (zd := .lit (.int .i64 0)) (zp := []) rfl HK.out
        rw [hol.2] at h2
        have h3 := plain_inv h2
        subst h3
        rw [hol.1] at h1
        exact h1
      have hr0 := hrun w2 HO2.out
      have hr1 := fun d => hrun (w2.drewN d) (ownsMap_below HO2.out (below_drawn ⟨d, rfl⟩))
      clear hol hf hvb hrun
      go_quiet (fail)
      go_wp2
      go_ret
      have hb3 := HB2.out.trans ((below_drawn (w1 := w2.drewN nq) ⟨nq, rfl⟩).mono HB2.out.size)
      exact ⟨nm, D, ret_int (by rw [HR.out]), ownsMap_below HO.out hb3, HD2.out, by omega, grown_below hb3⟩
    | none =>
      have hnw := HD.out.new o x kl HK.out hf
      have HR : Hid (leadFor M o (s, x) = M.length) := hide (by unfold leadFor; rw [hvb]; simp [hf])
      have HD2 := hide (HD.out.put hvb hf HK.out)
      have hrun : ∀ wx : World, wx.ownsMap Tryd.prog 141 numElem mp nm D → (Instr.lookup 121 (.map (some mp)) (.agg #[.int .i64 o, .int .i64 x]) true).run Tryd.prog wx = .ok (.tuple #[.int .i64 0, .bool false]) wx := fun wx hx => by
        obtain ⟨v, ps, h1, h2⟩ := hx.look_ok varKeyed Tryd.underlying121 (Tryd.zeroValue3 _) (zd := .lit (.int .i64 0)) (zp := []) rfl HK.out
        rw [atKey_none HD.out.tidy.isMap hnw] at h2
        have h3 := plain_inv h2
        subst h3
        rw [hnw] at h1
        exact h1
      have hr0 := hrun w2 HO2.out
      have hr1 := fun d => hrun (w2.drewN d) (ownsMap_below HO2.out (below_drawn ⟨d, rfl⟩))
      clear hnw hf hvb hrun
      go_quiet (fail)
      go_wp2
      obtain ⟨w3, hr3, hown3, hg3⟩ := (ownsMap_below HO2.out (below_drawn (w1 := w2.drewN (nq + 1)) ⟨_, rfl⟩)).update varKeyed Tryd.underlying121 (by unfold maxLen; omega) (key := .agg #[.int .i64 o, .int .i64 x]) (val := .int .i64 M.length) (unhide HK) (d := .lit (.int .i64 M.length)) (ps := []) rfl
      have HO3 := hide hown3
      have HG3 := hide hg3
      clear hown3 hg3 hr0 hr1
      go_region
      all_goals
        go_wp2
        go_ret
        exact ⟨nm + 1, _, ret_int (by rw [HR.out]), HO3.out, HD2.out, by omega, (grown_below (HB2.out.trans ((below_drawn (w1 := w2.drewN (nq + 1)) ⟨_, rfl⟩).mono HB2.out.size))).trans HG3.out⟩
  · have hvb : varB (s, x) = false := by simpa [varB] using hv
    rw [show s.toList.isEmpty = false by simpa using hv] at CV
    have HR : Hid (leadFor M o (s, x) = M.length) := hide (by unfold leadFor; rw [hvb]; rfl)
    have HD := hide (hD.skip (p := (o, (s, x))) (Or.inl hvb))
    have HO := hide hown
    clear hown hD hv hvb ho hx
    go_enter Tryd.func80, Tryd.ntmps80
    go_wp2_with (first
      | (go_at_call 47; refine (unhide CV _).mono ?_; rintro e w1 ⟨rfl, hb1⟩; have HB1 := hide hb1; clear hb1)
      | go_in)
    go_ret
    have hb : Below w.heap.size w w1 := ((Below.refl _ _).alloc (Nat.le_refl _) _).trans (HB1.out.mono (by simp))
    exact ⟨nm, D, ret_int (by rw [HR.out]), ownsMap_below HO.out hb, HD.out, by omega, grown_below hb⟩

end Go.Proofs.YtjnddclkdofgdaaDoor

namespace Go.Proofs.YtjnddclkdofgdaaDoor
open Go.RowKit Go.Shelf Go.WideMaps
set_option maxRecDepth 100000

/-- A call of a function whose contract is known. -/
theorem step_call {ops : Array Oper} {o : Oper} {a : Act} {w : World} {K : Act → World → Prop} {Q : Exit → Act → World → Prop} {E : Prop} (hgd : o.guard = none) (f : Nat) (ops' : Array Operand) (ts : Array TypeId)
    (ho : o.op = .call { callee := .value (.func f), args := ops', argTypes := ts }) (he : ∀ args w, (callFunc f args).run Tryd.prog w = .ok (.enter f args) w) (vals : Array Value) (hv : ops'.toList.map a.eval = vals.toList) {R : Ending → World → Prop} (hc : Calls Tryd.prog f vals w R)
    (h : ∀ e w', R e w' → ∃ v, e = .returned v ∧ K (a.put o.dst v) w') :
    if Region.wanted o (yielded ops a.tmps) = true then Oper.wp Tryd.prog o a w K Q else E := by
  have hw : Region.wanted o (yielded ops a.tmps) = true := by simp [Region.wanted, hgd]
  rw [if_pos hw]
  have hr : (execOp a.eval o).run Tryd.prog w = .ok (.enter f vals) w := by
    have hv : ops'.map a.eval = vals := by apply Array.ext'; rw [Array.toList_map]; exact hv
    subst hv
    simp [execOp, ho, resolve, invoke, he, Act.eval, Deferred.ofValue]
  unfold Oper.wp
  rw [hr, Oper.upon_enter]
  exact hc.mono fun e w' hR => by
    obtain ⟨v, rfl, hk⟩ := h e w' hR
    exact hk

/-- Where a row lies behind an append. -/
theorem append_where (w : World) (base : Nat) (t ty e : TypeId) (i : TypeInfo) (z : Value) (size bytes : Nat) (ht : Tryd.prog.underlying t = some (.slice e)) (hi : Tryd.prog.info? e = some i) (hz : i.zero = some z)
    (hsize : i.size = size) (hby : i.bytes = bytes) (hsz : 0 < size)
    (v : Value) (n : Nat) (xs : List Value) (hown : w.ownsRow base e size v n xs) (hv : v.ownBlock ≠ none)
    (a : Addr) (m c : Nat) (news : List Value) (hl : news.length = m * size) (hnews : ∀ j u, news[j]? = some u → w.cell? (a.add j) = some u) (h1 : ∀ u ∈ news, u.oneCell' = true)
    (h63 : n + m ≤ maxLen) (hbytes : (n + m) * bytes ≤ 140737488355328) {v' : Value} {w' : World} (hr : (Builtin.append_ #[t, t] ty #[v, .slice (some a) m c]).run Tryd.prog w = .ok v' w') :
    v'.ownBlock = v.ownBlock ∨ v'.ownBlock = some w.heap.size := by
  subst hsize
  subst hby
  have hsmall : n + m ≤ 9223372036854775807 := by simp only [maxLen] at h63; omega
  rcases hown.2 with ⟨rfl, rfl⟩ | ⟨g, cap, cur, rfl, hbg, hg, hnc, hcm, hcs, htake⟩
  · exact absurd rfl hv
  · by_cases hroom : n + m ≤ cap
    · have hfit : n * i.size + news.length ≤ cur.size := by rw [hl, hcs, ← Nat.add_mul]; exact Nat.mul_le_mul_right _ hroom
      have hr' := run_append_room (P := Tryd.prog) w t ty e i ht hi g n cap cur hg a m c news hl hnews h1 hroom hfit
      rw [hr'] at hr
      simp at hr
      rw [← hr.1]
      exact Or.inl rfl
    · have holds : ∀ j u, xs[j]? = some u → w.cell? ((⟨g, 0, none⟩ : Addr).add j) = some u := hown.cells (g := g) rfl
      have hr' := run_append_grow (P := Tryd.prog) w t ty e i z ht hi hz ⟨g, 0, none⟩ n cap xs hown.1 holds a m c news hl hnews (by omega) (by omega) (growslice_fits (by omega) hbytes)
      rw [hr'] at hr
      simp at hr
      rw [← hr.1]
      exact Or.inr rfl
/-- A number is put behind a row of numbers. -/
theorem run_append_int (w : World) (ty : TypeId) (base : Nat) (v : Value) (n : Nat) (xs : List Value) (hown : w.ownsRow base 3 1 v n xs) (hv : v.ownBlock ≠ none) (hn : n ≤ 1000000) (hbase : base ≤ w.heap.size) (g c : Nat) (u : Int) (hu : w.cell? ⟨g, 0, none⟩ = some (.int .i64 u)) :
    ∃ v' w', (Builtin.append_ #[34, 34] ty #[v, .slice (some ⟨g, 0, none⟩) 1 c]).run Tryd.prog w = .ok v' w' ∧ w'.ownsRow base 3 1 v' (n + 1) (xs ++ [.int .i64 u]) ∧ w.grownBy w' v.ownBlock ∧ (v'.ownBlock = v.ownBlock ∨ v'.ownBlock = some w.heap.size) := by
  obtain ⟨i, hi, hz, hs, hy⟩ := info_parts infoInt
  have hnews : ∀ (j : Nat) (u' : Value), [Value.int .i64 u][j]? = some u' → w.cell? ((⟨g, 0, none⟩ : Addr).add j) = some u' := by
    intro j u' hj
    have hj0 : j = 0 := by
      have := (List.getElem?_eq_some_iff.1 hj).1
      simp at this
      exact this
    subst hj0
    simp at hj
    subst hj
    exact hu
  have h1 : ∀ x ∈ [Value.int .i64 u], x.oneCell' = true := by intro x hx; simp at hx; subst hx; rfl
  obtain ⟨v', w', hr, ho, hg, _⟩ := run_append_own (P := Tryd.prog) w base 34 ty 3 i (.int .i64 0) 1 8 Tryd.underlying34 hi hz hs hy rfl (by decide) v n xs hown ⟨g, 0, none⟩ 1 c [.int .i64 u] rfl hnews h1 (by unfold maxLen; omega) (by omega) hbase
  exact ⟨v', w', hr, ho, hg, append_where w base 34 ty 3 i (.int .i64 0) 1 8 Tryd.underlying34 hi hz hs hy (by decide) v n xs hown hv ⟨g, 0, none⟩ 1 c [.int .i64 u] rfl hnews h1 (by unfold maxLen; omega) (by omega) hr⟩
theorem step_append_int {ops : Array Oper} {o : Oper} {a : Act} {w : World} {K : Act → World → Prop} {Q : Exit → Act → World → Prop} {E : Prop} (hgd : o.guard = none) (s x : Operand)
    (ho : o.op = .call { callee := .builtin .append, args := #[s, x], argTypes := #[34, 34] }) (base : Nat) (v : Value) (n : Nat) (xs : List Value) (hs : a.eval s = v) (hown : w.ownsRow base 3 1 v n xs) (hv : v.ownBlock ≠ none) (hn : n ≤ 1000000) (hbase : base ≤ w.heap.size)
    (g c : Nat) (u : Int) (hx : a.eval x = .slice (some ⟨g, 0, none⟩) 1 c) (hu : w.cell? ⟨g, 0, none⟩ = some (.int .i64 u))
    (h : ∀ v' w', w'.ownsRow base 3 1 v' (n + 1) (xs ++ [.int .i64 u]) → w.grownBy w' v.ownBlock → (v'.ownBlock = v.ownBlock ∨ v'.ownBlock = some w.heap.size) → K (a.put o.dst v') w') :
    if Region.wanted o (yielded ops a.tmps) = true then Oper.wp Tryd.prog o a w K Q else E := by
  have hw : Region.wanted o (yielded ops a.tmps) = true := by simp [Region.wanted, hgd]
  rw [if_pos hw]
  obtain ⟨v', w', hr, h1, h2, h3⟩ := run_append_int w o.type base v n xs hown hv hn hbase g c u hu
  unfold Oper.wp execOp
  simp only [ho, resolve, invoke, builtin, Sem.run_bind, Sem.run_pure, Result.andThen_ok, List.map_toArray, List.map_cons, List.map_nil, hs, hx, hr]
  exact h v' w' h1 h2 h3
/-- A node is put behind a row of nodes. -/
theorem step_append_node {ops : Array Oper} {o : Oper} {a : Act} {w : World} {K : Act → World → Prop} {Q : Exit → Act → World → Prop} {E : Prop} (hgd : o.guard = none) (s x : Operand)
    (ho : o.op = .call { callee := .builtin .append, args := #[s, x], argTypes := #[28, 28] }) (base : Nat) (v : Value) (l : List Nd) (hs : a.eval s = v) (hown : w.ownsRow base 27 2 v l.length (nodeCells l)) (hn : l.length ≤ 1000000) (hbase : base ≤ w.heap.size)
    (g c : Nat) (nd : Nd) (hx : a.eval x = .slice (some ⟨g, 0, none⟩) 1 c) (hu : w.cell? ⟨g, 0, none⟩ = some (.string nd.1)) (hu1 : w.cell? ⟨g, 1, none⟩ = some (.int .i64 nd.2))
    (h : ∀ v' w', w'.ownsRow base 27 2 v' (l.length + 1) (nodeCells (l ++ [nd])) → w.grownBy w' v.ownBlock → K (a.put o.dst v') w') :
    if Region.wanted o (yielded ops a.tmps) = true then Oper.wp Tryd.prog o a w K Q else E := by
  have hw : Region.wanted o (yielded ops a.tmps) = true := by simp [Region.wanted, hgd]
  rw [if_pos hw]
  obtain ⟨i, hi, hz, hss, hy⟩ := info_parts infoNode
  have hnews : ∀ (j : Nat) (u' : Value), [Value.string nd.1, Value.int .i64 nd.2][j]? = some u' → w.cell? ((⟨g, 0, none⟩ : Addr).add j) = some u' := by
    intro j u' hj
    have hj0 := (List.getElem?_eq_some_iff.1 hj).1
    simp at hj0
    match j, hj0, hj with
    | 0, _, hj => simp at hj; subst hj; exact hu
    | 1, _, hj => simp at hj; subst hj; exact hu1
  obtain ⟨v', w', hr, h1, h2, _⟩ := run_append_own (P := Tryd.prog) w base 28 o.type 27 i (.agg #[.string ⟨#[]⟩, .int .i64 0]) 2 24 Tryd.underlying28 hi hz hss hy rfl (by decide) v l.length (nodeCells l) hown ⟨g, 0, none⟩ 1 c [.string nd.1, .int .i64 nd.2] rfl hnews (by intro x hx; simp at hx; rcases hx with rfl | rfl <;> rfl) (by unfold maxLen; omega) (by omega) hbase
  unfold Oper.wp execOp
  simp only [ho, resolve, invoke, builtin, Sem.run_bind, Sem.run_pure, Result.andThen_ok, List.map_toArray, List.map_cons, List.map_nil, hs, hx, hr]
  exact h v' w' (by rw [nodeCells_snoc]; exact h1) h2

end Go.Proofs.YtjnddclkdofgdaaDoor
