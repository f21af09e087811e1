/- What the names of literals are. The program: nodes, sizes, literals that are the same. The program: what the names are, each at its place. The program: what the names of a whole text are. -/
import Derived.Test.YtcpdadppblbndaaSTok0M
import Derived.Test.YtcpdadppblbndaaROrd
import Derived.Shelf.Abstract
import Derived.Test.YtcpdadppblbndaaBase0M
import Derived.Test.YtcpdadppblbndaaGClM
import Derived.Laws.AppendOwnNone
namespace Go.Proofs.Ytcpdadppblbndaa
open Go.RowKit
set_option maxRecDepth 100000

/-- What a name is at one place. -/
abbrev Us := ByteArray × Bool × Int
/-- What the names of a node are, by its number among its atom's. -/
def useOf (k : Nat) (n : Nd) : List Us := if varB n then [] else [(n.1, decide (k = 0), n.2)]
/-- What the names of the first nodes are. -/
def plTo (l : List Nd) : Nat → List Us
  | 0 => []
  | k + 1 => plTo l k ++ ((l[k]?).map (useOf k)).getD []
/-- What the names of the first literals are. -/
def usesTo (c : List Lt) : Nat → List Us
  | 0 => []
  | k + 1 => usesTo c k ++ ((c[k]?).map fun x => plTo x.2 x.2.length).getD []
def usesL (c : List Lt) : List Us := usesTo c c.length
theorem plTo_succ (l : List Nd) (k : Nat) (h : k < l.length) : plTo l (k + 1) = plTo l k ++ useOf k l[k] := by simp [plTo, h]
theorem usesTo_succ (c : List Lt) (k : Nat) (h : k < c.length) : usesTo c (k + 1) = usesTo c k ++ plTo c[k].2 c[k].2.length := by simp [usesTo, h]
theorem plTo_len (l : List Nd) (k : Nat) : (plTo l k).length ≤ k := by
  induction k with
  | zero => simp [plTo]
  | succ k ih =>
    simp only [plTo, List.length_append]
    have : (((l[k]?).map (useOf k)).getD []).length ≤ 1 := by
      cases l[k]? with
      | none => simp
      | some n => simp [useOf]; split <;> simp
    omega
theorem usesTo_len (c : List Lt) (k : Nat) : (usesTo c k).length ≤ countL (c.take k) := by
  induction k with
  | zero => simp [usesTo]
  | succ k ih =>
    by_cases h : k < c.length
    · rw [usesTo_succ c k h, List.take_succ_eq_append_getElem h, countL_snoc, List.length_append]
      have := plTo_len c[k].2 c[k].2.length
      omega
    · have h1 : c[k]? = none := List.getElem?_eq_none (by omega)
      have h2 : c.take (k + 1) = c.take k := by rw [List.take_of_length_le (by omega), List.take_of_length_le (by omega)]
      simp only [usesTo, h1, h2]
      simpa using ih
/-- Each name is one thing, and has no more than five parts. -/
def UsesOk (u : List Us) : Prop := ∀ i (h : i < u.length), u[i].2.2 ≤ 5 ∧ ∀ k (hk : k < i), (u[k]'(by omega)).1 = u[i].1 → (u[k]'(by omega)).2 = u[i].2
theorem int_zero (n : Nat) : ((n : Int) == 0) = decide (n = 0) := by
  rw [Bool.eq_iff_iff]; simp
def noAt (p : Pl) : Us := (p.1, p.2.1, p.2.2.1)

end Go.Proofs.Ytcpdadppblbndaa

namespace Go.Proofs.Ytcpdadppblbndaa
open Go.RowKit Go.Shelf
set_option maxRecDepth 100000

theorem isVariable_any (s : ByteArray) (x : Int) (w : World) :
    Calls Try.prog 56 #[.agg #[.string s, .int .i64 x]] w fun e w' => e = .returned (.bool s.toList.isEmpty) ∧ Below w.heap.size w w' := by
  go_enter Try.func56, Try.ntmps56
  go_wp2
  go_ret
  exact ⟨rfl, (Below.refl _ _).alloc (Nat.le_refl _) _⟩

/-- A node's box stays. -/
theorem box_at {w w1 : World} {s x : Value} {t : TypeId} (hb : Below (w.alloc (.cells #[s, x] t)).heap.size (w.alloc (.cells #[s, x] t)) w1) :
    w1.cell? ⟨w.heap.size, 0, none⟩ = some s ∧ w1.cell? ⟨w.heap.size, 1, none⟩ = some x ∧ Below w.heap.size w w1 :=
  ⟨Below.at' hb (Nat.le_refl _) (by simp), Below.at' hb (Nat.le_refl _) (by simp), ((Below.refl _ _).alloc (Nat.le_refl _) _).trans (hb.mono (by simp))⟩

set_option maxHeartbeats 400000 in
theorem nodes_any (a : Option Addr) (cp : Nat) (c : List Lt) (w : World) (h : LitsIn w a c) (h8 : c.length ≤ 8) :
    Calls Try.prog 59 #[.slice a c.length cp] w fun e w' => e = .returned (.int .i64 (countL c)) ∧ Below w.heap.size w w' := by
  have hc : countL c ≤ 8 * 5864062014805 := Nat.le_trans (countL_le c fun k hk => by obtain ⟨_, _, _, _, _, _, _, g⟩ := h.cell k hk; exact g.few) (Nat.mul_le_mul_right _ h8)
  go_enter Try.func59, Try.ntmps59
  go_wp2
  go_loopw [3, 8] (fun s i wr => ∃ k : Nat, k ≤ c.length ∧ i = .int .i64 k ∧ s = .int .i64 (countL (c.take k)) ∧ Below w.heap.size w wr) (fun _ i _ => c.length - (intOf i).toNat)
  case atStart => exact ⟨0, Nat.zero_le _, rfl, rfl, Below.refl _ _⟩
  case round =>
    obtain ⟨k, hk, rfl, rfl, hb⟩ := hrel
    have hct := countL_take_le c k
    by_cases hlt : k < c.length
    · obtain ⟨p1, o1, aa1, cp1, rfl, e1, f1, g1⟩ := h.cell k hlt
      have hg := g1.few
      have HS : Hid (countL (c.take (k + 1)) = countL (c.take k) + c[k].2.length) := by
        rw [List.take_succ_eq_append_getElem hlt, countL_snoc]
        exact rfl
      have e2 := Below.at' hb (Nat.le_refl _) e1
      have f2 := Below.at' hb (Nat.le_refl _) f1
      have HB := hide hb
      clear h g1 e1 f1 hb
      go_wp2
      go_roundw
      case rel => exact ⟨k + 1, by omega, by go_num, by rw [HS.out]; go_num, HB.out.alloc HB.out.size _⟩
      case measure => simp [intOf]; omega
    · have HB := hide hb
      clear hb
      go_wp2
      go_ret
      have hk1 : c.take k = c := List.take_of_length_le (by omega)
      rw [hk1]
      exact ⟨rfl, HB.out⟩

set_option maxHeartbeats 400000 in
theorem lFits_any (a : Option Addr) (cp : Nat) (c : List Lt) (w : World) (h : LitsIn w a c) :
    Calls Try.prog 40 #[.slice a c.length cp] w fun e w' => e = .returned (.bool (fitsL c)) ∧ Below w.heap.size w w' := by
  have b := h.few
  by_cases h8 : c.length ≤ 8
  · have CC := hide (nodes_any a cp c w h h8)
    have HF := hide (show fitsL c = decide ((countL c : Int) ≤ 60) by simp [fitsL, h8]; omega)
    clear h
    go_enter Try.func40, Try.ntmps40
    go_wp2_with (go_at_call 59; refine (unhide CC).mono ?_; rintro e w' ⟨rfl, hb⟩; have HB := hide hb; clear hb)
    go_ret
    exact ⟨ret_bool HF.out.symm, HB.out⟩
  · have hf : fitsL c = false := by simp [fitsL, h8]
    rw [hf]
    clear hf h
    go_enter Try.func40, Try.ntmps40
    go_wp2
    go_ret
    exact ⟨rfl, Below.refl _ _⟩

set_option maxHeartbeats 400000 in
theorem equal_any (a1 a2 : Option Addr) (c1 c2 : Nat) (l1 l2 : List (ByteArray × Int)) (w : World) (h1 : NodesIn w a1 l1) (h2 : NodesIn w a2 l2) :
    Calls Try.prog 75 #[.slice a1 l1.length c1, .slice a2 l2.length c2] w fun e w' => e = .returned (.bool (decide (l1 = l2))) ∧ ∃ n, w' = w.drewN n := by
  have b1 := h1.few
  have b2 := h2.few
  by_cases hl : l1.length = l2.length
  · have hn : ((l1.length : Int) != (l2.length : Int)) = false := by rw [hl]; simp
    have HL : Hid (l1.length = l2.length) := hl
    clear hl
    go_enter Try.func75, Try.ntmps75
    go_wp2
    go_loopw [13] (fun i wr => ∃ k : Nat, k ≤ l1.length ∧ i = .int .i64 k ∧ (∃ n, wr = w.drewN n) ∧ l1.take k = l2.take k) (fun i _ => l1.length - (intOf i).toNat)
    case atStart => exact ⟨0, Nat.zero_le _, rfl, ⟨0, rfl⟩, rfl⟩
    case round =>
      obtain ⟨k, hk, rfl, ⟨n, rfl⟩, ht⟩ := hrel
      by_cases hlt : k < l1.length
      · obtain ⟨p1, o1, rfl, e1, f1⟩ := h1.cell k hlt
        have hlt2 : (k : Int) < (l2.length : Int) := by have := HL.out; omega
        have hlt3 : k < l2.length := by omega
        obtain ⟨p2, o2, rfl, e2, f2⟩ := h2.cell k hlt3
        have hb := nodeB_eq l1[k] l2[k]
        have g := guard46
        have q := eqNode l1[k].1 l2[k].1 l1[k].2 l2[k].2
        clear h1 h2
        by_cases he : l1[k] = l2[k]
        · rw [decide_eq_true he] at hb
          have HE : Hid (l1[k] = l2[k]) := he
          clear he
          go_wp2
          go_quiet (fail)
          go_wp2
          go_roundw
          case rel => exact ⟨k + 1, by omega, by go_num, (by first | exact draw2 _ _ _ | exact ⟨_, rfl⟩), by rw [List.take_succ_eq_append_getElem hlt, List.take_succ_eq_append_getElem hlt3, ht, HE.out]⟩
          case measure => simp [intOf]; omega
        · rw [decide_eq_false he] at hb
          have HE : Hid (¬ l1[k] = l2[k]) := he
          clear he
          go_wp2
          go_quiet (fail)
          go_wp2
          go_ret
          refine ⟨?_, (by first | exact draw2 _ _ _ | exact ⟨_, rfl⟩)⟩
          have : ¬ l1 = l2 := fun h => HE.out (by subst h; rfl)
          simp [this]
      · go_wp2
        go_ret
        refine ⟨?_, ⟨_, rfl⟩⟩
        have hk1 : l1.take k = l1 := List.take_of_length_le (by omega)
        have hk2 : l2.take k = l2 := List.take_of_length_le (by have := HL.out; omega)
        rw [hk1, hk2] at ht
        simp [ht]
  · have hn : ((l1.length : Int) != (l2.length : Int)) = true := by rw [bne_iff_ne]; omega
    have hne : ¬ l1 = l2 := fun h => hl (by rw [h])
    have HN : Hid (¬ l1 = l2) := hne
    clear hne hl
    go_enter Try.func75, Try.ntmps75
    go_wp2
    go_ret
    exact ⟨by simp [HN.out], 0, rfl⟩

set_option maxHeartbeats 400000 in
theorem same_any (xb yb : Bool) (a1 a2 : Option Addr) (c1 c2 : Nat) (xl yl : List Nd) (w : World) (h1 : NodesIn w a1 xl) (h2 : NodesIn w a2 yl) :
    Calls Try.prog 70 #[.agg #[.bool xb, .slice a1 xl.length c1], .agg #[.bool yb, .slice a2 yl.length c2]] w fun e w' => e = .returned (.bool (litB (xb, xl) (yb, yl))) ∧ Below w.heap.size w w' := by
  have hb0 : Below w.heap.size w ((w.alloc (.cells #[.bool xb, .slice a1 xl.length c1] 49)).alloc (.cells #[.bool yb, .slice a2 yl.length c2] 49)) := ((Below.refl _ _).alloc (Nat.le_refl _) _).alloc (by simp) _
  have CE := hide (equal_any a1 a2 c1 c2 xl yl _ (h1.below hb0 (Nat.le_refl _)) (h2.below hb0 (Nat.le_refl _)))
  have HB0 := hide hb0
  clear hb0 h1 h2
  by_cases hb : xb = yb
  · subst hb
    have HE := hide (show litB (xb, xl) (xb, yl) = decide (xl = yl) by simp [litB])
    go_enter Try.func70, Try.ntmps70
    go_wp2_with (go_at_call 75; refine (unhide CE).mono ?_; rintro e w1 ⟨rfl, hd⟩; have HB1 := hide (HB0.out.trans ((below_drawn hd).mono (by simp; omega))); clear hd)
    go_ret
    exact ⟨ret_bool HE.out.symm, HB1.out⟩
  · have HE := hide (show litB (xb, xl) (yb, yl) = false by simp [litB, hb])
    have hbe : (xb == yb) = false := by simp [hb]
    clear hb
    go_enter Try.func70, Try.ntmps70
    go_wp2
    go_ret
    exact ⟨ret_bool HE.out.symm, HB0.out⟩

/-- What the function value that distinct hands over answers. -/
theorem closure_any (xb yb : Bool) (a1 a2 : Option Addr) (c1 c2 g : Nat) (xl yl : List Nd) (w : World) (h1 : NodesIn w a1 xl) (h2 : NodesIn w a2 yl) (g0 : w.cell? ⟨g, 0, none⟩ = some (.bool yb)) (g1 : w.cell? ⟨g, 1, none⟩ = some (.slice a2 yl.length c2)) :
    Calls Try.prog 69 #[.agg #[.bool xb, .slice a1 xl.length c1], .pointer (some ⟨g, 0, none⟩)] w fun e w' => e = .returned (.bool (litB (xb, xl) (yb, yl))) ∧ Below w.heap.size w w' := by
  have hb0 : Below w.heap.size w (w.alloc (.cells #[.bool xb, .slice a1 xl.length c1] 49)) := (Below.refl _ _).alloc (Nat.le_refl _) _
  have CS := hide (same_any xb yb a1 a2 c1 c2 xl yl _ (h1.below hb0 (Nat.le_refl _)) (h2.below hb0 (Nat.le_refl _)))
  have q0 := Below.at' hb0 (Nat.le_refl _) g0
  have q1 := Below.at' hb0 (Nat.le_refl _) g1
  have HB0 := hide hb0
  clear hb0 h1 h2
  go_enter Try.func69, Try.ntmps69
  go_wp2_with (go_at_call 70; refine (unhide CS).mono ?_; rintro e w1 ⟨rfl, hb⟩; have HB1 := hide (HB0.out.trans (hb.mono (by simp))); clear hb)
  go_ret
  exact ⟨rfl, HB1.out⟩

end Go.Proofs.Ytcpdadppblbndaa

namespace Go.Proofs.Ytcpdadppblbndaa
open Go.RowKit Go.Shelf
set_option maxRecDepth 100000

/-- The cells of uses. -/
def useCells (U : List Us) : List Value := U.flatMap fun u => [.string u.1, .bool u.2.1, .int .i64 u.2.2]
theorem useCells_length (U : List Us) : (useCells U).length = U.length * 3 := by
  induction U with
  | nil => rfl
  | cons x r ih => simp [useCells] at ih ⊢; omega
theorem useCells_snoc (U : List Us) (x : Us) : useCells (U ++ [x]) = useCells U ++ [.string x.1, .bool x.2.1, .int .i64 x.2.2] := by simp [useCells]
theorem useCells_at (U : List Us) : ∀ k (h : k < U.length), (useCells U)[k * 3]? = some (.string U[k].1) ∧ (useCells U)[k * 3 + 1]? = some (.bool U[k].2.1) ∧ (useCells U)[k * 3 + 2]? = some (.int .i64 U[k].2.2) := by
  induction U with
  | nil => intro k h; simp at h
  | cons x r ih =>
    intro k h
    cases k with
    | zero => simp [useCells]
    | succ k =>
      have := ih k (by simpa using h)
      have e1 : (k + 1) * 3 = k * 3 + 3 := by omega
      rw [e1]
      simp only [useCells, List.flatMap_cons, List.cons_append, List.nil_append, List.getElem_cons_succ] at this ⊢
      have e2 : k * 3 + 3 + 1 = k * 3 + 1 + 3 := by omega
      have e3 : k * 3 + 3 + 2 = k * 3 + 2 + 3 := by omega
      rw [e2, e3]
      simp only [List.getElem?_cons_succ]
      exact this
/-- The cells of uses, as the walks read them. -/
structure UsesIn (w : World) (a : Option Addr) (U : List Us) : Prop where
  few : U.length ≤ 1000000
  short : ∀ k (h : k < U.length), U[k].1.size ≤ 140737488355328
  cell : ∀ k (h : k < U.length), ∃ b, a = some ⟨b, 0, none⟩ ∧ w.cell? ⟨b, k * 3, none⟩ = some (.string U[k].1) ∧ w.cell? ⟨b, k * 3 + 1, none⟩ = some (.bool U[k].2.1) ∧ w.cell? ⟨b, k * 3 + 2, none⟩ = some (.int .i64 U[k].2.2)
theorem own_uses {w : World} {B : Nat} {v : Value} {U : List Us} (h : w.ownsRow B 97 3 v U.length (useCells U)) (hf : U.length ≤ 1000000) (hs : ∀ k (h : k < U.length), U[k].1.size ≤ 140737488355328) :
    ∃ a cap, v = .slice a U.length cap ∧ UsesIn w a U := by
  obtain ⟨h1, ⟨rfl, h2⟩ | ⟨g, cap, cur, rfl, hb, hh, hc, hm, hz, ht⟩⟩ := h
  · exact ⟨none, 0, by rw [h2], hf, hs, fun k hk => by omega⟩
  · have ho : w.ownsRow B 97 3 (.slice (some ⟨g, 0, none⟩) U.length cap) U.length (useCells U) := ⟨h1, Or.inr ⟨g, cap, cur, rfl, hb, hh, hc, hm, hz, ht⟩⟩
    refine ⟨_, _, rfl, hf, hs, fun k hk => ⟨g, rfl, ?_, ?_, ?_⟩⟩
    · rw [ho.cellAt (k * 3) (by omega), (useCells_at U k hk).1]
    · rw [ho.cellAt (k * 3 + 1) (by omega), (useCells_at U k hk).2.1]
    · rw [ho.cellAt (k * 3 + 2) (by omega), (useCells_at U k hk).2.2]
theorem infoUse : (Try.prog.info? 97).map (fun i => (i.zero, i.size, i.bytes)) = some (some (.agg #[.string ⟨#[]⟩, .bool false, .int .i64 0]), 3, 32) := by kernel_rfl
theorem use_more {w wm w1 : World} {o v' : Value} {U : List Us} {x : Us} (ho : wm.ownsRow w.heap.size 97 3 o U.length (useCells U)) (hb : Below w.heap.size w wm)
    (ho' : w1.ownsRow w.heap.size 97 3 v' (U.length + 1) (useCells U ++ [.string x.1, .bool x.2.1, .int .i64 x.2.2])) (hg : wm.grownBy w1 o.ownBlock) :
    w1.ownsRow w.heap.size 97 3 v' (U ++ [x]).length (useCells (U ++ [x])) ∧ Below w.heap.size w w1 := by
  refine ⟨?_, hb.grown hg hb.size fun k e => (own_lt ho k e).1⟩
  rw [useCells_snoc, List.length_append]
  exact ho'
theorem newU3 (w : World) (r s x : Value) (t : TypeId) (n : Nat) (hn : n = w.heap.size) : ∀ j u, [r, s, x][j]? = some u → (w.alloc (.cells #[r, s, x] t)).cell? ((⟨n, 0, none⟩ : Addr).add j) = some u := by
  subst hn
  intro j u hj
  match j, hj with
  | 0, hj => simp at hj; subst hj; simp [Addr.add]
  | 1, hj => simp at hj; subst hj; simp [Addr.add]
  | 2, hj => simp at hj; subst hj; simp [Addr.add]
  | j + 3, hj => simp at hj
theorem oneU3 (s : ByteArray) (b : Bool) (x : Int) : ∀ u ∈ [Value.string s, Value.bool b, Value.int .i64 x], u.oneCell' = true := by
  intro u hu
  simp at hu
  rcases hu with rfl | rfl | rfl <;> rfl

set_option maxHeartbeats 2000000 in
theorem uses_any (a : Option Addr) (cp : Nat) (c : List Lt) (w : World) (h : LitsIn w a c) (h60 : countL c ≤ 100000) :
    Calls Try.prog 38 #[.slice a c.length cp] w fun e w' => ∃ v, e = .returned v ∧ w'.ownsRow w.heap.size 97 3 v (usesL c).length (useCells (usesL c)) ∧ Below w.heap.size w w' := by
  obtain ⟨iU, hU, hU0, hU1, hU2⟩ := info_parts infoUse
  have hf := h.few
  have HH := hide h
  clear h
  go_enter Try.func38, Try.ntmps38
  go_wp2
  go_loopw [3, 10] (fun o i wr => ∃ k : Nat, k ≤ c.length ∧ i = .int .i64 k ∧ wr.ownsRow w.heap.size 97 3 o (usesTo c k).length (useCells (usesTo c k)) ∧ Below w.heap.size w wr) (fun _ i _ => c.length - (intOf i).toNat)
  case atStart => exact ⟨0, Nat.zero_le _, rfl, World.ownsRow_nil _ _ _ _, Below.refl _ _⟩
  case round =>
    obtain ⟨k, hk, rfl, ho, hb⟩ := hrel
    by_cases hlt : k < c.length
    · obtain ⟨b, q, aa, acp, rfl, e1, f1, g1⟩ := HH.out.cell k hlt
      have e2 := Below.at' hb (Nat.le_refl _) e1
      have f2 := Below.at' hb (Nat.le_refl _) f1
      have hus := usesTo_succ c k hlt
      have hul := usesTo_len c k
      have hct := countL_take_le c (k + 1)
      rw [List.take_succ_eq_append_getElem hlt, countL_snoc] at hct
      generalize c[k] = z at *
      obtain ⟨zb, zl⟩ := z
      simp only at e2 f2 g1 hus hct
      generalize usesTo c k = U0 at *
      have HUS := hide hus
      have HG := hide g1
      have hzl := g1.few
      have hbs := hb.size
      clear e1 f1 g1 hus
      go_wp2
      go_loopw [3, 17] (fun o j wi => ∃ n : Nat, n ≤ zl.length ∧ j = .int .i64 n ∧ wi.ownsRow w.heap.size 97 3 o (U0 ++ plTo zl n).length (useCells (U0 ++ plTo zl n)) ∧ Below w.heap.size w wi) (fun _ j _ => zl.length - (intOf j).toNat)
      case atStart => exact ⟨0, Nat.zero_le _, rfl, by simpa [plTo] using ho.alloc _, hb.alloc hbs _⟩
      case round =>
        obtain ⟨n, hn, rfl, ho2, hb2⟩ := hrel
        by_cases hnl : n < zl.length
        · obtain ⟨b3, o3, rfl, e3, f3⟩ := HG.out.cell n hnl
          have q3 := Below.at' hb2 (Nat.le_refl _) e3
          have q4 := Below.at' hb2 (Nat.le_refl _) f3
          have hpt := plTo_succ zl n hnl
          have hpl := plTo_len zl n
          generalize zl[n] = nd at *
          obtain ⟨s, x⟩ := nd
          simp only at q3 q4
          have CV := hide (fun wx => isVariable_any s x wx)
          have hb2s := hb2.size
          have HB2 := hide hb2
          clear e3 f3 hb2
          cases hv : s.toList.isEmpty
          · have hus : useOf n (s, x) = [(s, ((n : Int) == 0), x)] := by simp [useOf, varB, hv, int_zero]
            rw [hus] at hpt
            rw [hv] at CV
            have HP := hide hpt
            have hlen : (U0 ++ plTo zl n).length ≤ 200000 := by rw [List.length_append]; omega
            have HV : Hid (U0 ++ plTo zl (n + 1) = (U0 ++ plTo zl n) ++ [(s, ((n : Int) == 0), x)]) := hide (by rw [hpt, List.append_assoc])
            clear hpt HP
            generalize U0 ++ plTo zl n = V at *
            clear hus hv
            go_wp2_with (first
              | (go_at_call 56; refine (unhide CV _).mono ?_; rintro e w1 ⟨rfl, hb1⟩; obtain ⟨r1, r2, r3⟩ := box_at hb1; have ho1 := own_below (ho2.alloc _) hb1 (Nat.le_refl _); have HB1 := hide (HB2.out.trans (r3.mono hb2s)); have h1s := HB1.out.size; clear hb1 r3)
              | (at_builtin; refine wpList_append_own _ rfl (.tmp 25) (.tmp 33) 80 rfl w.heap.size 97 iU (.agg #[.string ⟨#[]⟩, .bool false, .int .i64 0]) 3 32 Try.underlying80 hU hU0 hU1 hU2 rfl (by decide) _ _ _ rfl (ho1.alloc _) ⟨w1.heap.size, 0, none⟩ 1 1 [.string s, .bool ((n : Int) == 0), .int .i64 x] rfl rfl ?c1 ?c2 ?c3 ?c4 ?c5 ?_)
              | go_in)
            case c1 => exact newU3 _ _ _ _ _ _ (by simp)
            case c2 => first | exact oneU3 _ _ _ | exact ⟨rfl, rfl, rfl⟩
            case c3 => unfold maxLen; omega
            case c4 => omega
            case c5 => exact Nat.le_trans h1s (World.grownBy_alloc _ _ none).size
            intro v' w2 ho' hg' _
            have R := use_more (x := (s, ((n : Int) == 0), x)) (ho1.alloc _) (HB1.out.alloc h1s _) ho' hg'
            have HR := hide R
            clear ho' hg' ho1 R
            go_wp2
            go_roundw
            case rel => exact ⟨n + 1, by omega, by go_num, by rw [HV.out]; exact HR.out.1, HR.out.2⟩
            case measure => simp [intOf]; omega
          · have hus : useOf n (s, x) = [] := by simp [useOf, varB, hv]
            rw [hus, List.append_nil] at hpt
            rw [hv] at CV
            have HP := hide hpt
            have HO := hide ho2
            clear hpt hus hv ho2
            go_wp2_with (first
              | (go_at_call 56; refine (unhide CV _).mono ?_; rintro e w1 ⟨rfl, hb1⟩; obtain ⟨r1, r2, r3⟩ := box_at hb1; have HO1 := hide (own_below (HO.out.alloc _) hb1 (Nat.le_refl _)); have HB1 := hide (HB2.out.trans (r3.mono hb2s)); clear hb1 r3)
              | go_in)
            go_roundw
            case rel => exact ⟨n + 1, by omega, by go_num, by rw [HP.out]; exact HO1.out, HB1.out⟩
            case measure => simp [intOf]; omega
        · have hn' : n = zl.length := by omega
          subst hn'
          rw [← HUS.out] at ho2
          have HO := hide ho2
          have HB2 := hide hb2
          clear ho2 hb2 HUS
          go_wp2
          go_roundw
          case rel => exact ⟨k + 1, by omega, by go_num, HO.out, HB2.out⟩
          case measure => simp [intOf]; omega
    · have hk' : k = c.length := by omega
      subst hk'
      have F := hide (And.intro ho hb)
      clear ho hb
      go_wp2
      go_ret
      exact ⟨_, rfl, F.out⟩

end Go.Proofs.Ytcpdadppblbndaa

namespace Go.Proofs.Ytcpdadppblbndaa
open Go.RowKit Go.WideMaps
set_option maxRecDepth 100000

/-- A row is put behind a row. -/
theorem wpList_append_row {w : World} {ops : Array Oper} {rest : List Oper} {o : Oper} {a : Act} {Q : Exit → Act → World → Prop} (hgd : o.guard = none) (s x : Operand) (t : TypeId)
    (ho : o.op = .call { callee := .builtin .append, args := #[s, x], argTypes := #[t, t] })
    (base : Nat) (e : TypeId) (i : TypeInfo) (z : Value) (size bytes : Nat) (ht : Try.prog.underlying t = some (.slice e)) (hi : Try.prog.info? e = some i) (hz : i.zero = some z) (hsize : i.size = size) (hby : i.bytes = bytes) (hzs : z.cells.size = size) (hsz : 0 < size)
    (v : Value) (n : Nat) (xs : List Value) (hs : a.eval s = v) (hown : w.ownsRow base e size v n xs) (v2 : Value) (m base2 : Nat) (ys : List Value) (hx : a.eval x = v2) (hown2 : w.ownsRow base2 e size v2 m ys) (h1 : ∀ u ∈ ys, u.oneCell' = true) (hmax : n + m ≤ maxLen) (hbytes : (n + m) * bytes ≤ 140737488355328) (hbase : base ≤ w.heap.size)
    (h : ∀ v' w', w'.ownsRow base e size v' (n + m) (xs ++ ys) → w.grownBy w' v.ownBlock → wpList Try.prog ops Q rest (a.put o.dst v') w') : wpList Try.prog ops Q (o :: rest) a w := by
  have hc := hown2
  obtain ⟨hl, ⟨rfl, hm⟩ | ⟨g, cap, cur, rfl, hb, hh, hrest⟩⟩ := hown2
  · subst hm
    have hys : ys = [] := List.eq_nil_of_length_eq_zero (by omega)
    subst hys
    refine wpList_append_own_none hgd s x t ho base e i size ht hi v n xs hs hown hx ?_
    exact h v w (by simpa using hown) (World.grownBy.refl _ _)
  · refine wpList_append_own w hgd s x t ho base e i z size bytes ht hi hz hsize hby hzs hsz v n xs hs hown ⟨g, 0, none⟩ m cap ys hx hl (fun j u hj => ?_) h1 hmax hbytes hbase (fun v' w' r1 r2 _ => h v' w' r1 r2)
    have hjl := (List.getElem?_eq_some_iff.1 hj).1
    have := hc.cellAt j (by omega)
    rw [hj] at this
    cases j with
    | zero => simpa [Addr.add] using this
    | succ j => simpa [Addr.add] using this
theorem pcCells_at (CV : List Pc) : ∀ k (h : k < CV.length), (pcCells CV)[k * 2]? = some (.int .i64 CV[k].1.1) ∧ (pcCells CV)[k * 2 + 1]? = some CV[k].2 := by
  induction CV with
  | nil => intro k h; simp at h
  | cons x r ih =>
    intro k h
    cases k with
    | zero => simp [pcCells]
    | succ k =>
      have := ih k (by simpa using h)
      have e1 : (k + 1) * 2 = k * 2 + 2 := by omega
      rw [e1]
      simp only [pcCells, List.flatMap_cons, List.cons_append, List.nil_append, List.getElem_cons_succ] at this ⊢
      have e2 : k * 2 + 2 + 1 = k * 2 + 1 + 2 := by omega
      rw [e2]
      simp only [List.getElem?_cons_succ]
      exact this
theorem useCells_one (U : List Us) : ∀ u ∈ useCells U, u.oneCell' = true := by
  intro u hu
  unfold useCells at hu
  rw [List.mem_flatMap] at hu
  obtain ⟨x, _, hx⟩ := hu
  simp at hx
  rcases hx with rfl | rfl | rfl <;> rfl
theorem useCells_append (U V : List Us) : useCells (U ++ V) = useCells U ++ useCells V := by simp [useCells]
/-- The clauses are small. -/
structure PcSmall (p : Pc) : Prop where
  short : ∀ q ∈ p.1.2, ShortN q.1.2
  count : countL (p.1.2.map Prod.fst) ≤ 100000
  len : p.1.2.length ≤ 100000
/-- What the names are of so many clauses. -/
def usesC (CV : List Pc) : List Us := CV.flatMap fun p => usesL (p.1.2.map Prod.fst)
theorem usesC_take (CV : List Pc) (k : Nat) (h : k < CV.length) : usesC (CV.take (k + 1)) = usesC (CV.take k) ++ usesL (CV[k].1.2.map Prod.fst) := by
  rw [List.take_succ_eq_append_getElem h]
  unfold usesC
  rw [List.flatMap_append, List.flatMap_singleton]
theorem usesC_len (CV : List Pc) (k : Nat) : (usesC (CV.take k)).length ≤ (usesC CV).length := by
  have : usesC CV = usesC (CV.take k) ++ usesC (CV.drop k) := by
    unfold usesC
    rw [← List.flatMap_append, List.take_append_drop]
  rw [this, List.length_append]
  omega

set_option maxHeartbeats 4000000 in
theorem pUses_any {B pb : Nat} {w : World} {vC : Value} {CV : List Pc} (h : CsIn B w vC CV) (hb : w.cell? ⟨pb, 4, none⟩ = some vC) (hs : ∀ p ∈ CV, PcSmall p) (hl : CV.length ≤ 1000000) (hU : (usesC CV).length ≤ 1000000) :
    Calls Try.prog 25 #[.pointer (some ⟨pb, 0, none⟩)] w fun e w' => ∃ v, e = .returned v ∧ w'.ownsRow w.heap.size 97 3 v (usesC CV).length (useCells (usesC CV)) ∧ Below w.heap.size w w' := by
  obtain ⟨iU, hI, hI0, hI1, hI2⟩ := info_parts infoUse
  obtain ⟨va, vac, rfl⟩ := own_shape h.row
  have HH := hide h
  have HS := hide hs
  clear h hs
  go_enter Try.func25, Try.ntmps25
  go_wp2
  go_loopw [3, 11] (fun o i wr => ∃ k : Nat, k ≤ CV.length ∧ i = .int .i64 k ∧ wr.ownsRow w.heap.size 97 3 o (usesC (CV.take k)).length (useCells (usesC (CV.take k))) ∧ Below w.heap.size w wr) (fun _ i _ => CV.length - (intOf i).toNat)
  case atStart => exact ⟨0, Nat.zero_le _, rfl, World.ownsRow_nil _ _ _ _, Below.refl _ _⟩
  case round =>
    obtain ⟨k, hk, rfl, ho, hb2⟩ := hrel
    obtain ⟨oa, oc, rfl⟩ := own_shape ho
    have hz := hb2.size
    have HB2 := hide hb2
    have HO := hide ho
    by_cases hlt : k < CV.length
    · have hm : CV[k] ∈ CV := List.getElem_mem _
      have hsm := HS.out _ hm
      obtain ⟨aa, cap, hv, hlit⟩ := lits_in (P := CV[k].1.2) (HH.out.each _ hm).1 (HH.out.each _ hm).2 hsm.short (by have := hsm.count; omega) (by have := hsm.len; omega)
      obtain ⟨gC, cC, hva⟩ := own_at HH.out.row (by omega)
      simp at hva
      obtain ⟨rfl, rfl⟩ := hva
      have e1 : w.cell? ⟨gC, k * 2, none⟩ = some (.int .i64 CV[k].1.1) := by rw [HH.out.row.cellAt _ (by omega), (pcCells_at CV k hlt).1]
      have e2 : w.cell? ⟨gC, k * 2 + 1, none⟩ = some (.slice aa CV[k].1.2.length cap) := by rw [HH.out.row.cellAt _ (by omega), (pcCells_at CV k hlt).2, hv]
      have f1 := Below.at' hb2 (Nat.le_refl _) e1
      have f2 := Below.at' hb2 (Nat.le_refl _) e2
      have hcnt := hsm.count
      have hus := usesC_take CV k hlt
      have hul := usesC_len CV (k + 1)
      rw [hus, List.length_append] at hul
      have HUS := hide hus
      have hpl : (CV[k].1.2.map Prod.fst).length = CV[k].1.2.length := by simp
      rw [← hpl] at f2
      clear e1 e2 hv hsm hm hus hpl
      generalize CV[k].1.2.map Prod.fst = c at *
      generalize CV[k].1.1 = at0 at *
      generalize usesC (CV.take k) = U0 at *
      have CU := hide (fun wx (hx : LitsIn wx aa c) => uses_any aa cap c wx hx hcnt)
      have HLI := hide (hlit.below hb2 (Nat.le_refl _))
      clear ho hb2 hlit
      go_wp2_with (first
        | (go_at_call 38; refine (CU.out _ (HLI.out.below ((Below.refl _ _).alloc (Nat.le_refl _) _) (Nat.le_refl _))).mono ?_; rintro e w1 ⟨v1, rfl, ho1, hb1⟩; have hA := (HB2.out.alloc hz (.cells #[.int .i64 at0, .slice aa c.length cap] 100)); have hB1 := hA.trans (hb1.mono hA.size); have h1s := hB1.size; have hoo := own_below (HO.out.alloc _) hb1 (Nat.le_refl _); have HOO := hide hoo; have HO1 := hide ho1; have HB1 := hide hB1; obtain ⟨u1, c1, rfl⟩ := own_shape ho1; clear hoo ho1 hb1 hA hB1)
        | (at_builtin; refine wpList_append_row rfl (.tmp 15) (.tmp 18) 80 rfl w.heap.size 97 iU (.agg #[.string ⟨#[]⟩, .bool false, .int .i64 0]) 3 32 Try.underlying80 hI hI0 hI1 hI2 rfl (by decide) _ _ _ rfl HOO.out _ _ _ _ rfl HO1.out (useCells_one _) (by unfold maxLen; omega) (by omega) h1s ?_; intro v2 w2 ho2 hg2; have HO2 := hide ho2; have HG2 := hide hg2; clear ho2 hg2)
        | go_in)
      go_roundw
      case rel => exact ⟨k + 1, by omega, by go_num, by rw [HUS.out, List.length_append, useCells_append]; exact HO2.out, HB1.out.grown HG2.out h1s (fun j e => (own_lt HOO.out j e).1)⟩
      case measure => simp [intOf]; omega
    · have hk' : k = CV.length := by omega
      subst hk'
      clear ho hb2
      rw [List.take_length] at HO
      go_wp2
      go_ret
      exact ⟨_, rfl, by rw [List.take_length]; exact HO.out, HB2.out⟩

end Go.Proofs.Ytcpdadppblbndaa
