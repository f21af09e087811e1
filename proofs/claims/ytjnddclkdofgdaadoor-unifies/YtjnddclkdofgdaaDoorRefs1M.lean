/- The document's own answer: are two lists of nodes the same, are two clauses, how many nodes has a clause, does it fit. The document's own answer: literals in order. The document's own answer: are literals a clause in order, of a size that may be. -/
import Derived.Test.YtjnddclkdofgdaaDoorBase
import Derived.Test.YtjnddclkdofgdaaDoorRRenM
namespace Go.Proofs.YtjnddclkdofgdaaDoor
open Go.RowKit

set_option maxHeartbeats 400000 in
theorem sameNodes_any (a1 a2 : Option Addr) (c1 c2 : Nat) (l1 l2 : List (ByteArray × Int)) (w : World) (h1 : NodesIn w a1 l1) (h2 : NodesIn w a2 l2) :
    Calls Tryd.prog 20 #[.slice a1 l1.length c1, .slice a2 l2.length c2] w fun e w' => e = .returned (.bool (decide (l1 = l2))) ∧ ∃ n, w' = w.drewN n := by
  have b1 := h1.few
  have b2 := h2.few
  by_cases hl : l1.length = l2.length
  · have hn : ((l1.length : Int) != (l2.length : Int)) = false := by rw [hl]; simp
    have HL : Hid (l1.length = l2.length) := hl
    clear hl
    go_enter Tryd.func20, Tryd.ntmps20
    go_wp2
    go_loopw [5] (fun i wr => ∃ k : Nat, k ≤ l1.length ∧ i = .int .i64 k ∧ (∃ n, wr = w.drewN n) ∧ l1.take k = l2.take k) (fun i _ => l1.length - (intOf i).toNat)
    case atStart => exact ⟨0, Nat.zero_le _, rfl, ⟨0, rfl⟩, rfl⟩
    case round =>
      obtain ⟨k, hk, rfl, ⟨n, rfl⟩, ht⟩ := hrel
      by_cases hlt : k < l1.length
      · obtain ⟨p1, o1, rfl, e1, f1⟩ := h1.cell k hlt
        have hlt2 : (k : Int) < (l2.length : Int) := by have := HL.out; omega
        have hlt3 : k < l2.length := by omega
        obtain ⟨p2, o2, rfl, e2, f2⟩ := h2.cell k hlt3
        have hb := nodeB_eq l1[k] l2[k]
        have g := guard27
        have q := eqNode l1[k].1 l2[k].1 l1[k].2 l2[k].2
        clear h1 h2
        by_cases he : l1[k] = l2[k]
        · rw [decide_eq_true he] at hb
          have HE : Hid (l1[k] = l2[k]) := he
          clear he
          go_wp2
          go_quiet (fail)
          go_wp2
          go_roundw
          case rel => exact ⟨k + 1, by omega, by go_num, (by first | exact draw2 _ _ _ | exact ⟨_, rfl⟩), by rw [List.take_succ_eq_append_getElem hlt, List.take_succ_eq_append_getElem hlt3, ht, HE.out]⟩
          case measure => simp [intOf]; omega
        · rw [decide_eq_false he] at hb
          have HE : Hid (¬ l1[k] = l2[k]) := he
          clear he
          go_wp2
          go_quiet (fail)
          go_wp2
          go_ret
          refine ⟨?_, (by first | exact draw2 _ _ _ | exact ⟨_, rfl⟩)⟩
          have : ¬ l1 = l2 := fun h => HE.out (by subst h; rfl)
          simp [this]
      · go_wp2
        go_ret
        refine ⟨?_, ⟨_, rfl⟩⟩
        have hk1 : l1.take k = l1 := List.take_of_length_le (by omega)
        have hk2 : l2.take k = l2 := List.take_of_length_le (by have := HL.out; omega)
        rw [hk1, hk2] at ht
        simp [ht]
  · have hn : ((l1.length : Int) != (l2.length : Int)) = true := by rw [bne_iff_ne]; omega
    have hne : ¬ l1 = l2 := fun h => hl (by rw [h])
    have HN : Hid (¬ l1 = l2) := hne
    clear hne hl
    go_enter Tryd.func20, Tryd.ntmps20
    go_wp2
    go_ret
    exact ⟨by simp [HN.out], 0, rfl⟩

/-- Are two literals the same? -/
def litB (x y : Lt) : Bool := decide (x.2 = y.2) && x.1 == y.1
theorem litB_eq (x y : Lt) : litB x y = decide (x = y) := by
  rw [Bool.eq_iff_iff]
  simp [litB, Prod.ext_iff, and_comm]

set_option maxHeartbeats 400000 in
theorem sameClause_any (a1 a2 : Option Addr) (c1 c2 : Nat) (l1 l2 : List Lt) (w : World) (h1 : LitsIn w a1 l1) (h2 : LitsIn w a2 l2) :
    Calls Tryd.prog 15 #[.slice a1 l1.length c1, .slice a2 l2.length c2] w fun e w' => e = .returned (.bool (decide (l1 = l2))) ∧ ∃ n, w' = w.drewN n := by
  have b1 := h1.few
  have b2 := h2.few
  by_cases hl : l1.length = l2.length
  · have hn : ((l1.length : Int) != (l2.length : Int)) = false := by rw [hl]; simp
    have HL : Hid (l1.length = l2.length) := hl
    clear hl
    go_enter Tryd.func15, Tryd.ntmps15
    go_wp2
    go_loopw [5] (fun i wr => ∃ k : Nat, k ≤ l1.length ∧ i = .int .i64 k ∧ (∃ n, wr = w.drewN n) ∧ l1.take k = l2.take k) (fun i _ => l1.length - (intOf i).toNat)
    case atStart => exact ⟨0, Nat.zero_le _, rfl, ⟨0, rfl⟩, rfl⟩
    case round =>
      obtain ⟨k, hk, rfl, hq, ht⟩ := hrel
      replace h1 := h1.drawn hq
      replace h2 := h2.drawn hq
      have HQ := hide hq
      clear hq
      by_cases hlt : k < l1.length
      · obtain ⟨p1, o1, aa1, cp1, rfl, e1, f1, g1⟩ := h1.cell k hlt
        have hlt2 : (k : Int) < (l2.length : Int) := by have := HL.out; omega
        have hlt3 : k < l2.length := by omega
        obtain ⟨p2, o2, aa2, cp2, rfl, e2, f2, g2⟩ := h2.cell k hlt3
        have cS := fun m => sameNodes_any aa1 aa2 cp1 cp2 l1[k].2 l2[k].2 (wr.drewN m) (g1.drewN m) (g2.drewN m)
        clear h1 h2 g1 g2
        by_cases hs : l1[k].2 = l2[k].2
        · rw [decide_eq_true hs] at cS
          have HC := hide cS
          have HS := hide hs
          clear cS hs
          go_wp2
          go_quiet ((go_at_call 20; exact Calls.quiet_of (unhide HC _)))
          go_wp2
          go_quiet (fail)
          go_wp2
          · go_ret
            refine ⟨?_, drawn_trans HQ.out (by first | exact draw2 _ _ _ | exact ⟨_, rfl⟩)⟩
            have hne : (!l1[k].1 == l2[k].1) = true := by assumption
            have : ¬ l1 = l2 := fun h => by subst h; simp at hne
            simp [this]
          · have heq : (!l1[k].1 == l2[k].1) = false := by assumption
            have he : l1[k] = l2[k] := Prod.ext (by simpa using heq) HS.out
            go_roundw
            case rel => exact ⟨k + 1, by omega, by go_num, drawn_trans HQ.out (by first | exact draw2 _ _ _ | exact ⟨_, rfl⟩), by rw [List.take_succ_eq_append_getElem hlt, List.take_succ_eq_append_getElem hlt3, ht, he]⟩
            case measure => simp [intOf]; omega
        · rw [decide_eq_false hs] at cS
          have HC := hide cS
          have HS := hide hs
          clear cS hs
          go_wp2
          go_quiet ((go_at_call 20; exact Calls.quiet_of (unhide HC _)))
          go_wp2
          go_quiet (fail)
          go_wp2
          go_ret
          refine ⟨?_, drawn_trans HQ.out (by first | exact draw2 _ _ _ | exact ⟨_, rfl⟩)⟩
          have : ¬ l1 = l2 := fun h => HS.out (by subst h; rfl)
          simp [this]
      · go_wp2
        go_ret
        refine ⟨?_, HQ.out⟩
        have hk1 : l1.take k = l1 := List.take_of_length_le (by omega)
        have hk2 : l2.take k = l2 := List.take_of_length_le (by have := HL.out; omega)
        rw [hk1, hk2] at ht
        simp [ht]
  · have hn : ((l1.length : Int) != (l2.length : Int)) = true := by rw [bne_iff_ne]; omega
    have hne : ¬ l1 = l2 := fun h => hl (by rw [h])
    have HN : Hid (¬ l1 = l2) := hne
    clear hne hl
    go_enter Tryd.func15, Tryd.ntmps15
    go_wp2
    go_ret
    exact ⟨by simp [HN.out], 0, rfl⟩

/-- How many nodes literals have. -/
def countL (c : List Lt) : Nat := (c.map fun l => l.2.length).sum
theorem countL_snoc (c : List Lt) (x : Lt) : countL (c ++ [x]) = countL c + x.2.length := by simp [countL]
theorem countL_le (c : List Lt) (h : ∀ k (h : k < c.length), (c[k]).2.length ≤ 5864062014805) : countL c ≤ c.length * 5864062014805 := by
  induction c with
  | nil => simp [countL]
  | cons x r ih =>
    have h0 := h 0 (by simp)
    have hr := ih (fun k hk => by have := h (k + 1) (by simpa using hk); simpa using this)
    simp [countL] at h0 hr ⊢
    omega
theorem countL_take_le (c : List Lt) (k : Nat) : countL (c.take k) ≤ countL c := by
  have h := congrArg countL (List.take_append_drop k c)
  simp only [countL, List.map_append, List.sum_append] at h ⊢
  omega

set_option maxHeartbeats 400000 in
theorem count_any (a : Option Addr) (cp : Nat) (c : List Lt) (w : World) (h : LitsIn w a c) (h8 : c.length ≤ 8) :
    Calls Tryd.prog 75 #[.slice a c.length cp] w fun e w' => e = .returned (.int .i64 (countL c)) ∧ w' = w := by
  have hc : countL c ≤ 8 * 5864062014805 := Nat.le_trans (countL_le c fun k hk => by obtain ⟨_, _, _, _, _, _, _, g⟩ := h.cell k hk; exact g.few) (Nat.mul_le_mul_right _ h8)
  go_enter Tryd.func75, Tryd.ntmps75
  go_wp2
  go_loop [3, 4] (fun s i => ∃ k : Nat, k ≤ c.length ∧ i = .int .i64 k ∧ s = .int .i64 (countL (c.take k))) (fun _ i => c.length - (intOf i).toNat)
  case atStart => exact ⟨0, Nat.zero_le _, rfl, rfl⟩
  case round =>
    obtain ⟨k, hk, rfl, rfl⟩ := hrel
    have hct := countL_take_le c k
    by_cases hlt : k < c.length
    · obtain ⟨p1, o1, aa1, cp1, rfl, e1, f1, g1⟩ := h.cell k hlt
      have hg := g1.few
      have HS : Hid (countL (c.take (k + 1)) = countL (c.take k) + c[k].2.length) := by
        rw [List.take_succ_eq_append_getElem hlt, countL_snoc]
        exact rfl
      clear h g1
      go_wp2
      go_round
      case rel => exact ⟨k + 1, by omega, by go_num, by rw [HS.out]; go_num⟩
      case measure => simp [intOf]; omega
    · go_wp2
      go_ret
      have hk1 : c.take k = c := List.take_of_length_le (by omega)
      rw [hk1]
      exact ⟨rfl, rfl⟩

/-- Is a clause not above its size? -/
def fitsL (c : List Lt) : Bool := decide (c.length ≤ 8) && decide (countL c ≤ 60)

set_option maxHeartbeats 400000 in
theorem rFits_any (a : Option Addr) (cp : Nat) (c : List Lt) (w : World) (h : LitsIn w a c) :
    Calls Tryd.prog 51 #[.slice a c.length cp] w fun e w' => e = .returned (.bool (fitsL c)) ∧ w' = w := by
  have b := h.few
  by_cases h8 : c.length ≤ 8
  · have cC := count_any a cp c w h h8
    have HF := hide (show fitsL c = decide ((countL c : Int) ≤ 60) by simp [fitsL, h8]; omega)
    go_enter Tryd.func51, Tryd.ntmps51
    go_wp2_with (go_at_call 75; refine cC.mono ?_; rintro e w' ⟨rfl, rfl⟩)
    go_ret
    exact ⟨ret_bool HF.out.symm, rfl⟩
  · have hf : fitsL c = false := by simp [fitsL, h8]
    rw [hf]
    clear hf
    go_enter Tryd.func51, Tryd.ntmps51
    go_wp2
    go_ret
    exact ⟨rfl, rfl⟩

end Go.Proofs.YtjnddclkdofgdaaDoor

namespace Go.Proofs.YtjnddclkdofgdaaDoor
open Go.RowKit
set_option maxRecDepth 100000

/-- Does a literal stand among some? -/
def memB (acc : List Lt) (x : Lt) : Bool := acc.any fun y => decide (y = x)
theorem memB_iff (acc : List Lt) (x : Lt) : memB acc x = true ↔ x ∈ acc := by simp [memB]
theorem memB_snoc (acc : List Lt) (y x : Lt) : memB (acc ++ [y]) x = (memB acc x || decide (y = x)) := by simp [memB]
/-- One literal more, if it did not stand there. -/
def dedStep (acc : List Lt) (x : Lt) : List Lt := if memB acc x then acc else acc ++ [x]
/-- Literals, each once. -/
def dedL (c : List Lt) : List Lt := c.foldl dedStep []
theorem dedL_take (c : List Lt) (k : Nat) (h : k < c.length) : dedL (c.take (k + 1)) = dedStep (dedL (c.take k)) c[k] := by
  rw [List.take_succ_eq_append_getElem h]; simp only [dedL, List.foldl_append, List.foldl_cons, List.foldl_nil]
theorem dedL_bounds (c : List Lt) : (dedL c).length ≤ c.length ∧ countL (dedL c) ≤ countL c ∧ ∀ x ∈ dedL c, x ∈ c := by
  suffices ∀ (c : List Lt) (acc : List Lt), (c.foldl dedStep acc).length ≤ acc.length + c.length ∧ countL (c.foldl dedStep acc) ≤ countL acc + countL c ∧ ∀ x ∈ c.foldl dedStep acc, x ∈ acc ∨ x ∈ c by
    have h := this c []
    exact ⟨by have := h.1; simpa [dedL] using this, by have := h.2.1; simpa [countL, dedL] using this, fun x hx => by rcases h.2.2 x hx with h | h <;> simp_all⟩
  intro c
  induction c with
  | nil => intro acc; simp [countL]
  | cons x r ih =>
    intro acc
    have h := ih (dedStep acc x)
    have h1 : (dedStep acc x).length ≤ acc.length + 1 ∧ countL (dedStep acc x) ≤ countL acc + x.2.length ∧ ∀ y ∈ dedStep acc x, y ∈ acc ∨ y = x := by
      unfold dedStep
      split
      · exact ⟨by omega, by omega, fun y hy => Or.inl hy⟩
      · exact ⟨by simp, by simp [countL], fun y hy => by simpa using hy⟩
    have h2 : countL (x :: r) = x.2.length + countL r := by simp [countL]
    simp only [List.foldl_cons, List.length_cons]
    refine ⟨by omega, by omega, fun y hy => ?_⟩
    rcases h.2.2 y hy with hy | hy
    · rcases h1.2.2 y hy with hy | rfl
      · exact Or.inl hy
      · exact Or.inr (by simp)
    · exact Or.inr (by simp [hy])
/-- One literal more, its variables numbered anew. -/
def litStep (st : List Lt × List Int) (x : Lt) : List Lt × List Int := (st.1 ++ [(x.1, (renL x.2 st.2).1)], (renL x.2 st.2).2)
def litSt (c : List Lt) : List Lt × List Int := c.foldl litStep ([], [])
/-- Literals in order. -/
def ordL (c : List Lt) : List Lt := (litSt (dedL c)).1
theorem litSt_take (c : List Lt) (k : Nat) (h : k < c.length) : litSt (c.take (k + 1)) = litStep (litSt (c.take k)) c[k] := by
  rw [List.take_succ_eq_append_getElem h]; simp only [litSt, List.foldl_append, List.foldl_cons, List.foldl_nil]
theorem litSt_bounds (c : List Lt) : (litSt c).1.length = c.length ∧ (litSt c).2.length ≤ countL c := by
  suffices ∀ (c : List Lt) (st : List Lt × List Int), (c.foldl litStep st).1.length = st.1.length + c.length ∧ (c.foldl litStep st).2.length ≤ st.2.length + countL c by
    have h := this c ([], []); simpa [litSt] using h
  intro c
  induction c with
  | nil => intro st; simp [countL]
  | cons x r ih =>
    intro st
    have h := ih (litStep st x)
    have h1 := renL_bounds x.2 st.2
    have h2 : countL (x :: r) = x.2.length + countL r := by simp [countL]
    simp only [List.foldl_cons, List.length_cons]
    have h3 : (litStep st x).1.length = st.1.length + 1 := by simp [litStep]
    have h4 : (litStep st x).2.length ≤ st.2.length + x.2.length := h1.2
    exact ⟨by omega, by omega⟩

theorem countL_mem (c : List Lt) (x : Lt) (h : x ∈ c) : x.2.length ≤ countL c := by
  induction c with
  | nil => simp at h
  | cons y r ih =>
    simp only [countL, List.map_cons, List.sum_cons] at ih ⊢
    rcases List.mem_cons.1 h with rfl | h
    · omega
    · have := ih h; omega
/-- The cells of literals, each with the value of its atom. -/
def litCells (P : List (Lt × Value)) : List Value := P.flatMap fun p => [.bool p.1.1, p.2]
theorem litCells_length (P : List (Lt × Value)) : (litCells P).length = P.length * 2 := by
  induction P with
  | nil => rfl
  | cons x r ih => simp [litCells] at ih ⊢; omega
theorem litCells_snoc (P : List (Lt × Value)) (x : Lt × Value) : litCells (P ++ [x]) = litCells P ++ [.bool x.1.1, x.2] := by simp [litCells]
theorem litCells_at (P : List (Lt × Value)) : ∀ k (h : k < P.length), (litCells P)[k * 2]? = some (.bool P[k].1.1) ∧ (litCells P)[k * 2 + 1]? = some P[k].2 := by
  induction P with
  | nil => intro k h; simp at h
  | cons x r ih =>
    intro k h
    cases k with
    | zero => simp [litCells]
    | succ k =>
      have := ih k (by simpa using h)
      have e1 : (k + 1) * 2 = k * 2 + 2 := by omega
      have e2 : (k + 1) * 2 + 1 = k * 2 + 1 + 2 := by omega
      rw [e1]
      simp only [litCells, List.flatMap_cons, List.cons_append, List.nil_append, List.getElem?_cons_succ, List.getElem_cons_succ] at this ⊢
      exact this
theorem own_lits {w : World} {B : Nat} {v : Value} {P : List (Lt × Value)} (h : w.ownsRow B 30 2 v P.length (litCells P)) :
    ∃ a cap, v = .slice a P.length cap ∧ ∀ k (h : k < P.length), ∃ g, a = some ⟨g, 0, none⟩ ∧ w.cell? ⟨g, k * 2, none⟩ = some (.bool P[k].1.1) ∧ w.cell? ⟨g, k * 2 + 1, none⟩ = some P[k].2 := by
  obtain ⟨h1, ⟨rfl, h2⟩ | ⟨g, cap, cur, rfl, hb, hh, hc, hm, hz, ht⟩⟩ := h
  · exact ⟨none, 0, by rw [h2], fun k hk => by omega⟩
  · have ho : w.ownsRow B 30 2 (.slice (some ⟨g, 0, none⟩) P.length cap) P.length (litCells P) := ⟨h1, Or.inr ⟨g, cap, cur, rfl, hb, hh, hc, hm, hz, ht⟩⟩
    refine ⟨_, _, rfl, fun k hk => ⟨g, rfl, ?_, ?_⟩⟩
    · rw [ho.cellAt (k * 2) (by omega), (litCells_at P k hk).1]
    · rw [ho.cellAt (k * 2 + 1) (by omega), (litCells_at P k hk).2]

theorem own_shape {w : World} {B : Nat} {e : TypeId} {size : Nat} {v : Value} {n : Nat} {xs : List Value} (h : w.ownsRow B e size v n xs) : ∃ a cap, v = .slice a n cap := by
  obtain ⟨_, ⟨rfl, rfl⟩ | ⟨g, cap, cur, rfl, _⟩⟩ := h
  · exact ⟨_, _, rfl⟩
  · exact ⟨_, _, rfl⟩
/-- A value is a slice of just these nodes. -/
def AtomAt (w : World) (v : Value) (l : List Nd) : Prop := ∃ a cap, v = .slice a l.length cap ∧ NodesIn w a l
theorem infoLit : (Tryd.prog.info? 30).map (fun i => (i.zero, i.size, i.bytes)) = some (some (.agg #[.bool false, .slice none 0 0]), 2, 32) := by kernel_rfl
theorem oneLit (b : Bool) (a : Option Addr) (n c : Nat) : ∀ u ∈ [Value.bool b, Value.slice a n c], u.oneCell' = true := by
  intro u hu
  simp at hu
  rcases hu with rfl | rfl <;> rfl

theorem atoms_more {w : World} {P : List (Lt × Value)} {x : Lt} {v : Value} (hA : ∀ p ∈ P, AtomAt w p.2 p.1.2) (hx : AtomAt w v x.2) : ∀ p ∈ P ++ [(x, v)], AtomAt w p.2 p.1.2 := by
  intro p hp
  rcases List.mem_append.1 hp with hp | hp
  · exact hA p hp
  · simp at hp
    subst hp
    exact hx
theorem lit_same (yb xb : Bool) (yl xl : List Nd) (h : yl = xl) : (yb == xb) = (false || decide ((yb, yl) = (xb, xl))) := by
  subst h
  cases yb <;> cases xb <;> simp
/-- A literal more stands behind those that are in order. -/
theorem out_more {B : Nat} {wm w1 : World} {o v' v s : Value} {Q : List (Lt × Value)} {sn : List Int} {x : Lt} (hQ : ∀ q ∈ Q, wm.ownsRow B 27 2 q.2 q.1.2.length (nodeCells q.1.2)) (ho : wm.ownsRow B 30 2 o Q.length (litCells Q)) (hs : wm.ownsRow B 3 1 s sn.length (sn.map (Value.int .i64)))
    (hv : wm.ownsRow B 27 2 v x.2.length (nodeCells x.2)) (ho' : w1.ownsRow B 30 2 v' (Q.length + 1) (litCells Q ++ [.bool x.1, v])) (hg : wm.grownBy w1 o.ownBlock) :
    (∀ q ∈ Q ++ [(x, v)], w1.ownsRow B 27 2 q.2 q.1.2.length (nodeCells q.1.2)) ∧ w1.ownsRow B 30 2 v' (Q ++ [(x, v)]).length (litCells (Q ++ [(x, v)])) ∧ w1.ownsRow B 3 1 s sn.length (sn.map (Value.int .i64)) := by
  refine ⟨fun q hq => ?_, ?_, hs.kept hg (own_apart hs ho (by decide))⟩
  · rcases List.mem_append.1 hq with hq | hq
    · exact (hQ q hq).kept hg (own_apart (hQ q hq) ho (by decide))
    · simp at hq
      subst hq
      exact hv.kept hg (own_apart hv ho (by decide))
  · rw [litCells_snoc, List.length_append]
    exact ho'

/-- A literal more stands behind those that stand there once. -/
theorem once_more {w wm w1 : World} {o v' v : Value} {P : List (Lt × Value)} {x : Lt} (ho : wm.ownsRow w.heap.size 30 2 o P.length (litCells P)) (hb : Below w.heap.size w wm)
    (ho' : w1.ownsRow w.heap.size 30 2 v' (P.length + 1) (litCells P ++ [.bool x.1, v])) (hg : wm.grownBy w1 o.ownBlock) :
    w1.ownsRow w.heap.size 30 2 v' (P ++ [(x, v)]).length (litCells (P ++ [(x, v)])) ∧ Below w.heap.size w w1 := by
  refine ⟨?_, hb.grown hg hb.size fun k e => (own_lt ho k e).1⟩
  rw [litCells_snoc, List.length_append]
  exact ho'

set_option maxHeartbeats 2000000 in
theorem ordered_any (a : Option Addr) (cp : Nat) (c : List Lt) (w : World) (h : LitsIn w a c) (hfew : countL c ≤ 1000000) :
    Calls Tryd.prog 52 #[.slice a c.length cp] w fun e w' => ∃ v Q, e = .returned v ∧ Q.map Prod.fst = ordL c ∧ w'.ownsRow w.heap.size 30 2 v Q.length (litCells Q) ∧
      (∀ q ∈ Q, w'.ownsRow w.heap.size 27 2 q.2 q.1.2.length (nodeCells q.1.2)) ∧ Below w.heap.size w w' := by
  obtain ⟨iL, hL, hL0, hL1, hL2⟩ := info_parts infoLit
  have hf := h.few
  go_enter Tryd.func52, Tryd.ntmps52
  go_wp2
  go_loopw [3, 4] (fun o i wr => ∃ (k : Nat) (P : List (Lt × Value)), k ≤ c.length ∧ i = .int .i64 k ∧ P.map Prod.fst = dedL (c.take k) ∧ (∀ p ∈ P, AtomAt w p.2 p.1.2) ∧ wr.ownsRow w.heap.size 30 2 o P.length (litCells P) ∧ Below w.heap.size w wr)
    (fun _ i _ => c.length - (intOf i).toNat)
  case atStart => exact ⟨0, [], Nat.zero_le _, rfl, rfl, fun p hp => by simp at hp, World.ownsRow_nil _ _ _ _, Below.refl _ _⟩
  case round =>
    obtain ⟨k, P, hk, rfl, hP, hA, ho, hb⟩ := hrel
    have hPl : P.length ≤ k := by
      have h1 := (dedL_bounds (c.take k)).1
      have h2 : P.length = (dedL (c.take k)).length := by rw [← hP]; simp
      have h3 : (c.take k).length ≤ k := List.length_take_le _ _
      omega
    by_cases hlt : k < c.length
    · obtain ⟨b, q, aa, acp, rfl, e1, f1, g1⟩ := h.cell k hlt
      have e2 := Below.at' hb (Nat.le_refl _) e1
      have f2 := Below.at' hb (Nat.le_refl _) f1
      have hst := dedL_take c k hlt
      rw [← hP] at hst
      generalize c[k] = x at *
      obtain ⟨xb, xl⟩ := x
      simp only at e2 f2 g1
      obtain ⟨oa, ocp, rfl, hoc⟩ := own_lits ho
      have HOC := hide hoc
      have HST := hide hst
      have HA := hide hA
      have HP := hide hP
      have HG := hide g1
      have HB := hide hb
      have hbs := hb.size
      clear e1 f1 h hst hP hA hoc hb g1
      go_wp2
      go_loopw [5, 6] (fun kn j wi => ∃ n : Nat, n ≤ P.length ∧ j = .int .i64 n ∧ kn = .bool (memB ((P.map Prod.fst).take n) (xb, xl)) ∧ ∃ d, wi = wr.drewN d) (fun _ j _ => P.length - (intOf j).toNat)
      case atStart => exact ⟨0, Nat.zero_le _, rfl, rfl, 0, rfl⟩
      case round =>
        obtain ⟨n, hn, rfl, rfl, hd⟩ := hrel
        by_cases hnl : n < P.length
        · obtain ⟨g, rfl, hc1, hc2⟩ := HOC.out n hnl
          obtain ⟨pa, pcp, hpv, hpn⟩ := HA.out P[n] (List.getElem_mem _)
          rw [hpv] at hc2
          have HM := hide (show memB ((P.map Prod.fst).take (n + 1)) (xb, xl) = (memB ((P.map Prod.fst).take n) (xb, xl) || decide (P[n].1 = (xb, xl))) by
            rw [List.take_succ_eq_append_getElem (by simpa using hnl), memB_snoc]; simp)
          generalize P[n].1 = y at *
          obtain ⟨yb, yl⟩ := y
          simp only at hc1 hc2 hpn
          have q1 := Below.at' (below_drawn hd) (Nat.le_refl _) hc1
          have q2 := Below.at' (below_drawn hd) (Nat.le_refl _) hc2
          have q3 := Below.at' (below_drawn hd) (Nat.le_refl _) e2
          have q4 := Below.at' (below_drawn hd) (Nat.le_refl _) f2
          have cS := fun m => sameNodes_any pa aa pcp acp yl xl (wr.drewN m) (((hpn.below HB.out (Nat.le_refl _)).drawn hd).drewN m) (((HG.out.below HB.out (Nat.le_refl _)).drawn hd).drewN m)
          have HD := hide hd
          clear hd hc1 hc2 hpv hpn e2 f2
          generalize hkn : memB ((P.map Prod.fst).take n) (xb, xl) = kn at *
          clear hkn
          by_cases hs : yl = xl
          · rw [decide_eq_true hs] at cS
            have HC := hide cS
            have HS := hide hs
            clear cS hs
            cases kn
            · go_wp2
              go_quiet ((go_at_call 20; exact Calls.quiet_of (unhide HC _)))
              go_wp2
              go_quiet (fail)
              go_wp2
              go_roundw
              case rel => exact ⟨n + 1, by omega, by go_num, by rw [HM.out]; exact congrArg Value.bool (lit_same _ _ _ _ HS.out), drawn_trans HD.out (by first | exact draw2 _ _ _ | exact ⟨_, rfl⟩)⟩
              case measure => simp [intOf]; omega
            · go_wp2
              go_quiet ((go_at_call 20; exact Calls.quiet_of (unhide HC _)))
              go_wp2
              go_quiet (fail)
              go_wp2
              go_roundw
              case rel => exact ⟨n + 1, by omega, by go_num, by rw [HM.out]; simp, drawn_trans HD.out (by first | exact draw2 _ _ _ | exact ⟨_, rfl⟩)⟩
              case measure => simp [intOf]; omega
          · rw [decide_eq_false hs] at cS
            have HC := hide cS
            have HS := hide hs
            clear cS hs
            cases kn
            all_goals
              go_wp2
              go_quiet ((go_at_call 20; exact Calls.quiet_of (unhide HC _)))
              go_wp2
              go_quiet (fail)
              go_wp2
              go_roundw
              case rel => exact ⟨n + 1, by omega, by go_num, by rw [HM.out]; simp [Prod.ext_iff, HS.out], drawn_trans HD.out (by first | exact draw2 _ _ _ | exact ⟨_, rfl⟩)⟩
              case measure => simp [intOf]; omega
        · have hPn : (P.map Prod.fst).take n = P.map Prod.fst := List.take_of_length_le (by simp; omega)
          rw [hPn]
          clear hPn HOC
          have q3 := Below.at' (below_drawn hd) (Nat.le_refl _) e2
          have q4 := Below.at' (below_drawn hd) (Nat.le_refl _) f2
          have hod := own_below ho (below_drawn hd) (Nat.le_refl _)
          have hbd := HB.out.trans ((below_drawn hd).mono hbs)
          have HBD := hide hbd
          have hbds := hbd.size
          clear hd e2 f2 ho hbd
          cases hkn : memB (P.map Prod.fst) (xb, xl)
          · have HST' : Hid (dedL (c.take (k + 1)) = P.map Prod.fst ++ [(xb, xl)]) := hide (by rw [HST.out]; simp [dedStep, hkn])
            have HOD := hide hod
            clear hkn HST
            go_wp2_with (first
              | (at_builtin; refine wpList_append_own _ rfl (.tmp 55) (.tmp 60) 22 rfl w.heap.size 30 iL (.agg #[.bool false, .slice none 0 0]) 2 32 Tryd.underlying22 hL hL0 hL1 hL2 rfl (by decide) _ _ _ rfl (hod.alloc _) ⟨wr.heap.size, 0, none⟩ 1 1 [.bool xb, .slice aa xl.length acp] rfl rfl ?c1 ?c2 ?c3 ?c4 ?c5 ?_)
              | go_in)
            case c1 => exact new2 _ _ _ _ _ (by simp)
            case c2 => first | exact oneLit _ _ _ _ | exact ⟨rfl, rfl⟩
            case c3 => unfold maxLen; omega
            case c4 => omega
            case c5 => first | omega | (simp; omega)
            intro v' w1 ho' hg' _
            have R := once_more (x := (xb, xl)) (HOD.out.alloc _) (HBD.out.alloc hbds _) ho' hg'
            clear ho' hg' hod
            go_wp2
            go_roundw
            case rel => exact ⟨k + 1, P ++ [((xb, xl), .slice aa xl.length acp)], by omega, by go_num, by rw [HST'.out]; simp, atoms_more HA.out ⟨aa, acp, rfl, HG.out⟩, R.1, R.2⟩
            case measure => simp [intOf]; omega
          · have HST' : Hid (dedL (c.take (k + 1)) = P.map Prod.fst) := hide (by rw [HST.out]; simp [dedStep, hkn])
            have HOD := hide hod
            clear hkn HST hod
            go_wp2
            go_roundw
            case rel => exact ⟨k + 1, P, by omega, by go_num, HST'.out.symm, HA.out, HOD.out, HBD.out⟩
            case measure => simp [intOf]; omega
    · have hk1 : c.take k = c := List.take_of_length_le (by omega)
      rw [hk1] at hP
      have hPb := dedL_bounds c
      rw [← hP] at hPb
      obtain ⟨oa, ocp, rfl, hoc⟩ := own_lits ho
      have HOC := hide hoc
      have HO' : Hid (ordL c = (litSt (P.map Prod.fst)).1) := by unfold ordL; rw [← hP]; exact rfl
      have HA := hide hA
      have HB := hide hb
      have HPB := hide hPb
      have hbs := hb.size
      clear hk1 hP hPb hoc hA hb ho h
      go_wp2
      go_loopw [8, 9, 10] (fun o s i w4 => ∃ (n : Nat) (Q : List (Lt × Value)), n ≤ P.length ∧ i = .int .i64 n ∧ Q.map Prod.fst = (litSt ((P.map Prod.fst).take n)).1 ∧ (∀ q ∈ Q, w4.ownsRow wr.heap.size 27 2 q.2 q.1.2.length (nodeCells q.1.2)) ∧
          w4.ownsRow wr.heap.size 30 2 o Q.length (litCells Q) ∧ w4.ownsRow wr.heap.size 3 1 s (litSt ((P.map Prod.fst).take n)).2.length ((litSt ((P.map Prod.fst).take n)).2.map (Value.int .i64)) ∧ Below wr.heap.size wr w4)
        (fun _ _ i _ => P.length - (intOf i).toNat)
      case atStart => exact ⟨0, [], Nat.zero_le _, rfl, rfl, fun q hq => by simp at hq, World.ownsRow_nil _ _ _ _, World.ownsRow_nil _ _ _ _, Below.refl _ _⟩
      case round =>
        obtain ⟨n, Q, hn, rfl, hQ, hQA, hQo, hQs, hQb⟩ := hrel
        have hQl : Q.length ≤ n := by
          have h1 := (litSt_bounds ((P.map Prod.fst).take n)).1
          have h2 : Q.length = (litSt ((P.map Prod.fst).take n)).1.length := by rw [← hQ]; simp
          have h3 : ((P.map Prod.fst).take n).length ≤ n := List.length_take_le _ _
          omega
        have hsb : (litSt ((P.map Prod.fst).take n)).2.length ≤ 1000000 := by
          have h1 := (litSt_bounds ((P.map Prod.fst).take n)).2
          have h2 := countL_take_le (P.map Prod.fst) n
          have h3 := HPB.out.2.1
          omega
        by_cases hnl : n < P.length
        · obtain ⟨g, rfl, hc1, hc2⟩ := HOC.out n hnl
          obtain ⟨pa, pcp, hpv, hpn⟩ := HA.out P[n] (List.getElem_mem _)
          rw [hpv] at hc2
          have hst := litSt_take (P.map Prod.fst) n (by simpa using hnl)
          have hlen : P[n].1.2.length ≤ 1000000 := by
            have h2 := countL_mem (P.map Prod.fst) P[n].1 (List.mem_map.2 ⟨P[n], List.getElem_mem _, rfl⟩)
            have h3 := HPB.out.2.1
            omega
          rw [List.getElem_map] at hst
          generalize P[n].1 = y at *
          obtain ⟨yb, yl⟩ := y
          generalize litSt ((P.map Prod.fst).take n) = ST at *
          obtain ⟨so, sn⟩ := ST
          simp only at hc1 hc2 hpn hQ hQs hsb hlen
          have q1 := Below.at' hQb (Nat.le_refl _) hc1
          have q2 := Below.at' hQb (Nat.le_refl _) hc2
          have hpw := hpn.below HB.out (Nat.le_refl _)
          have hQbs := hQb.size
          have cR := renamed_any _ pa pcp yl u9 sn _ wr hpw hQb (Nat.le_refl _) hQbs hQs (by omega)
          have hst' : litSt ((P.map Prod.fst).take (n + 1)) = (so ++ [(yb, (renL yl sn).1)], (renL yl sn).2) := hst
          have hrb := renL_bounds yl sn
          generalize renL yl sn = RL at *
          obtain ⟨rl, rs⟩ := RL
          simp only at cR hst' hrb
          have HST := hide hst'
          have HQ := hide hQ
          have HR := hide cR
          have HQA := hide hQA
          have HRB := hide hrb
          clear hrb hst hst' hpv hpn hpw hQ cR hQs hQA
          go_wp2_with (first
            | (go_at_call 41; refine (unhide HR).mono ?_; rintro e w5 ⟨vo, vs', rfl, hvo, hvs, hkp⟩; obtain ⟨va, vcp, rfl⟩ := own_shape hvo; have q5 := Below.at' (hQb.trans (hkp.below hQbs)) (Nat.le_refl _) hc1; have ho5 := hkp.own (by decide) hQo; have HB5 := hide (hQb.trans (hkp.below hQbs)); have h5s := HB5.out.size; have HQA5 := hide (fun q hq => hkp.own (by decide) (HQA.out q hq)); clear hkp)
            | (at_builtin; refine wpList_append_own _ rfl (.tmp 79) (.tmp 87) 22 rfl _ 30 iL (.agg #[.bool false, .slice none 0 0]) 2 32 Tryd.underlying22 hL hL0 hL1 hL2 rfl (by decide) _ _ _ rfl (ho5.alloc _) ⟨w5.heap.size, 0, none⟩ 1 1 [.bool yb, .slice va rl.length vcp] rfl rfl ?c1 ?c2 ?c3 ?c4 ?c5 ?_)
            | go_in)
          case c1 => exact new2 _ _ _ _ _ (by simp)
          case c2 => first | exact oneLit _ _ _ _ | exact ⟨rfl, rfl⟩
          case c3 => unfold maxLen; omega
          case c4 => omega
          case c5 => exact Nat.le_trans h5s (World.grownBy_alloc _ _ none).size
          intro v' w1 ho' hg' _
          have R := out_more (x := (yb, rl)) (fun q hq => (HQA5.out q hq).alloc _) (ho5.alloc _) (hvs.alloc _) ((own_mono hvo hQbs).alloc _) ho' hg'
          have HB1 := hide ((HB5.out.alloc h5s _).grown hg' (by simp; omega) fun k e => (own_lt ho5 k e).1)
          have HR1 := hide R
          clear ho' hg' ho5 hvs hvo R
          go_wp2
          go_roundw
          case rel => exact ⟨n + 1, Q ++ [((yb, rl), .slice va rl.length vcp)], by omega, by go_num, by rw [HST.out, List.map_append, HQ.out]; rfl, HR1.out.1, HR1.out.2.1, by rw [HST.out]; exact HR1.out.2.2, HB1.out⟩
          case measure => simp [intOf]; omega
        · have hPn : (P.map Prod.fst).take n = P.map Prod.fst := List.take_of_length_le (by simp; omega)
          rw [hPn] at hQ
          rw [← HO'.out] at hQ
          have F := hide (And.intro hQ (And.intro (own_mono hQo hbs) (And.intro (fun q hq => own_mono (hQA q hq) hbs) (HB.out.trans (hQb.mono hbs)))))
          clear hQ hQA hQo hQs hQb hPn
          go_wp2
          go_ret
          exact ⟨_, Q, rfl, F.out⟩

end Go.Proofs.YtjnddclkdofgdaaDoor

namespace Go.Proofs.YtjnddclkdofgdaaDoor
open Go.RowKit
set_option maxRecDepth 100000

/-- Is a list of nodes an atom? -/
def atomB (l : List Nd) : Bool := isTermL l && !varB (l.headD (⟨#[]⟩, 0))
/-- Are literals a clause in order, of a size that may be? -/
def isClauseL (c : List Lt) : Bool := fitsL c && (c.all fun l => atomB l.2) && decide (c = ordL c)

theorem renL_names (l : List Nd) (seen : List Int) : (renL l seen).1.map Prod.fst = l.map Prod.fst := by
  suffices ∀ (l : List Nd) (st : List Nd × List Int), (l.foldl renStep st).1.map Prod.fst = st.1.map Prod.fst ++ l.map Prod.fst by
    have h := this l ([], seen); simpa [renL] using h
  intro l
  induction l with
  | nil => intro st; simp
  | cons x r ih =>
    intro st
    rw [List.foldl_cons, ih]
    have : (renStep st x).1.map Prod.fst = st.1.map Prod.fst ++ [x.1] := by
      unfold renStep
      split
      · split <;> simp
      · simp
    rw [this]
    simp
theorem litSt_names (c : List Lt) : ∀ x ∈ (litSt c).1, ∃ y ∈ c, x.2.map Prod.fst = y.2.map Prod.fst := by
  suffices ∀ (c : List Lt) (st : List Lt × List Int), ∀ x ∈ (c.foldl litStep st).1, x ∈ st.1 ∨ ∃ y ∈ c, x.2.map Prod.fst = y.2.map Prod.fst by
    intro x hx
    rcases this c ([], []) x hx with h | h
    · simp at h
    · exact h
  intro c
  induction c with
  | nil => intro st x hx; exact Or.inl hx
  | cons y r ih =>
    intro st x hx
    rcases ih (litStep st y) x hx with h | ⟨z, hz, hz'⟩
    · rcases List.mem_append.1 (show x ∈ st.1 ++ [(y.1, (renL y.2 st.2).1)] from h) with h | h
      · exact Or.inl h
      · simp at h
        subst h
        exact Or.inr ⟨y, by simp, renL_names _ _⟩
    · exact Or.inr ⟨z, by simp [hz], hz'⟩
theorem ordL_names (c : List Lt) : ∀ x ∈ ordL c, ∃ y ∈ c, x.2.map Prod.fst = y.2.map Prod.fst := by
  intro x hx
  obtain ⟨y, hy, h⟩ := litSt_names _ x hx
  exact ⟨y, (dedL_bounds c).2.2 y hy, h⟩
/-- The names of literals are short. -/
def Short (c : List Lt) : Prop := ∀ x ∈ c, x.2.length ≤ 5864062014805 ∧ ∀ n ∈ x.2, n.1.size ≤ 140737488355328
theorem LitsIn.shorts {w : World} {a : Option Addr} {c : List Lt} (h : LitsIn w a c) : Short c := by
  intro x hx
  obtain ⟨k, hk, rfl⟩ := List.mem_iff_getElem.1 hx
  obtain ⟨_, _, _, _, _, _, _, g⟩ := h.cell k hk
  refine ⟨g.few, fun n hn => ?_⟩
  obtain ⟨j, hj, rfl⟩ := List.mem_iff_getElem.1 hn
  exact g.short j hj
theorem Short.ord {c : List Lt} (h : Short c) : Short (ordL c) := by
  intro x hx
  obtain ⟨y, hy, hxy⟩ := ordL_names c x hx
  have hl : x.2.length = y.2.length := by have := congrArg List.length hxy; simpa using this
  refine ⟨by rw [hl]; exact (h y hy).1, fun n hn => ?_⟩
  have : n.1 ∈ y.2.map Prod.fst := by rw [← hxy]; exact List.mem_map.2 ⟨n, hn, rfl⟩
  obtain ⟨m, hm, hmn⟩ := List.mem_map.1 this
  rw [← hmn]
  exact (h y hy).2 m hm
/-- Rows of the call's own, as the walks read them. -/
theorem own_clause {w : World} {B : Nat} {v : Value} {Q : List (Lt × Value)} {d : List Lt} (hd : Q.map Prod.fst = d) (ho : w.ownsRow B 30 2 v Q.length (litCells Q)) (hQ : ∀ q ∈ Q, w.ownsRow B 27 2 q.2 q.1.2.length (nodeCells q.1.2)) (hf : d.length ≤ 4398046511104) (hs : Short d) :
    ∃ a cap, v = .slice a d.length cap ∧ LitsIn w a d := by
  subst hd
  obtain ⟨a, cap, rfl, hc⟩ := own_lits ho
  refine ⟨a, cap, by simp, hf, fun k hk => ?_⟩
  have hk' : k < Q.length := by simpa using hk
  obtain ⟨g, rfl, h1, h2⟩ := hc k hk'
  have hq := hQ Q[k] (List.getElem_mem _)
  have hm : Q[k].1 ∈ Q.map Prod.fst := List.mem_map.2 ⟨Q[k], List.getElem_mem _, rfl⟩
  obtain ⟨aa, acp, hv, hn⟩ := own_nodes hq (hs _ hm).1 (fun j hj => (hs _ hm).2 _ (List.getElem_mem _))
  rw [hv] at h2
  refine ⟨g, 0, aa, acp, rfl, ?_, ?_, ?_⟩
  · rw [Nat.zero_add, h1]; simp
  · rw [Nat.zero_add, h2]; simp
  · simpa using hn

theorem isTermL_nil : isTermL [] = false := by decide

set_option maxHeartbeats 1000000 in
theorem rIsClause_any (a : Option Addr) (cp : Nat) (c : List Lt) (w : World) (h : LitsIn w a c) :
    Calls Tryd.prog 33 #[.slice a c.length cp] w fun e w' => e = .returned (.bool (isClauseL c)) ∧ Below w.heap.size w w' := by
  have hf := h.few
  have cF := rFits_any a cp c w h
  by_cases hfit : fitsL c = true
  · have hcount : c.length ≤ 8 ∧ countL c ≤ 60 := by simpa [fitsL] using hfit
    rw [hfit] at cF
    have HF := hide cF
    have HH := hide h
    have HE : Hid (isClauseL c = ((c.all fun l => atomB l.2) && decide (c = ordL c))) := by unfold isClauseL; rw [hfit]; exact Bool.true_and _ ▸ rfl
    obtain ⟨h8, h60⟩ := hcount
    clear cF hfit h
    go_enter Tryd.func33, Tryd.ntmps33
    go_wp2_with (go_at_call 51; refine (unhide HF).mono ?_; rintro e w' ⟨rfl, rfl⟩)
    go_loopw [4] (fun i wr => ∃ k : Nat, k ≤ c.length ∧ i = .int .i64 k ∧ Below w'.heap.size w' wr ∧ ((c.take k).all fun l => atomB l.2) = true) (fun i _ => c.length - (intOf i).toNat)
    case atStart => exact ⟨0, Nat.zero_le _, rfl, Below.refl _ _, rfl⟩
    case round =>
      obtain ⟨k, hk, rfl, hb, hall⟩ := hrel
      by_cases hlt : k < c.length
      · obtain ⟨b, q, aa, acp, rfl, e1, f1, g1⟩ := HH.out.cell k hlt
        have e2 := Below.at' hb (Nat.le_refl _) e1
        have f2 := Below.at' hb (Nat.le_refl _) f1
        have cT := rIsTerm_any aa acp c[k].2 wr (g1.below hb (Nat.le_refl _))
        have HSN : Hid (((c.take (k + 1)).all fun l => atomB l.2) = atomB c[k].2) := by
          rw [List.take_succ_eq_append_getElem hlt, List.all_append, hall]; exact Bool.and_true _ ▸ rfl
        have HN : Hid (atomB c[k].2 = false → isClauseL c = false) := fun hx => by
          rw [HE.out, Bool.and_eq_false_iff]
          left
          rw [List.all_eq_false]
          exact ⟨c[k], List.getElem_mem _, by simp [hx]⟩
        have HB := hide hb
        have hbs := hb.size
        clear e1 f1 hall hb
        generalize c[k] = x at *
        obtain ⟨xb, xl⟩ := x
        simp only at e2 f2 g1 cT
        by_cases ht : isTermL xl = true
        · cases xl with
          | nil => rw [isTermL_nil] at ht; exact absurd ht (by simp)
          | cons n0 r =>
            rw [ht] at cT
            obtain ⟨b0, o0, rfl, e0, f0⟩ := g1.cell 0 (by simp)
            simp only [List.getElem_cons_zero, Nat.zero_mul, Nat.add_zero] at e0 f0
            obtain ⟨s0, x0⟩ := n0
            simp only at e0
            have HT := hide cT
            have hfl := g1.few
            simp only [List.length_cons] at hfl e2 f2
            have e0r := Below.at' HB.out (Nat.le_refl _) e0
            have hv0 : atomB ((s0, x0) :: r) = !s0.toList.isEmpty := by simp [atomB, ht, varB]
            clear cT g1 e0 f0 ht
            cases hv : s0.toList.isEmpty
            · have HV := hide (show atomB ((s0, x0) :: r) = true by rw [hv0]; first | rfl | simp [hv])
              clear hv0
              go_wp2_with (first
                | (go_at_call 37; refine (unhide HT).mono ?_; rintro e w2 ⟨rfl, hb2⟩; have q1 := Below.at' hb2 (Nat.le_refl _) e2; have q2 := Below.at' hb2 (Nat.le_refl _) f2; have q3 := Below.at' hb2 (Nat.le_refl _) e0r; have HB2 := hide (HB.out.trans (hb2.mono hbs)); clear hb2)
                | go_in)
              go_roundw
              case rel => exact ⟨k + 1, by omega, by go_num, HB2.out, by rw [HSN.out, HV.out]⟩
              case measure => simp [intOf]; omega
            · have HV := hide (show atomB ((s0, x0) :: r) = false by rw [hv0]; first | rfl | simp [hv])
              clear hv0
              go_wp2_with (first
                | (go_at_call 37; refine (unhide HT).mono ?_; rintro e w2 ⟨rfl, hb2⟩; have q1 := Below.at' hb2 (Nat.le_refl _) e2; have q2 := Below.at' hb2 (Nat.le_refl _) f2; have q3 := Below.at' hb2 (Nat.le_refl _) e0r; have HB2 := hide (HB.out.trans (hb2.mono hbs)); clear hb2)
                | go_in)
              go_ret
              exact ⟨ret_bool (HN.out HV.out).symm, HB2.out⟩
        · have ht' : isTermL xl = false := by simpa using ht
          rw [ht'] at cT
          have HT := hide cT
          have HV := hide (HN.out (by unfold atomB; rw [ht']; rfl))
          clear cT ht ht' g1
          go_wp2_with (first
            | (go_at_call 37; refine (unhide HT).mono ?_; rintro e w2 ⟨rfl, hb2⟩; have HB2 := hide (HB.out.trans (hb2.mono hbs)); clear hb2)
            | go_in)
          go_ret
          exact ⟨ret_bool HV.out.symm, HB2.out⟩
      · have hk1 : c.take k = c := List.take_of_length_le (by omega)
        rw [hk1] at hall
        have HA : Hid (isClauseL c = decide (c = ordL c)) := by rw [HE.out, hall]; exact Bool.true_and _ ▸ rfl
        have HB := hide hb
        have hbs := hb.size
        have hw := HH.out.below hb (Nat.le_refl _)
        have cO := ordered_any a cp c wr hw (by omega)
        have hlen : (ordL c).length ≤ 8 := by
          have h1 := (litSt_bounds (dedL c)).1
          have h2 := (dedL_bounds c).1
          have h3 : (ordL c).length = (dedL c).length := h1
          omega
        have HL := hide hlen
        have HO := hide cO
        have HW := hide hw
        clear hk1 hall hb hw cO hlen
        go_wp2_with (first
          | (go_at_call 52; refine (unhide HO).mono ?_; rintro e w2 ⟨v, Q, rfl, hQ, ho, hQa, hb2⟩; obtain ⟨oa, ocp, rfl, hlits⟩ := own_clause hQ ho hQa (by have := HL.out; omega) HH.out.shorts.ord; have HS := hide (sameClause_any a oa cp ocp c (ordL c) w2 (HW.out.below hb2 (Nat.le_refl _)) hlits); have HB2 := hide (HB.out.trans (hb2.mono hbs)); clear hQ ho hQa hb2 hlits)
          | (go_at_call 15; refine (unhide HS).mono ?_; rintro e w3 ⟨rfl, hd⟩; have HB3 := hide (HB2.out.trans ((below_drawn hd).mono HB2.out.size)); clear hd)
          | go_in)
        go_ret
        exact ⟨ret_bool HA.out.symm, HB3.out⟩
  · have hfit' : fitsL c = false := by simpa using hfit
    rw [hfit'] at cF
    have HE : Hid (isClauseL c = false) := by unfold isClauseL; rw [hfit']; rfl
    have HF := hide cF
    clear cF hfit hfit' h
    go_enter Tryd.func33, Tryd.ntmps33
    go_wp2_with (go_at_call 51; refine (unhide HF).mono ?_; rintro e w' ⟨rfl, rfl⟩)
    go_ret
    exact ⟨ret_bool HE.out.symm, Below.refl _ _⟩

end Go.Proofs.YtjnddclkdofgdaaDoor
