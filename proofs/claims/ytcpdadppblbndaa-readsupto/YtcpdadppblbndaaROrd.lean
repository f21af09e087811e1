/- The document's own answer: literals in order. -/
import Derived.Test.YtcpdadppblbndaaRRenM
namespace Go.Proofs.Ytcpdadppblbndaa
open Go.RowKit
set_option maxRecDepth 100000

/-- Does a literal stand among some? -/
def memB (acc : List Lt) (x : Lt) : Bool := acc.any fun y => decide (y = x)
theorem memB_iff (acc : List Lt) (x : Lt) : memB acc x = true ↔ x ∈ acc := by simp [memB]
theorem memB_snoc (acc : List Lt) (y x : Lt) : memB (acc ++ [y]) x = (memB acc x || decide (y = x)) := by simp [memB]
/-- One literal more, if it did not stand there. -/
def dedStep (acc : List Lt) (x : Lt) : List Lt := if memB acc x then acc else acc ++ [x]
/-- Literals, each once. -/
def dedL (c : List Lt) : List Lt := c.foldl dedStep []
theorem dedL_take (c : List Lt) (k : Nat) (h : k < c.length) : dedL (c.take (k + 1)) = dedStep (dedL (c.take k)) c[k] := by
  rw [List.take_succ_eq_append_getElem h]; simp only [dedL, List.foldl_append, List.foldl_cons, List.foldl_nil]
theorem dedL_bounds (c : List Lt) : (dedL c).length ≤ c.length ∧ countL (dedL c) ≤ countL c ∧ ∀ x ∈ dedL c, x ∈ c := by
  suffices ∀ (c : List Lt) (acc : List Lt), (c.foldl dedStep acc).length ≤ acc.length + c.length ∧ countL (c.foldl dedStep acc) ≤ countL acc + countL c ∧ ∀ x ∈ c.foldl dedStep acc, x ∈ acc ∨ x ∈ c by
    have h := this c []
    exact ⟨by have := h.1; simpa [dedL] using this, by have := h.2.1; simpa [countL, dedL] using this, fun x hx => by rcases h.2.2 x hx with h | h <;> simp_all⟩
  intro c
  induction c with
  | nil => intro acc; simp [countL]
  | cons x r ih =>
    intro acc
    have h := ih (dedStep acc x)
    have h1 : (dedStep acc x).length ≤ acc.length + 1 ∧ countL (dedStep acc x) ≤ countL acc + x.2.length ∧ ∀ y ∈ dedStep acc x, y ∈ acc ∨ y = x := by
      unfold dedStep
      split
      · exact ⟨by omega, by omega, fun y hy => Or.inl hy⟩
      · exact ⟨by simp, by simp [countL], fun y hy => by simpa using hy⟩
    have h2 : countL (x :: r) = x.2.length + countL r := by simp [countL]
    simp only [List.foldl_cons, List.length_cons]
    refine ⟨by omega, by omega, fun y hy => ?_⟩
    rcases h.2.2 y hy with hy | hy
    · rcases h1.2.2 y hy with hy | rfl
      · exact Or.inl hy
      · exact Or.inr (by simp)
    · exact Or.inr (by simp [hy])
/-- One literal more, its variables numbered anew. -/
def litStep (st : List Lt × List Int) (x : Lt) : List Lt × List Int := (st.1 ++ [(x.1, (renL x.2 st.2).1)], (renL x.2 st.2).2)
def litSt (c : List Lt) : List Lt × List Int := c.foldl litStep ([], [])
/-- Literals in order. -/
def ordL (c : List Lt) : List Lt := (litSt (dedL c)).1
theorem litSt_take (c : List Lt) (k : Nat) (h : k < c.length) : litSt (c.take (k + 1)) = litStep (litSt (c.take k)) c[k] := by
  rw [List.take_succ_eq_append_getElem h]; simp only [litSt, List.foldl_append, List.foldl_cons, List.foldl_nil]
theorem litSt_bounds (c : List Lt) : (litSt c).1.length = c.length ∧ (litSt c).2.length ≤ countL c := by
  suffices ∀ (c : List Lt) (st : List Lt × List Int), (c.foldl litStep st).1.length = st.1.length + c.length ∧ (c.foldl litStep st).2.length ≤ st.2.length + countL c by
    have h := this c ([], []); simpa [litSt] using h
  intro c
  induction c with
  | nil => intro st; simp [countL]
  | cons x r ih =>
    intro st
    have h := ih (litStep st x)
    have h1 := renL_bounds x.2 st.2
    have h2 : countL (x :: r) = x.2.length + countL r := by simp [countL]
    simp only [List.foldl_cons, List.length_cons]
    have h3 : (litStep st x).1.length = st.1.length + 1 := by simp [litStep]
    have h4 : (litStep st x).2.length ≤ st.2.length + x.2.length := h1.2
    exact ⟨by omega, by omega⟩

theorem countL_mem (c : List Lt) (x : Lt) (h : x ∈ c) : x.2.length ≤ countL c := by
  induction c with
  | nil => simp at h
  | cons y r ih =>
    simp only [countL, List.map_cons, List.sum_cons] at ih ⊢
    rcases List.mem_cons.1 h with rfl | h
    · omega
    · have := ih h; omega
/-- The cells of literals, each with the value of its atom. -/
def litCells (P : List (Lt × Value)) : List Value := P.flatMap fun p => [.bool p.1.1, p.2]
theorem litCells_length (P : List (Lt × Value)) : (litCells P).length = P.length * 2 := by
  induction P with
  | nil => rfl
  | cons x r ih => simp [litCells] at ih ⊢; omega
theorem litCells_snoc (P : List (Lt × Value)) (x : Lt × Value) : litCells (P ++ [x]) = litCells P ++ [.bool x.1.1, x.2] := by simp [litCells]
theorem litCells_at (P : List (Lt × Value)) : ∀ k (h : k < P.length), (litCells P)[k * 2]? = some (.bool P[k].1.1) ∧ (litCells P)[k * 2 + 1]? = some P[k].2 := by
  induction P with
  | nil => intro k h; simp at h
  | cons x r ih =>
    intro k h
    cases k with
    | zero => simp [litCells]
    | succ k =>
      have := ih k (by simpa using h)
      have e1 : (k + 1) * 2 = k * 2 + 2 := by omega
      have e2 : (k + 1) * 2 + 1 = k * 2 + 1 + 2 := by omega
      rw [e1]
      simp only [litCells, List.flatMap_cons, List.cons_append, List.nil_append, List.getElem?_cons_succ, List.getElem_cons_succ] at this ⊢
      exact this
theorem own_lits {w : World} {B : Nat} {v : Value} {P : List (Lt × Value)} (h : w.ownsRow B 49 2 v P.length (litCells P)) :
    ∃ a cap, v = .slice a P.length cap ∧ ∀ k (h : k < P.length), ∃ g, a = some ⟨g, 0, none⟩ ∧ w.cell? ⟨g, k * 2, none⟩ = some (.bool P[k].1.1) ∧ w.cell? ⟨g, k * 2 + 1, none⟩ = some P[k].2 := by
  obtain ⟨h1, ⟨rfl, h2⟩ | ⟨g, cap, cur, rfl, hb, hh, hc, hm, hz, ht⟩⟩ := h
  · exact ⟨none, 0, by rw [h2], fun k hk => by omega⟩
  · have ho : w.ownsRow B 49 2 (.slice (some ⟨g, 0, none⟩) P.length cap) P.length (litCells P) := ⟨h1, Or.inr ⟨g, cap, cur, rfl, hb, hh, hc, hm, hz, ht⟩⟩
    refine ⟨_, _, rfl, fun k hk => ⟨g, rfl, ?_, ?_⟩⟩
    · rw [ho.cellAt (k * 2) (by omega), (litCells_at P k hk).1]
    · rw [ho.cellAt (k * 2 + 1) (by omega), (litCells_at P k hk).2]

theorem own_shape {w : World} {B : Nat} {e : TypeId} {size : Nat} {v : Value} {n : Nat} {xs : List Value} (h : w.ownsRow B e size v n xs) : ∃ a cap, v = .slice a n cap := by
  obtain ⟨_, ⟨rfl, rfl⟩ | ⟨g, cap, cur, rfl, _⟩⟩ := h
  · exact ⟨_, _, rfl⟩
  · exact ⟨_, _, rfl⟩
/-- A value is a slice of just these nodes. -/
def AtomAt (w : World) (v : Value) (l : List Nd) : Prop := ∃ a cap, v = .slice a l.length cap ∧ NodesIn w a l
theorem infoLit : (Try.prog.info? 49).map (fun i => (i.zero, i.size, i.bytes)) = some (some (.agg #[.bool false, .slice none 0 0]), 2, 32) := by kernel_rfl
theorem oneLit (b : Bool) (a : Option Addr) (n c : Nat) : ∀ u ∈ [Value.bool b, Value.slice a n c], u.oneCell' = true := by
  intro u hu
  simp at hu
  rcases hu with rfl | rfl <;> rfl

theorem atoms_more {w : World} {P : List (Lt × Value)} {x : Lt} {v : Value} (hA : ∀ p ∈ P, AtomAt w p.2 p.1.2) (hx : AtomAt w v x.2) : ∀ p ∈ P ++ [(x, v)], AtomAt w p.2 p.1.2 := by
  intro p hp
  rcases List.mem_append.1 hp with hp | hp
  · exact hA p hp
  · simp at hp
    subst hp
    exact hx
theorem lit_same (yb xb : Bool) (yl xl : List Nd) (h : yl = xl) : (yb == xb) = (false || decide ((yb, yl) = (xb, xl))) := by
  subst h
  cases yb <;> cases xb <;> simp
/-- A literal more stands behind those that are in order. -/
theorem out_more {B : Nat} {wm w1 : World} {o v' v s : Value} {Q : List (Lt × Value)} {sn : List Int} {x : Lt} (hQ : ∀ q ∈ Q, wm.ownsRow B 46 2 q.2 q.1.2.length (nodeCells q.1.2)) (ho : wm.ownsRow B 49 2 o Q.length (litCells Q)) (hs : wm.ownsRow B 3 1 s sn.length (sn.map (Value.int .i64)))
    (hv : wm.ownsRow B 46 2 v x.2.length (nodeCells x.2)) (ho' : w1.ownsRow B 49 2 v' (Q.length + 1) (litCells Q ++ [.bool x.1, v])) (hg : wm.grownBy w1 o.ownBlock) :
    (∀ q ∈ Q ++ [(x, v)], w1.ownsRow B 46 2 q.2 q.1.2.length (nodeCells q.1.2)) ∧ w1.ownsRow B 49 2 v' (Q ++ [(x, v)]).length (litCells (Q ++ [(x, v)])) ∧ w1.ownsRow B 3 1 s sn.length (sn.map (Value.int .i64)) := by
  refine ⟨fun q hq => ?_, ?_, hs.kept hg (own_apart hs ho (by decide))⟩
  · rcases List.mem_append.1 hq with hq | hq
    · exact (hQ q hq).kept hg (own_apart (hQ q hq) ho (by decide))
    · simp at hq
      subst hq
      exact hv.kept hg (own_apart hv ho (by decide))
  · rw [litCells_snoc, List.length_append]
    exact ho'

/-- A literal more stands behind those that stand there once. -/
theorem once_more {w wm w1 : World} {o v' v : Value} {P : List (Lt × Value)} {x : Lt} (ho : wm.ownsRow w.heap.size 49 2 o P.length (litCells P)) (hb : Below w.heap.size w wm)
    (ho' : w1.ownsRow w.heap.size 49 2 v' (P.length + 1) (litCells P ++ [.bool x.1, v])) (hg : wm.grownBy w1 o.ownBlock) :
    w1.ownsRow w.heap.size 49 2 v' (P ++ [(x, v)]).length (litCells (P ++ [(x, v)])) ∧ Below w.heap.size w w1 := by
  refine ⟨?_, hb.grown hg hb.size fun k e => (own_lt ho k e).1⟩
  rw [litCells_snoc, List.length_append]
  exact ho'

set_option maxHeartbeats 2000000 in
theorem ordered_any (a : Option Addr) (cp : Nat) (c : List Lt) (w : World) (h : LitsIn w a c) (hfew : countL c ≤ 1000000) :
    Calls Try.prog 32 #[.slice a c.length cp] w fun e w' => ∃ v Q, e = .returned v ∧ Q.map Prod.fst = ordL c ∧ w'.ownsRow w.heap.size 49 2 v Q.length (litCells Q) ∧
      (∀ q ∈ Q, w'.ownsRow w.heap.size 46 2 q.2 q.1.2.length (nodeCells q.1.2)) ∧ Below w.heap.size w w' := by
  obtain ⟨iL, hL, hL0, hL1, hL2⟩ := info_parts infoLit
  have hf := h.few
  go_enter Try.func32, Try.ntmps32
  go_wp2
  go_loopw [3, 4] (fun o i wr => ∃ (k : Nat) (P : List (Lt × Value)), k ≤ c.length ∧ i = .int .i64 k ∧ P.map Prod.fst = dedL (c.take k) ∧ (∀ p ∈ P, AtomAt w p.2 p.1.2) ∧ wr.ownsRow w.heap.size 49 2 o P.length (litCells P) ∧ Below w.heap.size w wr)
    (fun _ i _ => c.length - (intOf i).toNat)
  case atStart => exact ⟨0, [], Nat.zero_le _, rfl, rfl, fun p hp => by simp at hp, World.ownsRow_nil _ _ _ _, Below.refl _ _⟩
  case round =>
    obtain ⟨k, P, hk, rfl, hP, hA, ho, hb⟩ := hrel
    have hPl : P.length ≤ k := by
      have h1 := (dedL_bounds (c.take k)).1
      have h2 : P.length = (dedL (c.take k)).length := by rw [← hP]; simp
      have h3 : (c.take k).length ≤ k := List.length_take_le _ _
      omega
    by_cases hlt : k < c.length
    · obtain ⟨b, q, aa, acp, rfl, e1, f1, g1⟩ := h.cell k hlt
      have e2 := Below.at' hb (Nat.le_refl _) e1
      have f2 := Below.at' hb (Nat.le_refl _) f1
      have hst := dedL_take c k hlt
      rw [← hP] at hst
      generalize c[k] = x at *
      obtain ⟨xb, xl⟩ := x
      simp only at e2 f2 g1
      obtain ⟨oa, ocp, rfl, hoc⟩ := own_lits ho
      have HOC := hide hoc
      have HST := hide hst
      have HA := hide hA
      have HP := hide hP
      have HG := hide g1
      have HB := hide hb
      have hbs := hb.size
      clear e1 f1 h hst hP hA hoc hb g1
      go_wp2
      go_loopw [5, 6] (fun kn j wi => ∃ n : Nat, n ≤ P.length ∧ j = .int .i64 n ∧ kn = .bool (memB ((P.map Prod.fst).take n) (xb, xl)) ∧ ∃ d, wi = wr.drewN d) (fun _ j _ => P.length - (intOf j).toNat)
      case atStart => exact ⟨0, Nat.zero_le _, rfl, rfl, 0, rfl⟩
      case round =>
        obtain ⟨n, hn, rfl, rfl, hd⟩ := hrel
        by_cases hnl : n < P.length
        · obtain ⟨g, rfl, hc1, hc2⟩ := HOC.out n hnl
          obtain ⟨pa, pcp, hpv, hpn⟩ := HA.out P[n] (List.getElem_mem _)
          rw [hpv] at hc2
          have HM := hide (show memB ((P.map Prod.fst).take (n + 1)) (xb, xl) = (memB ((P.map Prod.fst).take n) (xb, xl) || decide (P[n].1 = (xb, xl))) by
            rw [List.take_succ_eq_append_getElem (by simpa using hnl), memB_snoc]; simp)
          generalize P[n].1 = y at *
          obtain ⟨yb, yl⟩ := y
          simp only at hc1 hc2 hpn
          have q1 := Below.at' (below_drawn hd) (Nat.le_refl _) hc1
          have q2 := Below.at' (below_drawn hd) (Nat.le_refl _) hc2
          have q3 := Below.at' (below_drawn hd) (Nat.le_refl _) e2
          have q4 := Below.at' (below_drawn hd) (Nat.le_refl _) f2
          have cS := fun m => sameNodes_any pa aa pcp acp yl xl (wr.drewN m) (((hpn.below HB.out (Nat.le_refl _)).drawn hd).drewN m) (((HG.out.below HB.out (Nat.le_refl _)).drawn hd).drewN m)
          have HD := hide hd
          clear hd hc1 hc2 hpv hpn e2 f2
          generalize hkn : memB ((P.map Prod.fst).take n) (xb, xl) = kn at *
          clear hkn
          by_cases hs : yl = xl
          · rw [decide_eq_true hs] at cS
            have HC := hide cS
            have HS := hide hs
            clear cS hs
            cases kn
            · go_wp2
              go_quiet ((go_at_call 20; exact Calls.quiet_of (unhide HC _)))
              go_wp2
              go_quiet (fail)
              go_wp2
              go_roundw
              case rel => exact ⟨n + 1, by omega, by go_num, by rw [HM.out]; exact congrArg Value.bool (lit_same _ _ _ _ HS.out), drawn_trans HD.out (by first | exact draw2 _ _ _ | exact ⟨_, rfl⟩)⟩
              case measure => simp [intOf]; omega
            · go_wp2
              go_quiet ((go_at_call 20; exact Calls.quiet_of (unhide HC _)))
              go_wp2
              go_quiet (fail)
              go_wp2
              go_roundw
              case rel => exact ⟨n + 1, by omega, by go_num, by rw [HM.out]; simp, drawn_trans HD.out (by first | exact draw2 _ _ _ | exact ⟨_, rfl⟩)⟩
              case measure => simp [intOf]; omega
          · rw [decide_eq_false hs] at cS
            have HC := hide cS
            have HS := hide hs
            clear cS hs
            cases kn
            all_goals
              go_wp2
              go_quiet ((go_at_call 20; exact Calls.quiet_of (unhide HC _)))
              go_wp2
              go_quiet (fail)
              go_wp2
              go_roundw
              case rel => exact ⟨n + 1, by omega, by go_num, by rw [HM.out]; simp [Prod.ext_iff, HS.out], drawn_trans HD.out (by first | exact draw2 _ _ _ | exact ⟨_, rfl⟩)⟩
              case measure => simp [intOf]; omega
        · have hPn : (P.map Prod.fst).take n = P.map Prod.fst := List.take_of_length_le (by simp; omega)
          rw [hPn]
          clear hPn HOC
          have q3 := Below.at' (below_drawn hd) (Nat.le_refl _) e2
          have q4 := Below.at' (below_drawn hd) (Nat.le_refl _) f2
          have hod := own_below ho (below_drawn hd) (Nat.le_refl _)
          have hbd := HB.out.trans ((below_drawn hd).mono hbs)
          have HBD := hide hbd
          have hbds := hbd.size
          clear hd e2 f2 ho hbd
          cases hkn : memB (P.map Prod.fst) (xb, xl)
          · have HST' : Hid (dedL (c.take (k + 1)) = P.map Prod.fst ++ [(xb, xl)]) := hide (by rw [HST.out]; simp [dedStep, hkn])
            have HOD := hide hod
            clear hkn HST
            go_wp2_with (first
              | (at_builtin; refine wpList_append_own _ rfl (.tmp 55) (.tmp 60) 42 rfl w.heap.size 49 iL (.agg #[.bool false, .slice none 0 0]) 2 32 Try.underlying42 hL hL0 hL1 hL2 rfl (by decide) _ _ _ rfl (hod.alloc _) ⟨wr.heap.size, 0, none⟩ 1 1 [.bool xb, .slice aa xl.length acp] rfl rfl ?c1 ?c2 ?c3 ?c4 ?c5 ?_)
              | go_in)
            case c1 => exact new2 _ _ _ _ _ (by simp)
            case c2 => first | exact oneLit _ _ _ _ | exact ⟨rfl, rfl⟩
            case c3 => unfold maxLen; omega
            case c4 => omega
            case c5 => first | omega | (simp; omega)
            intro v' w1 ho' hg' _
            have R := once_more (x := (xb, xl)) (HOD.out.alloc _) (HBD.out.alloc hbds _) ho' hg'
            clear ho' hg' hod
            go_wp2
            go_roundw
            case rel => exact ⟨k + 1, P ++ [((xb, xl), .slice aa xl.length acp)], by omega, by go_num, by rw [HST'.out]; simp, atoms_more HA.out ⟨aa, acp, rfl, HG.out⟩, R.1, R.2⟩
            case measure => simp [intOf]; omega
          · have HST' : Hid (dedL (c.take (k + 1)) = P.map Prod.fst) := hide (by rw [HST.out]; simp [dedStep, hkn])
            have HOD := hide hod
            clear hkn HST hod
            go_wp2
            go_roundw
            case rel => exact ⟨k + 1, P, by omega, by go_num, HST'.out.symm, HA.out, HOD.out, HBD.out⟩
            case measure => simp [intOf]; omega
    · have hk1 : c.take k = c := List.take_of_length_le (by omega)
      rw [hk1] at hP
      have hPb := dedL_bounds c
      rw [← hP] at hPb
      obtain ⟨oa, ocp, rfl, hoc⟩ := own_lits ho
      have HOC := hide hoc
      have HO' : Hid (ordL c = (litSt (P.map Prod.fst)).1) := by unfold ordL; rw [← hP]; exact rfl
      have HA := hide hA
      have HB := hide hb
      have HPB := hide hPb
      have hbs := hb.size
      clear hk1 hP hPb hoc hA hb ho h
      go_wp2
      go_loopw [8, 9, 10] (fun o s i w4 => ∃ (n : Nat) (Q : List (Lt × Value)), n ≤ P.length ∧ i = .int .i64 n ∧ Q.map Prod.fst = (litSt ((P.map Prod.fst).take n)).1 ∧ (∀ q ∈ Q, w4.ownsRow wr.heap.size 46 2 q.2 q.1.2.length (nodeCells q.1.2)) ∧
          w4.ownsRow wr.heap.size 49 2 o Q.length (litCells Q) ∧ w4.ownsRow wr.heap.size 3 1 s (litSt ((P.map Prod.fst).take n)).2.length ((litSt ((P.map Prod.fst).take n)).2.map (Value.int .i64)) ∧ Below wr.heap.size wr w4)
        (fun _ _ i _ => P.length - (intOf i).toNat)
      case atStart => exact ⟨0, [], Nat.zero_le _, rfl, rfl, fun q hq => by simp at hq, World.ownsRow_nil _ _ _ _, World.ownsRow_nil _ _ _ _, Below.refl _ _⟩
      case round =>
        obtain ⟨n, Q, hn, rfl, hQ, hQA, hQo, hQs, hQb⟩ := hrel
        have hQl : Q.length ≤ n := by
          have h1 := (litSt_bounds ((P.map Prod.fst).take n)).1
          have h2 : Q.length = (litSt ((P.map Prod.fst).take n)).1.length := by rw [← hQ]; simp
          have h3 : ((P.map Prod.fst).take n).length ≤ n := List.length_take_le _ _
          omega
        have hsb : (litSt ((P.map Prod.fst).take n)).2.length ≤ 1000000 := by
          have h1 := (litSt_bounds ((P.map Prod.fst).take n)).2
          have h2 := countL_take_le (P.map Prod.fst) n
          have h3 := HPB.out.2.1
          omega
        by_cases hnl : n < P.length
        · obtain ⟨g, rfl, hc1, hc2⟩ := HOC.out n hnl
          obtain ⟨pa, pcp, hpv, hpn⟩ := HA.out P[n] (List.getElem_mem _)
          rw [hpv] at hc2
          have hst := litSt_take (P.map Prod.fst) n (by simpa using hnl)
          have hlen : P[n].1.2.length ≤ 1000000 := by
            have h2 := countL_mem (P.map Prod.fst) P[n].1 (List.mem_map.2 ⟨P[n], List.getElem_mem _, rfl⟩)
            have h3 := HPB.out.2.1
            omega
          rw [List.getElem_map] at hst
          generalize P[n].1 = y at *
          obtain ⟨yb, yl⟩ := y
          generalize litSt ((P.map Prod.fst).take n) = ST at *
          obtain ⟨so, sn⟩ := ST
          simp only at hc1 hc2 hpn hQ hQs hsb hlen
          have q1 := Below.at' hQb (Nat.le_refl _) hc1
          have q2 := Below.at' hQb (Nat.le_refl _) hc2
          have hpw := hpn.below HB.out (Nat.le_refl _)
          have hQbs := hQb.size
          have cR := renamed_any _ pa pcp yl u9 sn _ wr hpw hQb (Nat.le_refl _) hQbs hQs (by omega)
          have hst' : litSt ((P.map Prod.fst).take (n + 1)) = (so ++ [(yb, (renL yl sn).1)], (renL yl sn).2) := hst
          have hrb := renL_bounds yl sn
          generalize renL yl sn = RL at *
          obtain ⟨rl, rs⟩ := RL
          simp only at cR hst' hrb
          have HST := hide hst'
          have HQ := hide hQ
          have HR := hide cR
          have HQA := hide hQA
          have HRB := hide hrb
          clear hrb hst hst' hpv hpn hpw hQ cR hQs hQA
          go_wp2_with (first
            | (go_at_call 44; refine (unhide HR).mono ?_; rintro e w5 ⟨vo, vs', rfl, hvo, hvs, hkp⟩; obtain ⟨va, vcp, rfl⟩ := own_shape hvo; have q5 := Below.at' (hQb.trans (hkp.below hQbs)) (Nat.le_refl _) hc1; have ho5 := hkp.own (by decide) hQo; have HB5 := hide (hQb.trans (hkp.below hQbs)); have h5s := HB5.out.size; have HQA5 := hide (fun q hq => hkp.own (by decide) (HQA.out q hq)); clear hkp)
            | (at_builtin; refine wpList_append_own _ rfl (.tmp 79) (.tmp 87) 42 rfl _ 49 iL (.agg #[.bool false, .slice none 0 0]) 2 32 Try.underlying42 hL hL0 hL1 hL2 rfl (by decide) _ _ _ rfl (ho5.alloc _) ⟨w5.heap.size, 0, none⟩ 1 1 [.bool yb, .slice va rl.length vcp] rfl rfl ?c1 ?c2 ?c3 ?c4 ?c5 ?_)
            | go_in)
          case c1 => exact new2 _ _ _ _ _ (by simp)
          case c2 => first | exact oneLit _ _ _ _ | exact ⟨rfl, rfl⟩
          case c3 => unfold maxLen; omega
          case c4 => omega
          case c5 => exact Nat.le_trans h5s (World.grownBy_alloc _ _ none).size
          intro v' w1 ho' hg' _
          have R := out_more (x := (yb, rl)) (fun q hq => (HQA5.out q hq).alloc _) (ho5.alloc _) (hvs.alloc _) ((own_mono hvo hQbs).alloc _) ho' hg'
          have HB1 := hide ((HB5.out.alloc h5s _).grown hg' (by simp; omega) fun k e => (own_lt ho5 k e).1)
          have HR1 := hide R
          clear ho' hg' ho5 hvs hvo R
          go_wp2
          go_roundw
          case rel => exact ⟨n + 1, Q ++ [((yb, rl), .slice va rl.length vcp)], by omega, by go_num, by rw [HST.out, List.map_append, HQ.out]; rfl, HR1.out.1, HR1.out.2.1, by rw [HST.out]; exact HR1.out.2.2, HB1.out⟩
          case measure => simp [intOf]; omega
        · have hPn : (P.map Prod.fst).take n = P.map Prod.fst := List.take_of_length_le (by simp; omega)
          rw [hPn] at hQ
          rw [← HO'.out] at hQ
          have F := hide (And.intro hQ (And.intro (own_mono hQo hbs) (And.intro (fun q hq => own_mono (hQA q hq) hbs) (HB.out.trans (hQb.mono hbs)))))
          clear hQ hQA hQo hQs hQb hPn
          go_wp2
          go_ret
          exact ⟨_, Q, rfl, F.out⟩

end Go.Proofs.Ytcpdadppblbndaa
