/- The program: literals, each once. The program: the number of a variable. Rows that are made whole, and filled. -/
import Derived.Test.YtcpdadppblbndaaPUse0M
import Derived.Test.YtcpdadppblbndaaGTokM
import Derived.Maps.OwnSet
import Derived.Maps.Keyed
import Derived.OwnWalk
namespace Go.Proofs.Ytcpdadppblbndaa
open Go.RowKit Go.Shelf
set_option maxRecDepth 100000

theorem AtomAt.below {w w1 : World} {v : Value} {l : List Nd} (h : AtomAt w v l) {B : Nat} (k : Below B w w1) (hB : w.heap.size ≤ B) : AtomAt w1 v l := by
  obtain ⟨a, cap, h1, h2⟩ := h
  exact ⟨a, cap, h1, h2.below k hB⟩
theorem memB_take_zero (P : List (Lt × Value)) (y : Lt) : memB ((P.map Prod.fst).take 0) y = false := rfl
theorem memB_take (P : List (Lt × Value)) (y : Lt) (k : Nat) (h : k < P.length) : memB ((P.map Prod.fst).take (k + 1)) y = (memB ((P.map Prod.fst).take k) y || litB P[k].1 y) := by
  rw [List.take_succ_eq_append_getElem (by simpa using h), memB_snoc, litB_eq]
  simp
theorem memB_of_take (P : List (Lt × Value)) (y : Lt) (k : Nat) (h : memB ((P.map Prod.fst).take k) y = true) : memB (P.map Prod.fst) y = true := by
  rw [memB_iff] at h ⊢
  exact List.mem_of_mem_take h

set_option maxHeartbeats 1000000 in
theorem indexFunc_any (a a2 : Option Addr) (cap c2 g : Nat) (P : List (Lt × Value)) (yb : Bool) (yl : List Nd) (w : World) (hf : P.length ≤ 4398046511104)
    (hc : ∀ k (h : k < P.length), ∃ g', a = some ⟨g', 0, none⟩ ∧ w.cell? ⟨g', k * 2, none⟩ = some (.bool P[k].1.1) ∧ w.cell? ⟨g', k * 2 + 1, none⟩ = some P[k].2)
    (hA : ∀ p ∈ P, AtomAt w p.2 p.1.2) (h2 : NodesIn w a2 yl) (g0 : w.cell? ⟨g, 0, none⟩ = some (.bool yb)) (g1 : w.cell? ⟨g, 1, none⟩ = some (.slice a2 yl.length c2)) :
    Calls Try.prog 76 #[.slice a P.length cap, .func (Fn.func 69) #[] #[.pointer (some ⟨g, 0, none⟩)]] w fun e w' => ∃ r : Int, e = .returned (.int .i64 r) ∧ decide (0 ≤ r) = memB (P.map Prod.fst) (yb, yl) ∧ Below w.heap.size w w' := by
  have HC := hide hc
  have HA := hide hA
  have H2 := hide h2
  clear hc hA h2
  go_enter Try.func76, Try.ntmps76
  go_wp2
  go_loopw [8] (fun i wr => ∃ k : Nat, k ≤ P.length ∧ i = .int .i64 k ∧ memB ((P.map Prod.fst).take k) (yb, yl) = false ∧ Below w.heap.size w wr) (fun i _ => P.length - (intOf i).toNat)
  case atStart => exact ⟨0, Nat.zero_le _, rfl, rfl, Below.refl _ _⟩
  case round =>
    obtain ⟨k, hk, rfl, hm, hb⟩ := hrel
    have HM := hide hm
    clear hm
    by_cases hlt : k < P.length
    · obtain ⟨g', rfl, e1, f1⟩ := HC.out k hlt
      obtain ⟨pa, pcp, hpv, hpn⟩ := HA.out P[k] (List.getElem_mem _)
      rw [hpv] at f1
      have hmt := memB_take P (yb, yl) k hlt
      rw [HM.out, Bool.false_or] at hmt
      have hmx := memB_of_take P (yb, yl) (k + 1)
      rw [hmt] at hmx
      generalize P[k].1 = x at *
      obtain ⟨xb, xl⟩ := x
      simp only at e1 f1 hpn
      have e2 := Below.at' hb (Nat.le_refl _) e1
      have f2 := Below.at' hb (Nat.le_refl _) f1
      have CL := hide (closure_any xb yb pa a2 pcp c2 g xl yl wr (hpn.below hb (Nat.le_refl _)) (H2.out.below hb (Nat.le_refl _)) (Below.at' hb (Nat.le_refl _) g0) (Below.at' hb (Nat.le_refl _) g1))
      have HMT := hide hmt
      have HMX := hide hmx
      have HB := hide hb
      have hbs := hb.size
      clear hmt hmx hb hpv hpn e1 f1
      cases hl : litB (xb, xl) (yb, yl)
      · rw [hl] at CL HMT
        clear hl
        go_wp2_with (go_at_call 69; refine (unhide CL).mono ?_; rintro e w1 ⟨rfl, hb1⟩; have HB1 := hide (HB.out.trans (hb1.mono hbs)); clear hb1)
        go_roundw
        case rel => exact ⟨k + 1, by omega, by go_num, HMT.out, HB1.out⟩
        case measure => simp [intOf]; omega
      · rw [hl] at CL HMX
        clear hl
        go_wp2_with (go_at_call 69; refine (unhide CL).mono ?_; rintro e w1 ⟨rfl, hb1⟩; have HB1 := hide (HB.out.trans (hb1.mono hbs)); clear hb1)
        go_ret
        exact ⟨_, rfl, by rw [HMX.out (by first | rfl | trivial)]; simp, HB1.out⟩
    · have hk1 : (P.map Prod.fst).take k = P.map Prod.fst := List.take_of_length_le (by simp; omega)
      rw [hk1] at HM
      have HB := hide hb
      clear hk1 hb
      go_wp2
      go_ret
      exact ⟨_, rfl, by rw [HM.out]; rfl, HB.out⟩

theorem containsFunc_any (a a2 : Option Addr) (cap c2 g : Nat) (P : List (Lt × Value)) (yb : Bool) (yl : List Nd) (w : World) (hf : P.length ≤ 4398046511104)
    (hc : ∀ k (h : k < P.length), ∃ g', a = some ⟨g', 0, none⟩ ∧ w.cell? ⟨g', k * 2, none⟩ = some (.bool P[k].1.1) ∧ w.cell? ⟨g', k * 2 + 1, none⟩ = some P[k].2)
    (hA : ∀ p ∈ P, AtomAt w p.2 p.1.2) (h2 : NodesIn w a2 yl) (g0 : w.cell? ⟨g, 0, none⟩ = some (.bool yb)) (g1 : w.cell? ⟨g, 1, none⟩ = some (.slice a2 yl.length c2)) :
    Calls Try.prog 71 #[.slice a P.length cap, .func (Fn.func 69) #[] #[.pointer (some ⟨g, 0, none⟩)]] w fun e w' => e = .returned (.bool (memB (P.map Prod.fst) (yb, yl))) ∧ Below w.heap.size w w' := by
  have CI := hide (indexFunc_any a a2 cap c2 g P yb yl w hf hc hA h2 g0 g1)
  clear hc hA h2 g0 g1
  go_enter Try.func71, Try.ntmps71
  go_wp2_with (go_at_call 76; refine (unhide CI).mono ?_; rintro e w1 ⟨r, rfl, hr, hb⟩; have HR := hide hr; have HB := hide hb; clear hr hb)
  go_ret
  exact ⟨ret_bool HR.out, HB.out⟩

set_option maxHeartbeats 1000000 in
theorem distinct_any (a : Option Addr) (cp : Nat) (c : List Lt) (w : World) (h : LitsIn w a c) :
    Calls Try.prog 58 #[.slice a c.length cp] w fun e w' => ∃ v P, e = .returned v ∧ P.map Prod.fst = dedL c ∧ (∀ p ∈ P, AtomAt w p.2 p.1.2) ∧ w'.ownsRow w.heap.size 49 2 v P.length (litCells P) ∧ Below w.heap.size w w' := by
  obtain ⟨iL, hL, hL0, hL1, hL2⟩ := info_parts infoLit
  have hf := h.few
  go_enter Try.func58, Try.ntmps58
  go_wp2
  go_loopw [3, 9] (fun o i wr => ∃ (k : Nat) (P : List (Lt × Value)), k ≤ c.length ∧ i = .int .i64 k ∧ P.map Prod.fst = dedL (c.take k) ∧ (∀ p ∈ P, AtomAt w p.2 p.1.2) ∧ wr.ownsRow w.heap.size 49 2 o P.length (litCells P) ∧ Below w.heap.size w wr)
    (fun _ i _ => c.length - (intOf i).toNat)
  case atStart => exact ⟨0, [], Nat.zero_le _, rfl, rfl, fun p hp => by simp at hp, World.ownsRow_nil _ _ _ _, Below.refl _ _⟩
  case round =>
    obtain ⟨k, P, hk, rfl, hP, hA, ho, hb⟩ := hrel
    have hPl : P.length ≤ k := by
      have h1 := (dedL_bounds (c.take k)).1
      have h2 : P.length = (dedL (c.take k)).length := by rw [← hP]; simp
      have h3 : (c.take k).length ≤ k := List.length_take_le _ _
      omega
    by_cases hlt : k < c.length
    · obtain ⟨b, q, aa, acp, rfl, e1, f1, g1⟩ := h.cell k hlt
      have e2 := Below.at' hb (Nat.le_refl _) e1
      have f2 := Below.at' hb (Nat.le_refl _) f1
      have hst := dedL_take c k hlt
      rw [← hP] at hst
      generalize c[k] = x at *
      obtain ⟨xb, xl⟩ := x
      simp only at e2 f2 g1
      obtain ⟨oa, ocp, rfl, hoc⟩ := own_lits ho
      have hbs := hb.size
      have hbx : Below w.heap.size w (wr.alloc (.cells #[.bool xb, .slice aa xl.length acp] 49)) := hb.alloc hbs _
      have hbw : Below wr.heap.size wr (wr.alloc (.cells #[.bool xb, .slice aa xl.length acp] 49)) := (Below.refl _ _).alloc (Nat.le_refl _) _
      have CC := hide (containsFunc_any oa aa ocp acp wr.heap.size P xb xl (wr.alloc (.cells #[.bool xb, .slice aa xl.length acp] 49)) (by omega)
        (fun j hj => by obtain ⟨g', h1, h2, h3⟩ := hoc j hj; exact ⟨g', h1, Below.at' hbw (Nat.le_refl _) h2, Below.at' hbw (Nat.le_refl _) h3⟩)
        (fun p hp => (hA p hp).below hbx (Nat.le_refl _)) (g1.below hbx (Nat.le_refl _)) (by simp) (by simp))
      have HST := hide hst
      have HA := hide hA
      have HG := hide g1
      have HBX := hide hbx
      have HO := hide ho
      clear e1 f1 h hst hP hA hoc hb g1 hbx hbw
      cases hm : memB (P.map Prod.fst) (xb, xl)
      · have HST' : Hid (dedL (c.take (k + 1)) = P.map Prod.fst ++ [(xb, xl)]) := hide (by rw [HST.out]; simp [dedStep, hm])
        rw [hm] at CC
        clear hm HST
        go_wp2_with (first
          | (go_at_call 71; refine (unhide CC).mono ?_; rintro e w1 ⟨rfl, hb1⟩; obtain ⟨q1, q2, q3⟩ := box_at hb1; have ho1 := own_below (ho.alloc (.cells #[.bool xb, .slice aa xl.length acp] 49)) hb1 (Nat.le_refl _); have HB1 := hide (HBX.out.trans (hb1.mono HBX.out.size)); have h1s := HB1.out.size; clear hb1 q3)
          | (at_builtin; refine wpList_append_own _ rfl _ _ 42 rfl w.heap.size 49 iL (.agg #[.bool false, .slice none 0 0]) 2 32 Try.underlying42 hL hL0 hL1 hL2 rfl (by decide) _ _ _ rfl (ho1.alloc _) ⟨w1.heap.size, 0, none⟩ 1 1 [.bool xb, .slice aa xl.length acp] rfl rfl ?c1 ?c2 ?c3 ?c4 ?c5 ?_)
          | go_in)
        case c1 => exact new2 _ _ _ _ _ (by simp)
        case c2 => first | exact oneLit _ _ _ _ | exact ⟨rfl, rfl⟩
        case c3 => unfold maxLen; omega
        case c4 => omega
        case c5 => exact Nat.le_trans h1s (World.grownBy_alloc _ _ none).size
        intro v' w2 ho' hg' _
        have R := once_more (x := (xb, xl)) (ho1.alloc _) (HB1.out.alloc h1s _) ho' hg'
        clear ho' hg' ho1
        go_wp2
        go_roundw
        case rel => exact ⟨k + 1, P ++ [((xb, xl), .slice aa xl.length acp)], by omega, by go_num, by rw [HST'.out]; simp, atoms_more HA.out ⟨aa, acp, rfl, HG.out⟩, R.1, R.2⟩
        case measure => simp [intOf]; omega
      · have HST' : Hid (dedL (c.take (k + 1)) = P.map Prod.fst) := hide (by rw [HST.out]; simp [dedStep, hm])
        rw [hm] at CC
        clear hm HST
        go_wp2_with (first
          | (go_at_call 71; refine (unhide CC).mono ?_; rintro e w1 ⟨rfl, hb1⟩; have HO1 := hide (own_below (HO.out.alloc (.cells #[.bool xb, .slice aa xl.length acp] 49)) hb1 (Nat.le_refl _)); have HB1 := hide (HBX.out.trans (hb1.mono HBX.out.size)); clear hb1)
          | go_in)
        go_roundw
        case rel => exact ⟨k + 1, P, by omega, by go_num, HST'.out.symm, HA.out, HO1.out, HB1.out⟩
        case measure => simp [intOf]; omega
    · have hk1 : c.take k = c := List.take_of_length_le (by omega)
      rw [hk1] at hP
      have F := hide (And.intro hP (And.intro hA (And.intro ho hb)))
      clear hk1 hP hA ho hb
      go_wp2
      go_ret
      exact ⟨_, P, rfl, F.out⟩

end Go.Proofs.Ytcpdadppblbndaa

namespace Go.Proofs.Ytcpdadppblbndaa
open Go.RowKit Go.Shelf Go.WideMaps
set_option maxRecDepth 100000

/-- How a number in the map reads. -/
def numElem (v : Value) : Option (DataW Unit × List MemPlace) :=
  match v with
  | .int .i64 x => some (.lit (.int .i64 x), [])
  | _ => none
/-- What the map holds: each variable that stood there, and its number. -/
structure NumIs (D : DataW Unit) (sn : List Int) : Prop where
  tidy : Maps.Tidy D
  size : Maps.size D = sn.length
  old : ∀ x, 0 ≤ posT sn x → Maps.has D (.int .i64 x) = true ∧ ∀ z, D.atKey (.int .i64 x) z = .lit (.int .i64 (posT sn x))
  new : ∀ x, posT sn x < 0 → Maps.has D (.int .i64 x) = false
theorem NumIs.start : NumIs (.map []) [] := ⟨⟨[], rfl, by simp⟩, rfl, fun x h => by rw [posT_nil] at h; omega, fun x _ => rfl⟩
theorem NumIs.put {D : DataW Unit} {sn : List Int} {x : Int} (h : NumIs D sn) (hx : posT sn x < 0) : NumIs (D.put (.int .i64 x) (.lit (.int .i64 sn.length))) (sn ++ [x]) := by
  have hkey : WideAt.IsKeyLit (.int .i64 x) := trivial
  refine ⟨h.tidy.put hkey _, ?_, fun y hy => ?_, fun y hy => ?_⟩
  · rw [Maps.size_put h.tidy, h.new x hx, h.size]; simp
  · rw [posT_snoc] at hy ⊢
    by_cases he : x = y
    · subst he
      rw [if_pos rfl]
      exact ⟨Maps.has_put_same h.tidy.isMap hkey _, fun z => Maps.atKey_put_same h.tidy.isMap hkey _ _⟩
    · rw [if_neg he] at hy ⊢
      have hne : (Lit.int .i64 y) ≠ .int .i64 x := fun e => he (by simpa using e.symm)
      have ho := h.old y hy
      exact ⟨by rw [Maps.has_put_other hne]; exact ho.1, fun z => by rw [Maps.atKey_put_other hne]; exact ho.2 z⟩
  · rw [posT_snoc] at hy
    by_cases he : x = y
    · rw [if_pos he] at hy; omega
    · rw [if_neg he] at hy
      have hne : (Lit.int .i64 y) ≠ .int .i64 x := fun e => he (by simpa using e.symm)
      rw [Maps.has_put_other hne]
      exact h.new y hy
theorem wf_i64 {x : Int} (h0 : -1000000000 ≤ x) (h1 : x ≤ 1000000000) : (Lit.int .i64 x).wf = true := by
  simp [Lit.wf, IntKind.min, IntKind.max, IntKind.bits, IntKind.signed]
  omega
theorem plain_inv {v : Value} {x : Int} {ps : List MemPlace} (h : numElem v = some (.lit (.int .i64 x), ps)) : v = .int .i64 x := by
  unfold numElem at h
  split at h
  · simp at h; rw [h.1]
  · simp at h

/-- The variables that stood there, and the number of one more. -/
def numStep (sn : List Int) (x : Int) : List Int × Int := if posT sn x < 0 then (sn ++ [x], (sn.length : Int)) else (sn, posT sn x)

set_option maxHeartbeats 1000000 in
theorem numberOfI_any (g : Nat) (D : DataW Unit) (sn : List Int) (x : Int) (w : World) (hown : w.ownsMap Try.prog 3 numElem g sn.length D) (hN : NumIs D sn) (h0 : 0 ≤ x) (h1 : x ≤ 1000000000) (hf : sn.length ≤ 1000000) :
    Calls Try.prog 68 #[.map (some g), .int .i64 x] w fun e w' => ∃ D' : DataW Unit, e = .returned (.int .i64 (numStep sn x).2) ∧ w'.ownsMap Try.prog 3 numElem g (numStep sn x).1.length D' ∧ NumIs D' (numStep sn x).1 ∧ w.grownBy w' (some g) := by
  have hkey : keyOf Try.prog 3 (.int .i64 x) = some (.int .i64 x) := Maps.keyOf_int_mk Try.underlying3 (wf_i64 (by omega) (by omega))
  obtain ⟨v, ps, hrun, hv⟩ := hown.look_ok (Maps.int_keyed Try.underlying3) Try.underlying117 (Try.zeroValue3 _) (zd := .lit (.int .i64 0)) (zp := []) rfl hkey
  by_cases hp : posT sn x < 0
  · have HST : Hid (numStep sn x = (sn ++ [x], (sn.length : Int))) := hide (by unfold numStep; rw [if_pos hp])
    have hhas := hN.new x hp
    rw [hhas] at hrun
    rw [atKey_none hN.tidy.isMap hhas] at hv
    have hvv := plain_inv hv
    subst hvv
    have HN := hide (hN.put hp)
    have HKEY := hide hkey
    have HSZ := hide hN.size
    have hlen := hN.size
    clear hv hhas hN hkey hp
    go_enter Try.func68, Try.ntmps68
    go_wp2_with (first
      | (at_len; refine wpList_len_own _ rfl _ 117 rfl 3 3 Try.underlying117 _ g sn.length D rfl hown ?_)
      | (at_mapUpdate; refine wpList_mapUpdate_own _ rfl _ _ _ 117 rfl 3 3 (Maps.int_keyed Try.underlying3) Try.underlying117 numElem g sn.length D rfl hown (by unfold maxLen; omega) _ _ (.int .i64 x) rfl rfl (unhide HKEY) (.lit (.int .i64 sn.length)) [] ?_ ?_)
      | go_in)
    case refine_1 => rfl
    intro w1 hown1 hg1
    have HO := hide hown1
    have HG := hide hg1
    clear hown1 hg1
    go_wp2
    go_ret
    rw [HST.out]
    exact ⟨_, rfl, by rw [List.length_append]; exact HO.out, HN.out, HG.out⟩
  · have HST : Hid (numStep sn x = (sn, posT sn x)) := hide (by unfold numStep; rw [if_neg hp])
    have ho := hN.old x (by omega)
    rw [ho.1] at hrun
    rw [ho.2] at hv
    have hvv := plain_inv hv
    subst hvv
    have HN := hide hN
    have HOW := hide hown
    clear hv ho hN hkey hp hown
    go_enter Try.func68, Try.ntmps68
    go_wp2
    go_ret
    rw [HST.out]
    exact ⟨D, rfl, HOW.out, HN.out, ⟨rfl, rfl, rfl, Nat.le_refl _, fun _ _ _ => rfl⟩⟩

end Go.Proofs.Ytcpdadppblbndaa

namespace Go.Proofs.Ytcpdadppblbndaa
open Go.RowKit Go.Shelf Go.WideMaps
set_option maxRecDepth 100000

abbrev zNd : Nd := (⟨#[]⟩, 0)
abbrev zLt : Lt × Value := ((false, []), .slice none 0 0)
theorem nodeCells_consO (x : Nd) (r : List Nd) : nodeCells (x :: r) = .string x.1 :: .int .i64 x.2 :: nodeCells r := rfl
theorem litCells_cons (x : Lt × Value) (r : List (Lt × Value)) : litCells (x :: r) = .bool x.1.1 :: x.2 :: litCells r := rfl
theorem nodeCells_set (l : List Nd) : ∀ (k : Nat) (x : Nd), k < l.length → ((nodeCells l).set (k * 2) (.string x.1)).set (k * 2 + 1) (.int .i64 x.2) = nodeCells (l.set k x) := by
  induction l with
  | nil => intro k x h; simp at h
  | cons y r ih =>
    intro k x h
    cases k with
    | zero => rfl
    | succ k =>
      have := ih k x (by simpa using h)
      rw [show (k + 1) * 2 = k * 2 + 1 + 1 by omega, List.set_cons_succ, nodeCells_consO, nodeCells_consO, List.set_cons_succ, List.set_cons_succ, List.set_cons_succ, List.set_cons_succ, this]
theorem litCells_set (l : List (Lt × Value)) : ∀ (k : Nat) (x : Lt × Value), k < l.length → ((litCells l).set (k * 2) (.bool x.1.1)).set (k * 2 + 1) x.2 = litCells (l.set k x) := by
  induction l with
  | nil => intro k x h; simp at h
  | cons y r ih =>
    intro k x h
    cases k with
    | zero => rfl
    | succ k =>
      have := ih k x (by simpa using h)
      rw [show (k + 1) * 2 = k * 2 + 1 + 1 by omega, List.set_cons_succ, litCells_cons, litCells_cons, List.set_cons_succ, List.set_cons_succ, List.set_cons_succ, List.set_cons_succ, this]
theorem set_fill {α : Type} (a : List α) (z x : α) (m : Nat) (h : a.length < m) : (a ++ List.replicate (m - a.length) z).set a.length x = (a ++ [x]) ++ List.replicate (m - (a.length + 1)) z := by
  rw [show m - a.length = (m - (a.length + 1)) + 1 by omega, List.replicate_succ, List.set_append_right _ _ (Nat.le_refl _)]
  simp
theorem nodeCells_get_rep (n : Nat) : ∀ j, (nodeCells (List.replicate n zNd))[j]? = if j < n * 2 then some (if j % 2 = 0 then .string ⟨#[]⟩ else .int .i64 0) else none := by
  induction n with
  | zero => intro j; simp [nodeCells]
  | succ n ih =>
    intro j
    rw [List.replicate_succ, nodeCells_consO]
    match j with
    | 0 => simp
    | 1 => simp; omega
    | j + 2 =>
      simp only [List.getElem?_cons_succ]
      rw [ih j]
      have e : (j + 2) % 2 = j % 2 := by omega
      rw [e]
      by_cases h : j < n * 2
      · rw [if_pos h, if_pos (show j + 2 < (n + 1) * 2 by omega)]
      · rw [if_neg h, if_neg (show ¬ j + 2 < (n + 1) * 2 by omega)]
theorem litCells_get_rep (n : Nat) : ∀ j, (litCells (List.replicate n zLt))[j]? = if j < n * 2 then some (if j % 2 = 0 then .bool false else .slice none 0 0) else none := by
  induction n with
  | zero => intro j; simp [litCells]
  | succ n ih =>
    intro j
    rw [List.replicate_succ, litCells_cons]
    match j with
    | 0 => simp
    | 1 => simp; omega
    | j + 2 =>
      simp only [List.getElem?_cons_succ]
      rw [ih j]
      have e : (j + 2) % 2 = j % 2 := by omega
      rw [e]
      by_cases h : j < n * 2
      · rw [if_pos h, if_pos (show j + 2 < (n + 1) * 2 by omega)]
      · rw [if_neg h, if_neg (show ¬ j + 2 < (n + 1) * 2 by omega)]
theorem made_nodes (n : Nat) : (madeCells #[.string ⟨#[]⟩, .int .i64 0] (n * 2)).toList = nodeCells (List.replicate n zNd) := by
  apply List.ext_getElem?
  intro j
  rw [nodeCells_get_rep]
  by_cases hj : j < n * 2
  · rw [if_pos hj]
    rcases Nat.mod_two_eq_zero_or_one j with h | h <;> simp [madeCells, hj, h]
  · rw [if_neg hj]
    simp [madeCells]
    omega
theorem made_lits (n : Nat) : (madeCells #[.bool false, .slice none 0 0] (n * 2)).toList = litCells (List.replicate n zLt) := by
  apply List.ext_getElem?
  intro j
  rw [litCells_get_rep]
  by_cases hj : j < n * 2
  · rw [if_pos hj]
    rcases Nat.mod_two_eq_zero_or_one j with h | h <;> simp [madeCells, hj, h]
  · rw [if_neg hj]
    simp [madeCells]
    omega
/-- A row and a map are different blocks. -/
theorem row_map {w : World} {B : Nat} {e : TypeId} {size : Nat} {v : Value} {n k m : Nat} {xs : List Value} {D : DataW Unit} (h : w.ownsRow B e size v n xs) (hm : w.ownsMap Try.prog 3 numElem k m D) : v.ownBlock ≠ some k := by
  obtain ⟨es, clock, hh, _⟩ := hm
  obtain ⟨_, ⟨rfl, _⟩ | ⟨g, cap, cur, rfl, _, hg, _⟩⟩ := h
  · simp [Value.ownBlock]
  · simp [Value.ownBlock]
    rintro rfl
    rw [hh] at hg
    simp at hg
theorem own_setC {w : World} {B : Nat} {e : TypeId} {size : Nat} {v : Value} {n : Nat} {xs : List Value} (h : w.ownsRow B e size v n xs) {p : Addr} (hp : some p.block ≠ v.ownBlock) (u : Value) : (w.setCell p u).ownsRow B e size v n xs := by
  obtain ⟨h1, ⟨rfl, h2⟩ | ⟨g, cap, cur, rfl, hb, hh, hr⟩⟩ := h
  · exact ⟨h1, Or.inl ⟨rfl, h2⟩⟩
  · refine ⟨h1, Or.inr ⟨g, cap, cur, rfl, hb, ?_, hr⟩⟩
    rw [heap_setCell_other _ _ _ _ (fun e => hp (by simp [Value.ownBlock, e])), hh]

end Go.Proofs.Ytcpdadppblbndaa
