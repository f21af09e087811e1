/- The program: literals, each once. -/
import Derived.Test.YtjnddclkdofgdaaDoorPTermM
namespace Go.Proofs.YtjnddclkdofgdaaDoor
open Go.RowKit Go.Shelf
set_option maxRecDepth 100000

theorem AtomAt.below {w w1 : World} {v : Value} {l : List Nd} (h : AtomAt w v l) {B : Nat} (k : Below B w w1) (hB : w.heap.size ≤ B) : AtomAt w1 v l := by
  obtain ⟨a, cap, h1, h2⟩ := h
  exact ⟨a, cap, h1, h2.below k hB⟩
theorem memB_take_zero (P : List (Lt × Value)) (y : Lt) : memB ((P.map Prod.fst).take 0) y = false := rfl
theorem memB_take (P : List (Lt × Value)) (y : Lt) (k : Nat) (h : k < P.length) : memB ((P.map Prod.fst).take (k + 1)) y = (memB ((P.map Prod.fst).take k) y || litB P[k].1 y) := by
  rw [List.take_succ_eq_append_getElem (by simpa using h), memB_snoc, litB_eq]
  simp
theorem memB_of_take (P : List (Lt × Value)) (y : Lt) (k : Nat) (h : memB ((P.map Prod.fst).take k) y = true) : memB (P.map Prod.fst) y = true := by
  rw [memB_iff] at h ⊢
  exact List.mem_of_mem_take h

set_option maxHeartbeats 1000000 in
theorem indexFunc_any (a a2 : Option Addr) (cap c2 g : Nat) (P : List (Lt × Value)) (yb : Bool) (yl : List Nd) (w : World) (hf : P.length ≤ 4398046511104)
    (hc : ∀ k (h : k < P.length), ∃ g', a = some ⟨g', 0, none⟩ ∧ w.cell? ⟨g', k * 2, none⟩ = some (.bool P[k].1.1) ∧ w.cell? ⟨g', k * 2 + 1, none⟩ = some P[k].2)
    (hA : ∀ p ∈ P, AtomAt w p.2 p.1.2) (h2 : NodesIn w a2 yl) (g0 : w.cell? ⟨g, 0, none⟩ = some (.bool yb)) (g1 : w.cell? ⟨g, 1, none⟩ = some (.slice a2 yl.length c2)) :
    Calls Tryd.prog 110 #[.slice a P.length cap, .func (Fn.func 90) #[] #[.pointer (some ⟨g, 0, none⟩)]] w fun e w' => ∃ r : Int, e = .returned (.int .i64 r) ∧ decide (0 ≤ r) = memB (P.map Prod.fst) (yb, yl) ∧ Below w.heap.size w w' := by
  have HC := hide hc
  have HA := hide hA
  have H2 := hide h2
  clear hc hA h2
  go_enter Tryd.func110, Tryd.ntmps110
  go_wp2
  go_loopw [8] (fun i wr => ∃ k : Nat, k ≤ P.length ∧ i = .int .i64 k ∧ memB ((P.map Prod.fst).take k) (yb, yl) = false ∧ Below w.heap.size w wr) (fun i _ => P.length - (intOf i).toNat)
  case atStart => exact ⟨0, Nat.zero_le _, rfl, rfl, Below.refl _ _⟩
  case round =>
    obtain ⟨k, hk, rfl, hm, hb⟩ := hrel
    have HM := hide hm
    clear hm
    by_cases hlt : k < P.length
    · obtain ⟨g', rfl, e1, f1⟩ := HC.out k hlt
      obtain ⟨pa, pcp, hpv, hpn⟩ := HA.out P[k] (List.getElem_mem _)
      rw [hpv] at f1
      have hmt := memB_take P (yb, yl) k hlt
      rw [HM.out, Bool.false_or] at hmt
      have hmx := memB_of_take P (yb, yl) (k + 1)
      rw [hmt] at hmx
      generalize P[k].1 = x at *
      obtain ⟨xb, xl⟩ := x
      simp only at e1 f1 hpn
      have e2 := Below.at' hb (Nat.le_refl _) e1
      have f2 := Below.at' hb (Nat.le_refl _) f1
      have CL := hide (closure_any xb yb pa a2 pcp c2 g xl yl wr (hpn.below hb (Nat.le_refl _)) (H2.out.below hb (Nat.le_refl _)) (Below.at' hb (Nat.le_refl _) g0) (Below.at' hb (Nat.le_refl _) g1))
      have HMT := hide hmt
      have HMX := hide hmx
      have HB := hide hb
      have hbs := hb.size
      clear hmt hmx hb hpv hpn e1 f1
      cases hl : litB (xb, xl) (yb, yl)
      · rw [hl] at CL HMT
        clear hl
        go_wp2_with (go_at_call 90; refine (unhide CL).mono ?_; rintro e w1 ⟨rfl, hb1⟩; have HB1 := hide (HB.out.trans (hb1.mono hbs)); clear hb1)
        go_roundw
        case rel => exact ⟨k + 1, by omega, by go_num, HMT.out, HB1.out⟩
        case measure => simp [intOf]; omega
      · rw [hl] at CL HMX
        clear hl
        go_wp2_with (go_at_call 90; refine (unhide CL).mono ?_; rintro e w1 ⟨rfl, hb1⟩; have HB1 := hide (HB.out.trans (hb1.mono hbs)); clear hb1)
        go_ret
        exact ⟨_, rfl, by rw [HMX.out (by first | rfl | trivial)]; simp, HB1.out⟩
    · have hk1 : (P.map Prod.fst).take k = P.map Prod.fst := List.take_of_length_le (by simp; omega)
      rw [hk1] at HM
      have HB := hide hb
      clear hk1 hb
      go_wp2
      go_ret
      exact ⟨_, rfl, by rw [HM.out]; rfl, HB.out⟩

theorem containsFunc_any (a a2 : Option Addr) (cap c2 g : Nat) (P : List (Lt × Value)) (yb : Bool) (yl : List Nd) (w : World) (hf : P.length ≤ 4398046511104)
    (hc : ∀ k (h : k < P.length), ∃ g', a = some ⟨g', 0, none⟩ ∧ w.cell? ⟨g', k * 2, none⟩ = some (.bool P[k].1.1) ∧ w.cell? ⟨g', k * 2 + 1, none⟩ = some P[k].2)
    (hA : ∀ p ∈ P, AtomAt w p.2 p.1.2) (h2 : NodesIn w a2 yl) (g0 : w.cell? ⟨g, 0, none⟩ = some (.bool yb)) (g1 : w.cell? ⟨g, 1, none⟩ = some (.slice a2 yl.length c2)) :
    Calls Tryd.prog 92 #[.slice a P.length cap, .func (Fn.func 90) #[] #[.pointer (some ⟨g, 0, none⟩)]] w fun e w' => e = .returned (.bool (memB (P.map Prod.fst) (yb, yl))) ∧ Below w.heap.size w w' := by
  have CI := hide (indexFunc_any a a2 cap c2 g P yb yl w hf hc hA h2 g0 g1)
  clear hc hA h2 g0 g1
  go_enter Tryd.func92, Tryd.ntmps92
  go_wp2_with (go_at_call 110; refine (unhide CI).mono ?_; rintro e w1 ⟨r, rfl, hr, hb⟩; have HR := hide hr; have HB := hide hb; clear hr hb)
  go_ret
  exact ⟨ret_bool HR.out, HB.out⟩

set_option maxHeartbeats 1000000 in
theorem distinct_any (a : Option Addr) (cp : Nat) (c : List Lt) (w : World) (h : LitsIn w a c) :
    Calls Tryd.prog 68 #[.slice a c.length cp] w fun e w' => ∃ v P, e = .returned v ∧ P.map Prod.fst = dedL c ∧ (∀ p ∈ P, AtomAt w p.2 p.1.2) ∧ w'.ownsRow w.heap.size 30 2 v P.length (litCells P) ∧ Below w.heap.size w w' := by
  obtain ⟨iL, hL, hL0, hL1, hL2⟩ := info_parts infoLit
  have hf := h.few
  go_enter Tryd.func68, Tryd.ntmps68
  go_wp2
  go_loopw [3, 9] (fun o i wr => ∃ (k : Nat) (P : List (Lt × Value)), k ≤ c.length ∧ i = .int .i64 k ∧ P.map Prod.fst = dedL (c.take k) ∧ (∀ p ∈ P, AtomAt w p.2 p.1.2) ∧ wr.ownsRow w.heap.size 30 2 o P.length (litCells P) ∧ Below w.heap.size w wr)
    (fun _ i _ => c.length - (intOf i).toNat)
  case atStart => exact ⟨0, [], Nat.zero_le _, rfl, rfl, fun p hp => by simp at hp, World.ownsRow_nil _ _ _ _, Below.refl _ _⟩
  case round =>
    obtain ⟨k, P, hk, rfl, hP, hA, ho, hb⟩ := hrel
    have hPl : P.length ≤ k := by
      have h1 := (dedL_bounds (c.take k)).1
      have h2 : P.length = (dedL (c.take k)).length := by rw [← hP]; simp
      have h3 : (c.take k).length ≤ k := List.length_take_le _ _
      omega
    by_cases hlt : k < c.length
    · obtain ⟨b, q, aa, acp, rfl, e1, f1, g1⟩ := h.cell k hlt
      have e2 := Below.at' hb (Nat.le_refl _) e1
      have f2 := Below.at' hb (Nat.le_refl _) f1
      have hst := dedL_take c k hlt
      rw [← hP] at hst
      generalize c[k] = x at *
      obtain ⟨xb, xl⟩ := x
      simp only at e2 f2 g1
      obtain ⟨oa, ocp, rfl, hoc⟩ := own_lits ho
      have hbs := hb.size
      have hbx : Below w.heap.size w (wr.alloc (.cells #[.bool xb, .slice aa xl.length acp] 30)) := hb.alloc hbs _
      have hbw : Below wr.heap.size wr (wr.alloc (.cells #[.bool xb, .slice aa xl.length acp] 30)) := (Below.refl _ _).alloc (Nat.le_refl _) _
      have CC := hide (containsFunc_any oa aa ocp acp wr.heap.size P xb xl (wr.alloc (.cells #[.bool xb, .slice aa xl.length acp] 30)) (by omega)
        (fun j hj => by obtain ⟨g', h1, h2, h3⟩ := hoc j hj; exact ⟨g', h1, Below.at' hbw (Nat.le_refl _) h2, Below.at' hbw (Nat.le_refl _) h3⟩)
        (fun p hp => (hA p hp).below hbx (Nat.le_refl _)) (g1.below hbx (Nat.le_refl _)) (by simp) (by simp))
      have HST := hide hst
      have HA := hide hA
      have HG := hide g1
      have HBX := hide hbx
      have HO := hide ho
      clear e1 f1 h hst hP hA hoc hb g1 hbx hbw
      cases hm : memB (P.map Prod.fst) (xb, xl)
      · have HST' : Hid (dedL (c.take (k + 1)) = P.map Prod.fst ++ [(xb, xl)]) := hide (by rw [HST.out]; simp [dedStep, hm])
        rw [hm] at CC
        clear hm HST
        go_wp2_with (first
          | (go_at_call 92; refine (unhide CC).mono ?_; rintro e w1 ⟨rfl, hb1⟩; obtain ⟨q1, q2, q3⟩ := box_at hb1; have ho1 := own_below (ho.alloc (.cells #[.bool xb, .slice aa xl.length acp] 30)) hb1 (Nat.le_refl _); have HB1 := hide (HBX.out.trans (hb1.mono HBX.out.size)); have h1s := HB1.out.size; clear hb1 q3)
          | (at_builtin; refine wpList_append_own _ rfl _ _ 22 rfl w.heap.size 30 iL (.agg #[.bool false, .slice none 0 0]) 2 32 Tryd.underlying22 hL hL0 hL1 hL2 rfl (by decide) _ _ _ rfl (ho1.alloc _) ⟨w1.heap.size, 0, none⟩ 1 1 [.bool xb, .slice aa xl.length acp] rfl rfl ?c1 ?c2 ?c3 ?c4 ?c5 ?_)
          | go_in)
        case c1 => exact new2 _ _ _ _ _ (by simp)
        case c2 => first | exact oneLit _ _ _ _ | exact ⟨rfl, rfl⟩
        case c3 => unfold maxLen; omega
        case c4 => omega
        case c5 => exact Nat.le_trans h1s (World.grownBy_alloc _ _ none).size
        intro v' w2 ho' hg' _
        have R := once_more (x := (xb, xl)) (ho1.alloc _) (HB1.out.alloc h1s _) ho' hg'
        clear ho' hg' ho1
        go_wp2
        go_roundw
        case rel => exact ⟨k + 1, P ++ [((xb, xl), .slice aa xl.length acp)], by omega, by go_num, by rw [HST'.out]; simp, atoms_more HA.out ⟨aa, acp, rfl, HG.out⟩, R.1, R.2⟩
        case measure => simp [intOf]; omega
      · have HST' : Hid (dedL (c.take (k + 1)) = P.map Prod.fst) := hide (by rw [HST.out]; simp [dedStep, hm])
        rw [hm] at CC
        clear hm HST
        go_wp2_with (first
          | (go_at_call 92; refine (unhide CC).mono ?_; rintro e w1 ⟨rfl, hb1⟩; have HO1 := hide (own_below (HO.out.alloc (.cells #[.bool xb, .slice aa xl.length acp] 30)) hb1 (Nat.le_refl _)); have HB1 := hide (HBX.out.trans (hb1.mono HBX.out.size)); clear hb1)
          | go_in)
        go_roundw
        case rel => exact ⟨k + 1, P, by omega, by go_num, HST'.out.symm, HA.out, HO1.out, HB1.out⟩
        case measure => simp [intOf]; omega
    · have hk1 : c.take k = c := List.take_of_length_le (by omega)
      rw [hk1] at hP
      have F := hide (And.intro hP (And.intro hA (And.intro ho hb)))
      clear hk1 hP hA ho hb
      go_wp2
      go_ret
      exact ⟨_, P, rfl, F.out⟩

end Go.Proofs.YtjnddclkdofgdaaDoor
