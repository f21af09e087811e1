/- The program: does a free variable stand in both literals? -/
import Derived.Test.YtjnddclkdofgdaaDoorCTight
import Derived.Deep.RegionWith
namespace Go.Proofs.YtjnddclkdofgdaaDoor
open Go.RowKit Go.Shelf
set_option maxRecDepth 100000

def memN (n : Nd) (l : List Nd) : Bool := l.any fun m => decide (n = m)
theorem memN_iff (n : Nd) (l : List Nd) : memN n l = true ↔ n ∈ l := by
  simp only [memN, List.any_eq_true, decide_eq_true_eq]
  constructor
  · rintro ⟨m, h, rfl⟩; exact h
  · intro h; exact ⟨n, h, rfl⟩
theorem memN_take (n : Nd) (l : List Nd) (k : Nat) (h : k < l.length) : memN n (l.take (k + 1)) = (memN n (l.take k) || decide (n = l[k])) := by
  rw [List.take_succ_eq_append_getElem h, memN, memN, List.any_append]; simp
theorem memN_of_take {n : Nd} {l : List Nd} {k : Nat} (h : memN n (l.take k) = true) : memN n l = true := by
  rw [memN_iff] at h ⊢
  exact List.mem_of_mem_take h

set_option maxHeartbeats 1000000 in
theorem indexN_any (a : Option Addr) (cp : Nat) (l : List Nd) (s : ByteArray) (x : Int) (w : World) (h : NodesIn w a l) :
    Calls Tryd.prog 138 #[.slice a l.length cp, .agg #[.string s, .int .i64 x]] w fun e w' => ∃ r : Int, e = .returned (.int .i64 r) ∧ decide (0 ≤ r) = memN (s, x) l ∧ Below w.heap.size w w' := by
  have hfew := h.few
  have hb0 : Below w.heap.size w (w.alloc (.cells #[.string s, .int .i64 x] 27)) := (Below.refl _ _).alloc (Nat.le_refl _) _
  have hbx := box2 w (.string s) (.int .i64 x) 27
  have h1 := h.below hb0 (Nat.le_refl _)
  have HB0 := hide hb0
  have HBX := hide hbx
  have H1 := hide h1
  clear h hb0 hbx h1
  go_enter Tryd.func138, Tryd.ntmps138
  go_wp2
  generalize hW : w.alloc (.cells #[.string s, .int .i64 x] 27) = W at *
  clear hW
  go_loopw [8] (fun i wr => ∃ k : Nat, k ≤ l.length ∧ i = .int .i64 k ∧ (∃ n, wr = W.drewN n) ∧ memN (s, x) (l.take k) = false) (fun i _ => l.length - (intOf i).toNat)
  case atStart => exact ⟨0, Nat.zero_le _, rfl, ⟨0, rfl⟩, rfl⟩
  case round =>
    obtain ⟨k, hk, rfl, ⟨n, rfl⟩, ht⟩ := hrel
    by_cases hlt : k < l.length
    · obtain ⟨b, o, rfl, e1, f1⟩ := H1.out.cell k hlt
      have hx0 := HBX.out.1
      have hx1 := HBX.out.2
      have hb := nodeB_eq (s, x) l[k]
      simp only at hb
      have g := guard27
      have q := eqNode s l[k].1 x l[k].2
      have hmt := memN_take (s, x) l k hlt
      rw [ht, Bool.false_or] at hmt
      have HT := hide ht
      clear ht
      by_cases he : (s, x) = l[k]
      · rw [decide_eq_true he] at hb hmt
        have HM := hide (memN_of_take hmt)
        clear he hmt
        go_wp2
        go_quiet (fail)
        go_wp2
        go_ret
        refine ⟨_, rfl, ?_, HB0.out.trans ((below_drawn (by first | exact draw2 _ _ _ | exact ⟨_, rfl⟩)).mono HB0.out.size)⟩
        rw [HM.out]
        simp
      · rw [decide_eq_false he] at hb hmt
        have HM := hide hmt
        clear he hmt
        go_wp2
        go_quiet (fail)
        go_wp2
        go_roundw
        case rel => exact ⟨k + 1, by omega, by go_num, (by first | exact draw2 _ _ _ | exact ⟨_, rfl⟩), HM.out⟩
        case measure => simp [intOf]; omega
    · have hk1 : l.take k = l := List.take_of_length_le (by omega)
      rw [hk1] at ht
      have HT := hide ht
      clear hk1 ht
      go_wp2
      go_ret
      exact ⟨_, rfl, by rw [HT.out]; rfl, HB0.out.trans ((below_drawn (by first | exact draw2 _ _ _ | exact ⟨_, rfl⟩)).mono HB0.out.size)⟩

theorem containsN_any (a : Option Addr) (cp : Nat) (l : List Nd) (s : ByteArray) (x : Int) (w : World) (h : NodesIn w a l) :
    Calls Tryd.prog 125 #[.slice a l.length cp, .agg #[.string s, .int .i64 x]] w fun e w' => e = .returned (.bool (memN (s, x) l)) ∧ Below w.heap.size w w' := by
  have hb0 : Below w.heap.size w (w.alloc (.cells #[.string s, .int .i64 x] 27)) := (Below.refl _ _).alloc (Nat.le_refl _) _
  have CI := hide (indexN_any a cp l s x _ (h.below hb0 (Nat.le_refl _)))
  have HB0 := hide hb0
  clear hb0 h
  go_enter Tryd.func125, Tryd.ntmps125
  go_wp2_with (go_at_call 138; refine (unhide CI).mono ?_; rintro e w1 ⟨r, rfl, hr, hb1⟩; have HR := hide hr; have HB1 := hide (HB0.out.trans (hb1.mono (by simp))); clear hr hb1)
  go_ret
  exact ⟨ret_bool (by first | exact HR.out | simpa using HR.out), HB1.out⟩

/-- Is a node a variable that is free, and stands in nodes? -/
def shareB (L : Bd') (yl : List Nd) (n : Nd) : Bool := varB n && (look L n.2).isNone && memN n yl

theorem run_eq_nil (w : World) (a : Option Addr) (l c : Nat) : (binOp .eql 28 (.slice a l c) (.slice none 0 0)).run Tryd.prog w = .ok (.bool a.isNone) w := by
  simp only [binOp]
  simp [run_equal_slice_nil w 28 27 a l c Tryd.underlying28]
theorem undraw {W X w1 : World} (hX : ∃ n, X = W.drewN n) (h : Below X.heap.size X w1) : Below W.heap.size W w1 := by
  obtain ⟨n, rfl⟩ := hX
  exact (below_drawn ⟨n, rfl⟩).trans h

set_option maxHeartbeats 1000000 in
theorem share1_any (B g mb bb : Nat) (dv : Value) (L : Bd') (ya : Option Addr) (yc : Nat) (yl : List Nd) (s : ByteArray) (x : Int) (w : World) (hM : MIn w B g dv L) (hY : NodesB w B ya yl) (hm : w.cell? ⟨mb, 0, none⟩ = some (.pointer (some ⟨g, 0, none⟩))) (hb : w.cell? ⟨bb, 1, none⟩ = some (.slice ya yl.length yc)) (hok : nodeOk (s, x) = true) :
    Calls Tryd.prog 124 #[.agg #[.string s, .int .i64 x], .pointer (some ⟨mb, 0, none⟩), .pointer (some ⟨bb, 0, none⟩)] w fun e w' => e = .returned (.bool (shareB L yl (s, x))) ∧ Below w.heap.size w w' := by
  have hb0 : Below w.heap.size w (w.alloc (.cells #[.string s, .int .i64 x] 27)) := (Below.refl _ _).alloc (Nat.le_refl _) _
  have hbx := box2 w (.string s) (.int .i64 x) 27
  have hm1 := Below.at' hb0 (Nat.le_refl _) hm
  have hb1 := Below.at' hb0 (Nat.le_refl _) hb
  have CV := hide (fun wx => isVariable_any s x wx)
  by_cases hv : s.toList.isEmpty = true
  · rw [hv] at CV
    have hx := nodeOk_var hok hv
    obtain ⟨hx0, hx1⟩ := hx
    simp only at hx0 hx1
    obtain ⟨m, rfl⟩ := Int.eq_ofNat_of_zero_le hx0
    obtain ⟨v, hvc, hT⟩ := (hM.below hb0).term m (by omega)
    have CC := hide (fun wx (hw : NodesIn wx ya yl) => containsN_any ya yc yl s (m : Int) wx hw)
    have HB0 := hide hb0
    have HY := hide (hY.fr (Fr.of_below hb0)).nodes
    obtain ⟨hbx0, hbx1⟩ := hbx
    cases hl : look L (m : Int) with
    | none =>
      rw [hl] at hT
      obtain rfl : v = .slice none 0 0 := hT
      have qn := fun wx => run_eq_nil wx none 0 0
      have HE := hide (show shareB L yl (s, (m : Int)) = memN (s, (m : Int)) yl by simp [shareB, varB, hv, hl])
      clear hM hY hm hb hb0 hok hv hl
      go_enter Tryd.func124, Tryd.ntmps124
      go_wp2_with fail
      generalize hW : w.alloc (.cells #[.string s, .int .i64 (m : Int)] 27) = W at *
      clear hW
      go_region_held3 (fun w' => w'.cell? ⟨w.heap.size, 0, none⟩ = some (.string s) ∧ w'.cell? ⟨w.heap.size, 1, none⟩ = some (.int .i64 (m : Int)) ∧ w'.cell? ⟨mb, 0, none⟩ = some (.pointer (some ⟨g, 0, none⟩)) ∧ w'.cell? ⟨bb, 1, none⟩ = some (.slice ya yl.length yc) ∧ w'.cell? ⟨g, 1 + m, none⟩ = some (.slice none 0 0)) (go_keep)
        (first
          | (go_at_call 47; refine (unhide CV _).mono ?_; rintro e w1 ⟨rfl, hd1⟩; replace hd1 := undraw (W := W) (by first | exact ⟨0, rfl⟩ | exact ⟨1, rfl⟩ | exact ⟨_, rfl⟩) hd1; have c0 := Below.at' hd1 (Nat.le_refl _) hbx0; have c1 := Below.at' hd1 (Nat.le_refl _) hbx1; have c2 := Below.at' hd1 (Nat.le_refl _) hm1; have c3 := Below.at' hd1 (Nat.le_refl _) hb1; have c4 := Below.at' hd1 (Nat.le_refl _) hvc; have HD1 := hide hd1; clear hd1)
          | (go_at_call 125; refine (unhide CC _ (HY.out.below HD1.out (Nat.le_refl _))).mono ?_; rintro e w2 ⟨rfl, hd2⟩; have k0 := Below.at' hd2 (Nat.le_refl _) c0; have k1 := Below.at' hd2 (Nat.le_refl _) c1; have k2 := Below.at' hd2 (Nat.le_refl _) c2; have k3 := Below.at' hd2 (Nat.le_refl _) c3; have k4 := Below.at' hd2 (Nat.le_refl _) c4; have HD2 := hide (HD1.out.trans (hd2.mono HD1.out.size)); clear hd2))
      go_wp2
      go_ret
      exact ⟨ret_bool HE.out.symm, HB0.out.trans (HD2.out.mono HB0.out.size)⟩
    | some t =>
      rw [hl] at hT
      obtain ⟨ta, tc, rfl, -⟩ := hT
      have qn := fun wx => run_eq_nil wx (some ta) t.length tc
      have HE := hide (show shareB L yl (s, (m : Int)) = false by simp [shareB, hl])
      clear hM hY hm hb hb0 hok hv hl CC
      go_enter Tryd.func124, Tryd.ntmps124
      go_wp2_with fail
      generalize hW : w.alloc (.cells #[.string s, .int .i64 (m : Int)] 27) = W at *
      clear hW
      first | go_region_with (go_at_call 47; refine (unhide CV _).mono ?_; rintro e w1 ⟨rfl, hd1⟩; replace hd1 := undraw (W := W) (by first | exact ⟨0, rfl⟩ | exact ⟨1, rfl⟩ | exact ⟨_, rfl⟩) hd1; have c0 := Below.at' hd1 (Nat.le_refl _) hbx0; have c1 := Below.at' hd1 (Nat.le_refl _) hbx1; have c2 := Below.at' hd1 (Nat.le_refl _) hm1; have c3 := Below.at' hd1 (Nat.le_refl _) hb1; have c4 := Below.at' hd1 (Nat.le_refl _) hvc; have HD1 := hide hd1; clear hd1) | fail
      all_goals
        go_wp2
        go_ret
        exact ⟨ret_bool HE.out.symm, HB0.out.trans (HD1.out.mono HB0.out.size)⟩
  · have hv' : s.toList.isEmpty = false := by simpa using hv
    rw [hv'] at CV
    have HE := hide (show shareB L yl (s, x) = false by simp [shareB, varB, hv'])
    have HB0 := hide hb0
    obtain ⟨hbx0, hbx1⟩ := hbx
    clear hM hY hm hb hb0 hok hv hv'
    go_enter Tryd.func124, Tryd.ntmps124
    go_wp2_with fail
    generalize hW : w.alloc (.cells #[.string s, .int .i64 x] 27) = W at *
    clear hW
    first | go_region_with (go_at_call 47; refine (unhide CV _).mono ?_; rintro e w1 ⟨rfl, hd1⟩; replace hd1 := undraw (W := W) (by first | exact ⟨0, rfl⟩ | exact ⟨1, rfl⟩ | exact ⟨_, rfl⟩) hd1; have c0 := Below.at' hd1 (Nat.le_refl _) hbx0; have c1 := Below.at' hd1 (Nat.le_refl _) hbx1; have c2 := Below.at' hd1 (Nat.le_refl _) hm1; have c3 := Below.at' hd1 (Nat.le_refl _) hb1; have HD1 := hide hd1; clear hd1) | fail
    all_goals
      go_wp2
      go_ret
      exact ⟨ret_bool HE.out.symm, HB0.out.trans (HD1.out.mono HB0.out.size)⟩

end Go.Proofs.YtjnddclkdofgdaaDoor
