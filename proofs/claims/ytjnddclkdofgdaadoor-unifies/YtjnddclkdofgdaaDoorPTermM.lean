/- The program: names, nodes, terms, atoms, sizes. The program: nodes, terms, atoms, sizes. The program: atoms, sizes, literals that are the same. -/
import Derived.Test.YtjnddclkdofgdaaDoorNameEq
import Derived.Test.YtjnddclkdofgdaaDoorShelf
import Derived.Test.YtjnddclkdofgdaaDoorRefs1M
namespace Go.Proofs.YtjnddclkdofgdaaDoor
open Go.RowKit Go.Shelf
set_option maxRecDepth 100000

/-- The library's two tables lie where the program has them. -/
def Tabs (w : World) : Prop := Lib.Utf8Tabs (ren.g 3) (ren.g 4) w
theorem Tabs.below {w w1 : World} (h : Tabs w) {B : Nat} (k : Below B w w1) (hB : w.heap.size ≤ B) : Tabs w1 :=
  ⟨fun c hc => Below.at' k hB (h.1 c hc), fun i hi => ⟨Below.at' k hB (h.2 i hi).1, Below.at' k hB (h.2 i hi).2⟩⟩

theorem isVariable_any (s : ByteArray) (x : Int) (w : World) :
    Calls Tryd.prog 47 #[.agg #[.string s, .int .i64 x]] w fun e w' => e = .returned (.bool s.toList.isEmpty) ∧ Below w.heap.size w w' := by
  go_enter Tryd.func47, Tryd.ntmps47
  go_wp2
  go_ret
  exact ⟨rfl, (Below.refl _ _).alloc (Nat.le_refl _) _⟩

set_option maxHeartbeats 400000 in
theorem lIsName_any (s : ByteArray) (w : World) (hs : s.size ≤ 140737488355328) (hT : Tabs w) :
    Calls Tryd.prog 99 #[.string s] w fun e w' => e = .returned (.bool (isNameL s)) ∧ Below w.heap.size w w' := by
  by_cases h80 : s.size ≤ 80
  · have cV : Calls Tryd.prog 118 #[.string s] w _ := Any.utf8_ValidString lays196 s w (by omega) hT
    have cC := fun wx => (Any.strings_Contains_one lays144 s 10 wx : Calls Tryd.prog 119 #[.string s, .string ⟨#[10]⟩] wx _)
    have cR := fun wx => (Any.utf8_RuneCountInString lays195 s wx (by omega) : Calls Tryd.prog 120 #[.string s] wx _)
    have heq := isNameL_eq s
    have hrc := Lib.runeCount_le s
    generalize Lib.validD s.data.toList = v at *
    generalize decide (0 ≤ Lib.indexByte s.data.toList 10) = n at *
    generalize Lib.runeCount s = r at *
    have HE := hide heq
    have HV := hide cV
    have HC := hide cC
    have HR := hide cR
    clear heq cV cC cR hT
    cases v
    · go_enter Tryd.func99, Tryd.ntmps99
      go_wp2_with (go_at_call 118; refine (unhide HV).mono ?_; rintro e w' ⟨rfl, hb⟩; have HB := hide hb; clear hb)
      go_ret
      exact ⟨ret_bool (by rw [HE.out]; rfl), HB.out⟩
    · cases n
      · go_enter Tryd.func99, Tryd.ntmps99
        go_wp2_with (first
          | (go_at_call 118; refine (unhide HV).mono ?_; rintro e w' ⟨rfl, hb⟩; have HB := hide hb; clear hb)
          | (go_at_call 119; refine (unhide HC _).mono ?_; rintro e w2 ⟨rfl, rfl⟩)
          | (go_at_call 120; refine (unhide HR _).mono ?_; rintro e w3 ⟨rfl, pos, rfl⟩))
        all_goals
          go_ret
          refine ⟨ret_bool ?_, HB.out.alloc HB.out.size _⟩
          rw [HE.out, Bool.eq_iff_iff]
          simp
          omega
      · go_enter Tryd.func99, Tryd.ntmps99
        go_wp2_with (first
          | (go_at_call 118; refine (unhide HV).mono ?_; rintro e w' ⟨rfl, hb⟩; have HB := hide hb; clear hb)
          | (go_at_call 119; refine (unhide HC _).mono ?_; rintro e w2 ⟨rfl, rfl⟩))
        go_ret
        exact ⟨ret_bool (by rw [HE.out]; rfl), HB.out⟩
  · have HE : Hid (isNameL s = false) := by
      cases h : isNameL s
      · exact rfl
      · have := (isNameL_size s h).2; omega
    clear hT
    go_enter Tryd.func99, Tryd.ntmps99
    go_wp2
    go_ret
    exact ⟨ret_bool HE.out.symm, Below.refl _ _⟩

end Go.Proofs.YtjnddclkdofgdaaDoor

namespace Go.Proofs.YtjnddclkdofgdaaDoor
open Go.RowKit Go.Shelf
set_option maxRecDepth 100000

/-- A node's box stays. -/
theorem box_at {w w1 : World} {s x : Value} {t : TypeId} (hb : Below (w.alloc (.cells #[s, x] t)).heap.size (w.alloc (.cells #[s, x] t)) w1) :
    w1.cell? ⟨w.heap.size, 0, none⟩ = some s ∧ w1.cell? ⟨w.heap.size, 1, none⟩ = some x ∧ Below w.heap.size w w1 :=
  ⟨Below.at' hb (Nat.le_refl _) (by simp), Below.at' hb (Nat.le_refl _) (by simp), ((Below.refl _ _).alloc (Nat.le_refl _) _).trans (hb.mono (by simp))⟩

theorem parts_any (s : ByteArray) (x : Int) (w : World) :
    Calls Tryd.prog 79 #[.agg #[.string s, .int .i64 x]] w fun e w' => e = .returned (.int .i64 (if s.toList.isEmpty then 0 else x)) ∧ Below w.heap.size w w' := by
  have CV := hide (fun wx => isVariable_any s x wx)
  cases hv : s.toList.isEmpty
  all_goals
    rw [hv] at CV
    clear hv
    go_enter Tryd.func79, Tryd.ntmps79
    go_wp2_with (go_at_call 47; refine (unhide CV _).mono ?_; rintro e w1 ⟨rfl, hb1⟩; obtain ⟨q1, q2, q3⟩ := box_at hb1; have HB1 := hide q3; clear hb1 q3)
    go_ret
    exact ⟨rfl, HB1.out⟩

set_option maxHeartbeats 400000 in
theorem isNode_any (s : ByteArray) (x : Int) (w : World) (hs : s.size ≤ 140737488355328) (hT : Tabs w) :
    Calls Tryd.prog 78 #[.agg #[.string s, .int .i64 x]] w fun e w' => e = .returned (.bool (nodeOk (s, x))) ∧ Below w.heap.size w w' := by
  have CV := hide (fun wx => isVariable_any s x wx)
  have hb0 : Below w.heap.size w (w.alloc (.cells #[.string s, .int .i64 x] 27)) := (Below.refl _ _).alloc (Nat.le_refl _) _
  have HB0 := hide hb0
  have HT := hide hT
  clear hb0 hT
  cases hv : s.toList.isEmpty
  · have HE : Hid (nodeOk (s, x) = (isNameL s && (decide (0 ≤ x) && decide (x ≤ 5)))) := hide (by simp [nodeOk, varB, hv])
    rw [hv] at CV
    by_cases h0 : 0 ≤ x
    · by_cases h5 : x ≤ 5
      · have CN := hide (fun wx (hx : Tabs wx) => lIsName_any s wx hs hx)
        clear hv
        go_enter Tryd.func78, Tryd.ntmps78
        go_wp2_with (first
          | (go_at_call 47; refine (unhide CV _).mono ?_; rintro e w1 ⟨rfl, hb1⟩; obtain ⟨q1, q2, q3⟩ := box_at hb1; have HB1 := hide q3; clear hb1 q3)
          | (go_at_call 99; refine (unhide CN _ (HT.out.below HB1.out (Nat.le_refl _))).mono ?_; rintro e w2 ⟨rfl, hb2⟩; have HB2 := hide (HB1.out.trans (hb2.mono HB1.out.size)); clear hb2))
        go_ret
        refine ⟨ret_bool ?_, HB2.out⟩
        rw [HE.out]
        simp [h0, h5]
      · clear hv
        go_enter Tryd.func78, Tryd.ntmps78
        go_wp2_with (first
          | (go_at_call 47; refine (unhide CV _).mono ?_; rintro e w1 ⟨rfl, hb1⟩; obtain ⟨q1, q2, q3⟩ := box_at hb1; have HB1 := hide q3; clear hb1 q3))
        go_ret
        refine ⟨ret_bool ?_, HB1.out⟩
        rw [HE.out]
        simp [h5]
    · have HD := hide (show decide (0 ≤ x) = false by simpa using h0)
      clear hv
      go_enter Tryd.func78, Tryd.ntmps78
      go_wp2_with (first
        | (go_at_call 47; refine (unhide CV _).mono ?_; rintro e w1 ⟨rfl, hb1⟩; obtain ⟨q1, q2, q3⟩ := box_at hb1; have HB1 := hide q3; clear hb1 q3))
      go_ret
      refine ⟨ret_bool ?_, HB1.out⟩
      rw [HE.out, HD.out]
      simp
  · have HE : Hid (nodeOk (s, x) = (decide (0 ≤ x) && decide (x < 60))) := hide (by simp [nodeOk, varB, hv])
    rw [hv] at CV
    clear hv
    by_cases h0 : 0 ≤ x
    all_goals
      go_enter Tryd.func78, Tryd.ntmps78
      go_wp2_with (first
        | (go_at_call 47; refine (unhide CV _).mono ?_; rintro e w1 ⟨rfl, hb1⟩; obtain ⟨q1, q2, q3⟩ := box_at hb1; have HB1 := hide q3; clear hb1 q3))
      go_ret
      refine ⟨ret_bool ?_, HB1.out⟩
      rw [HE.out, Bool.eq_iff_iff]
      simp
      try omega

/-- A term, by the program's own way. -/
theorem isTermL_long (l : List Nd) (h : ¬ l.length ≤ 60) : isTermL l = false := by simp [isTermL, h]
theorem isTermL_short (l : List Nd) (h : l.length ≤ 60) : isTermL l = termGo l 1 := by simp [isTermL, h]

set_option maxHeartbeats 1000000 in
theorem lIsTerm_any (a : Option Addr) (cp : Nat) (l : List Nd) (w : World) (h : NodesIn w a l) (hT : Tabs w) :
    Calls Tryd.prog 55 #[.slice a l.length cp] w fun e w' => e = .returned (.bool (isTermL l)) ∧ Below w.heap.size w w' := by
  have hfew := h.few
  by_cases h60 : l.length ≤ 60
  · have HE := hide (isTermL_short l h60)
    have HT := hide hT
    clear hT
    go_enter Tryd.func55, Tryd.ntmps55
    go_wp2
    go_loopw [3, 11] (fun q i wr => ∃ k m : Nat, k ≤ l.length ∧ m ≤ 1 + 5 * k ∧ i = .int .i64 k ∧ q = .int .i64 m ∧ Below w.heap.size w wr ∧ termGo l 1 = termGo (l.drop k) m) (fun _ i _ => l.length - (intOf i).toNat)
    case atStart => exact ⟨0, 1, by omega, by omega, rfl, rfl, Below.refl _ _, rfl⟩
    case round =>
      obtain ⟨k, m, hk, hm, rfl, rfl, hbel, hg⟩ := hrel
      by_cases hlt : k < l.length
      · obtain ⟨b, o, rfl, e1, f1⟩ := h.cell k hlt
        have e2 := Below.at' hbel (Nat.le_refl _) e1
        have f2 := Below.at' hbel (Nat.le_refl _) f1
        have hsh := h.short k hlt
        have hbs := hbel.size
        clear e1 f1 h
        by_cases hm0 : m = 0
        · subst hm0
          rw [termGo_zero l k hlt] at hg
          have HR : Hid (isTermL l = false) := HE.out.trans hg
          have HB := hide hbel
          clear hg hbel
          go_wp2
          go_ret
          exact ⟨ret_bool HR.out.symm, HB.out.alloc HB.out.size _⟩
        · have hb1 : ((m : Int) == 0) = false := by rw [beq_eq_false_iff_ne]; omega
          have hon := termGo_on l k m hlt hm0
          have hbad := termGo_bad l k m hlt
          generalize l[k] = nd at *
          obtain ⟨s, x⟩ := nd
          simp only at e2 f2 hsh
          have CN := hide (fun wx (hx : Tabs wx) => isNode_any s x wx hsh hx)
          have CV := hide (fun wx => parts_any s x wx)
          have HB := hide hbel
          have hTA := hide (HT.out.below (hbel.alloc hbs (.cells #[.string s, .int .i64 x] 27)) (Nat.le_refl _))
          by_cases hok : nodeOk (s, x) = true
          · have HG := hide (hg.trans (hon hok))
            simp only [hok] at CN
            clear hg hon hbad hbel
            by_cases hv : s.toList.isEmpty = true
            · have HW : Hid (wants (s, x) = 0) := by unfold wants varB; rw [if_pos hv]; exact rfl
              rw [if_pos hv] at CV
              clear hok hv
              go_wp2_with (first
                | (go_at_call 78; refine (unhide CN _ hTA.out).mono ?_; rintro e w1 ⟨rfl, hb1⟩; obtain ⟨q1, q2, q3⟩ := box_at hb1; have HB1 := hide (HB.out.trans (q3.mono hbs)); have h1s := HB1.out.size; have hq1 := q3.size; clear hb1 q3)
                | (go_at_call 79; refine (unhide CV _).mono ?_; rintro e w2 ⟨rfl, hb2⟩; have q5 := Below.at' hb2 (Nat.le_refl _) q1; have q6 := Below.at' hb2 (Nat.le_refl _) q2; have HB2 := hide (HB1.out.trans (hb2.mono h1s)); clear hb2))
              go_roundw
              case rel => exact ⟨k + 1, m - 1, by omega, by omega, by go_num, by go_num, HB2.out, by rw [HG.out, HW.out]; rfl⟩
              case measure => simp [intOf]; omega
            · have HW : Hid (wants (s, x) = x.toNat) := by unfold wants varB; rw [if_neg hv]; exact rfl
              have hv' : s.toList.isEmpty = false := by simpa using hv
              have hx : isNameL s = true ∧ 0 ≤ x ∧ x ≤ 5 := by simpa [nodeOk, varB, hv] using hok
              obtain ⟨_, hx1, hx2⟩ := hx
              rw [if_neg hv] at CV
              clear hok hv hv'
              go_wp2_with (first
                | (go_at_call 78; refine (unhide CN _ hTA.out).mono ?_; rintro e w1 ⟨rfl, hb1⟩; obtain ⟨q1, q2, q3⟩ := box_at hb1; have HB1 := hide (HB.out.trans (q3.mono hbs)); have h1s := HB1.out.size; have hq1 := q3.size; clear hb1 q3)
                | (go_at_call 79; refine (unhide CV _).mono ?_; rintro e w2 ⟨rfl, hb2⟩; have q5 := Below.at' hb2 (Nat.le_refl _) q1; have q6 := Below.at' hb2 (Nat.le_refl _) q2; have HB2 := hide (HB1.out.trans (hb2.mono h1s)); clear hb2))
              go_roundw
              case rel => exact ⟨k + 1, m - 1 + x.toNat, by omega, by omega, by go_num, by go_num, HB2.out, by rw [HG.out, HW.out]⟩
              case measure => simp [intOf]; omega
          · have hok' : nodeOk (s, x) = false := by simpa using hok
            rw [hbad hok'] at hg
            have HR : Hid (isTermL l = false) := HE.out.trans hg
            simp only [hok'] at CN
            clear hg hon hbad hbel hok hok'
            go_wp2_with (first
              | (go_at_call 78; refine (unhide CN _ hTA.out).mono ?_; rintro e w1 ⟨rfl, hb1⟩; obtain ⟨q1, q2, q3⟩ := box_at hb1; have HB1 := hide (HB.out.trans (q3.mono hbs)); clear hb1 q3))
            go_ret
            exact ⟨ret_bool HR.out.symm, HB1.out⟩
      · have hd : l.drop k = [] := List.drop_eq_nil_of_le (by omega)
        rw [hd] at hg
        have HR : Hid (isTermL l = decide (m = 0)) := HE.out.trans hg
        have HB := hide hbel
        clear hg hd hbel
        go_wp2
        go_ret
        refine ⟨ret_bool ?_, HB.out⟩
        rw [HR.out, Bool.eq_iff_iff]
        simp
  · have HE := hide (isTermL_long l h60)
    clear h hT
    go_enter Tryd.func55, Tryd.ntmps55
    go_wp2
    go_ret
    exact ⟨ret_bool HE.out.symm, Below.refl _ _⟩

end Go.Proofs.YtjnddclkdofgdaaDoor

namespace Go.Proofs.YtjnddclkdofgdaaDoor
open Go.RowKit Go.Shelf
set_option maxRecDepth 100000

set_option maxHeartbeats 400000 in
theorem isAtom_any (a : Option Addr) (cp : Nat) (l : List Nd) (w : World) (h : NodesIn w a l) (hT : Tabs w) :
    Calls Tryd.prog 45 #[.slice a l.length cp] w fun e w' => e = .returned (.bool (atomB l)) ∧ Below w.heap.size w w' := by
  have cT := lIsTerm_any a cp l w h hT
  by_cases ht : isTermL l = true
  · cases l with
    | nil => rw [isTermL_nil] at ht; exact absurd ht (by simp)
    | cons n0 r =>
      rw [ht] at cT
      obtain ⟨b0, o0, rfl, e0, f0⟩ := h.cell 0 (by simp)
      simp only [List.getElem_cons_zero, Nat.zero_mul, Nat.add_zero] at e0 f0
      obtain ⟨s0, x0⟩ := n0
      simp only at e0 f0
      have HE := hide (show atomB ((s0, x0) :: r) = !s0.toList.isEmpty by simp [atomB, ht, varB])
      have CT := hide cT
      have CV := hide (fun wx => isVariable_any s0 x0 wx)
      have hfl := h.few
      simp only [List.length_cons] at hfl
      clear cT ht h hT
      go_enter Tryd.func45, Tryd.ntmps45
      go_wp2_with (first
        | (go_at_call 55; refine (unhide CT).mono ?_; rintro e w1 ⟨rfl, hb1⟩; have q1 := Below.at' hb1 (Nat.le_refl _) e0; have q2 := Below.at' hb1 (Nat.le_refl _) f0; have HB1 := hide hb1; have h1s := hb1.size; clear hb1)
        | (go_at_call 47; refine (unhide CV _).mono ?_; rintro e w2 ⟨rfl, hb2⟩; have HB2 := hide (HB1.out.trans (hb2.mono h1s)); clear hb2))
      go_ret
      exact ⟨ret_bool HE.out.symm, HB2.out⟩
  · have ht' : isTermL l = false := by simpa using ht
    rw [ht'] at cT
    have HE := hide (show atomB l = false by simp [atomB, ht'])
    have CT := hide cT
    clear cT ht ht' h hT
    go_enter Tryd.func45, Tryd.ntmps45
    go_wp2_with (go_at_call 55; refine (unhide CT).mono ?_; rintro e w1 ⟨rfl, hb1⟩; have HB1 := hide hb1; clear hb1)
    go_ret
    exact ⟨ret_bool HE.out.symm, HB1.out⟩

set_option maxHeartbeats 400000 in
theorem nodes_any (a : Option Addr) (cp : Nat) (c : List Lt) (w : World) (h : LitsIn w a c) (h8 : c.length ≤ 8) :
    Calls Tryd.prog 67 #[.slice a c.length cp] w fun e w' => e = .returned (.int .i64 (countL c)) ∧ Below w.heap.size w w' := by
  have hc : countL c ≤ 8 * 5864062014805 := Nat.le_trans (countL_le c fun k hk => by obtain ⟨_, _, _, _, _, _, _, g⟩ := h.cell k hk; exact g.few) (Nat.mul_le_mul_right _ h8)
  go_enter Tryd.func67, Tryd.ntmps67
  go_wp2
  go_loopw [3, 8] (fun s i wr => ∃ k : Nat, k ≤ c.length ∧ i = .int .i64 k ∧ s = .int .i64 (countL (c.take k)) ∧ Below w.heap.size w wr) (fun _ i _ => c.length - (intOf i).toNat)
  case atStart => exact ⟨0, Nat.zero_le _, rfl, rfl, Below.refl _ _⟩
  case round =>
    obtain ⟨k, hk, rfl, rfl, hb⟩ := hrel
    have hct := countL_take_le c k
    by_cases hlt : k < c.length
    · obtain ⟨p1, o1, aa1, cp1, rfl, e1, f1, g1⟩ := h.cell k hlt
      have hg := g1.few
      have HS : Hid (countL (c.take (k + 1)) = countL (c.take k) + c[k].2.length) := by
        rw [List.take_succ_eq_append_getElem hlt, countL_snoc]
        exact rfl
      have e2 := Below.at' hb (Nat.le_refl _) e1
      have f2 := Below.at' hb (Nat.le_refl _) f1
      have HB := hide hb
      clear h g1 e1 f1 hb
      go_wp2
      go_roundw
      case rel => exact ⟨k + 1, by omega, by go_num, by rw [HS.out]; go_num, HB.out.alloc HB.out.size _⟩
      case measure => simp [intOf]; omega
    · have HB := hide hb
      clear hb
      go_wp2
      go_ret
      have hk1 : c.take k = c := List.take_of_length_le (by omega)
      rw [hk1]
      exact ⟨rfl, HB.out⟩

set_option maxHeartbeats 400000 in
theorem lFits_any (a : Option Addr) (cp : Nat) (c : List Lt) (w : World) (h : LitsIn w a c) :
    Calls Tryd.prog 44 #[.slice a c.length cp] w fun e w' => e = .returned (.bool (fitsL c)) ∧ Below w.heap.size w w' := by
  have b := h.few
  by_cases h8 : c.length ≤ 8
  · have CC := hide (nodes_any a cp c w h h8)
    have HF := hide (show fitsL c = decide ((countL c : Int) ≤ 60) by simp [fitsL, h8]; omega)
    clear h
    go_enter Tryd.func44, Tryd.ntmps44
    go_wp2_with (go_at_call 67; refine (unhide CC).mono ?_; rintro e w' ⟨rfl, hb⟩; have HB := hide hb; clear hb)
    go_ret
    exact ⟨ret_bool HF.out.symm, HB.out⟩
  · have hf : fitsL c = false := by simp [fitsL, h8]
    rw [hf]
    clear hf h
    go_enter Tryd.func44, Tryd.ntmps44
    go_wp2
    go_ret
    exact ⟨rfl, Below.refl _ _⟩

set_option maxHeartbeats 400000 in
theorem equal_any (a1 a2 : Option Addr) (c1 c2 : Nat) (l1 l2 : List (ByteArray × Int)) (w : World) (h1 : NodesIn w a1 l1) (h2 : NodesIn w a2 l2) :
    Calls Tryd.prog 109 #[.slice a1 l1.length c1, .slice a2 l2.length c2] w fun e w' => e = .returned (.bool (decide (l1 = l2))) ∧ ∃ n, w' = w.drewN n := by
  have b1 := h1.few
  have b2 := h2.few
  by_cases hl : l1.length = l2.length
  · have hn : ((l1.length : Int) != (l2.length : Int)) = false := by rw [hl]; simp
    have HL : Hid (l1.length = l2.length) := hl
    clear hl
    go_enter Tryd.func109, Tryd.ntmps109
    go_wp2
    go_loopw [13] (fun i wr => ∃ k : Nat, k ≤ l1.length ∧ i = .int .i64 k ∧ (∃ n, wr = w.drewN n) ∧ l1.take k = l2.take k) (fun i _ => l1.length - (intOf i).toNat)
    case atStart => exact ⟨0, Nat.zero_le _, rfl, ⟨0, rfl⟩, rfl⟩
    case round =>
      obtain ⟨k, hk, rfl, ⟨n, rfl⟩, ht⟩ := hrel
      by_cases hlt : k < l1.length
      · obtain ⟨p1, o1, rfl, e1, f1⟩ := h1.cell k hlt
        have hlt2 : (k : Int) < (l2.length : Int) := by have := HL.out; omega
        have hlt3 : k < l2.length := by omega
        obtain ⟨p2, o2, rfl, e2, f2⟩ := h2.cell k hlt3
        have hb := nodeB_eq l1[k] l2[k]
        have g := guard27
        have q := eqNode l1[k].1 l2[k].1 l1[k].2 l2[k].2
        clear h1 h2
        by_cases he : l1[k] = l2[k]
        · rw [decide_eq_true he] at hb
          have HE : Hid (l1[k] = l2[k]) := he
          clear he
          go_wp2
          go_quiet (fail)
          go_wp2
          go_roundw
          case rel => exact ⟨k + 1, by omega, by go_num, (by first | exact draw2 _ _ _ | exact ⟨_, rfl⟩), by rw [List.take_succ_eq_append_getElem hlt, List.take_succ_eq_append_getElem hlt3, ht, HE.out]⟩
          case measure => simp [intOf]; omega
        · rw [decide_eq_false he] at hb
          have HE : Hid (¬ l1[k] = l2[k]) := he
          clear he
          go_wp2
          go_quiet (fail)
          go_wp2
          go_ret
          refine ⟨?_, (by first | exact draw2 _ _ _ | exact ⟨_, rfl⟩)⟩
          have : ¬ l1 = l2 := fun h => HE.out (by subst h; rfl)
          simp [this]
      · go_wp2
        go_ret
        refine ⟨?_, ⟨_, rfl⟩⟩
        have hk1 : l1.take k = l1 := List.take_of_length_le (by omega)
        have hk2 : l2.take k = l2 := List.take_of_length_le (by have := HL.out; omega)
        rw [hk1, hk2] at ht
        simp [ht]
  · have hn : ((l1.length : Int) != (l2.length : Int)) = true := by rw [bne_iff_ne]; omega
    have hne : ¬ l1 = l2 := fun h => hl (by rw [h])
    have HN : Hid (¬ l1 = l2) := hne
    clear hne hl
    go_enter Tryd.func109, Tryd.ntmps109
    go_wp2
    go_ret
    exact ⟨by simp [HN.out], 0, rfl⟩

set_option maxHeartbeats 400000 in
theorem same_any (xb yb : Bool) (a1 a2 : Option Addr) (c1 c2 : Nat) (xl yl : List Nd) (w : World) (h1 : NodesIn w a1 xl) (h2 : NodesIn w a2 yl) :
    Calls Tryd.prog 91 #[.agg #[.bool xb, .slice a1 xl.length c1], .agg #[.bool yb, .slice a2 yl.length c2]] w fun e w' => e = .returned (.bool (litB (xb, xl) (yb, yl))) ∧ Below w.heap.size w w' := by
  have hb0 : Below w.heap.size w ((w.alloc (.cells #[.bool xb, .slice a1 xl.length c1] 30)).alloc (.cells #[.bool yb, .slice a2 yl.length c2] 30)) := ((Below.refl _ _).alloc (Nat.le_refl _) _).alloc (by simp) _
  have CE := hide (equal_any a1 a2 c1 c2 xl yl _ (h1.below hb0 (Nat.le_refl _)) (h2.below hb0 (Nat.le_refl _)))
  have HB0 := hide hb0
  clear hb0 h1 h2
  by_cases hb : xb = yb
  · subst hb
    have HE := hide (show litB (xb, xl) (xb, yl) = decide (xl = yl) by simp [litB])
    go_enter Tryd.func91, Tryd.ntmps91
    go_wp2_with (go_at_call 109; refine (unhide CE).mono ?_; rintro e w1 ⟨rfl, hd⟩; have HB1 := hide (HB0.out.trans ((below_drawn hd).mono (by simp; omega))); clear hd)
    go_ret
    exact ⟨ret_bool HE.out.symm, HB1.out⟩
  · have HE := hide (show litB (xb, xl) (yb, yl) = false by simp [litB, hb])
    have hbe : (xb == yb) = false := by simp [hb]
    clear hb
    go_enter Tryd.func91, Tryd.ntmps91
    go_wp2
    go_ret
    exact ⟨ret_bool HE.out.symm, HB0.out⟩

/-- What the function value that distinct hands over answers. -/
theorem closure_any (xb yb : Bool) (a1 a2 : Option Addr) (c1 c2 g : Nat) (xl yl : List Nd) (w : World) (h1 : NodesIn w a1 xl) (h2 : NodesIn w a2 yl) (g0 : w.cell? ⟨g, 0, none⟩ = some (.bool yb)) (g1 : w.cell? ⟨g, 1, none⟩ = some (.slice a2 yl.length c2)) :
    Calls Tryd.prog 90 #[.agg #[.bool xb, .slice a1 xl.length c1], .pointer (some ⟨g, 0, none⟩)] w fun e w' => e = .returned (.bool (litB (xb, xl) (yb, yl))) ∧ Below w.heap.size w w' := by
  have hb0 : Below w.heap.size w (w.alloc (.cells #[.bool xb, .slice a1 xl.length c1] 30)) := (Below.refl _ _).alloc (Nat.le_refl _) _
  have CS := hide (same_any xb yb a1 a2 c1 c2 xl yl _ (h1.below hb0 (Nat.le_refl _)) (h2.below hb0 (Nat.le_refl _)))
  have q0 := Below.at' hb0 (Nat.le_refl _) g0
  have q1 := Below.at' hb0 (Nat.le_refl _) g1
  have HB0 := hide hb0
  clear hb0 h1 h2
  go_enter Tryd.func90, Tryd.ntmps90
  go_wp2_with (go_at_call 91; refine (unhide CS).mono ?_; rintro e w1 ⟨rfl, hb⟩; have HB1 := hide (HB0.out.trans (hb.mono (by simp))); clear hb)
  go_ret
  exact ⟨rfl, HB1.out⟩

end Go.Proofs.YtjnddclkdofgdaaDoor
