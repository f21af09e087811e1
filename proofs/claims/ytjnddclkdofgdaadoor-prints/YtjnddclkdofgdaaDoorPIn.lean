/- The program: is a clause in order, and of a size that may be. -/
import Derived.Test.YtjnddclkdofgdaaDoorPDist
import Derived.Test.YtjnddclkdofgdaaDoorNumEq
namespace Go.Proofs.YtjnddclkdofgdaaDoor
open Go.RowKit Go.Shelf
set_option maxRecDepth 100000

theorem numC_end (c : List Lt) (k : Nat) (h : k < c.length) (n : Nat) (hn : n < c[k].2.length) (x : Int) (hx : numL (c[k].2.take n) (numC (c.take k)) = some x) (hb : numStep (some x) c[k].2[n] = none) : numC c = none := by
  rw [numC_split c k, List.drop_eq_getElem_cons h, List.foldl_cons, numL_split c[k].2 _ n, hx, List.drop_eq_getElem_cons hn]
  have : numL (c[k].2[n] :: c[k].2.drop (n + 1)) (some x) = none := by
    show numL (c[k].2.drop (n + 1)) (numStep (some x) c[k].2[n]) = none
    rw [hb, numL_none]
  rw [this, numC_none_fold]

set_option maxHeartbeats 1000000 in
theorem isNumbered_any (a : Option Addr) (cp : Nat) (c : List Lt) (w : World) (h : LitsIn w a c) (h60 : countL c ≤ 60) :
    Calls Tryd.prog 69 #[.slice a c.length cp] w fun e w' => e = .returned (.bool (numC c).isSome) ∧ Below w.heap.size w w' := by
  have hf := h.few
  have HH := hide h
  clear h
  go_enter Tryd.func69, Tryd.ntmps69
  go_wp2
  go_loopw [3, 10] (fun nx i wr => ∃ (k : Nat) (x : Int), k ≤ c.length ∧ i = .int .i64 k ∧ nx = .int .i64 x ∧ 0 ≤ x ∧ x ≤ countL (c.take k) ∧ numC (c.take k) = some x ∧ Below w.heap.size w wr) (fun _ i _ => c.length - (intOf i).toNat)
  case atStart => exact ⟨0, 0, Nat.zero_le _, rfl, rfl, by omega, by simp, rfl, Below.refl _ _⟩
  case round =>
    obtain ⟨k, x, hk, rfl, rfl, hx0, hx1, hnc, hb⟩ := hrel
    have hct := countL_take_le c k
    by_cases hlt : k < c.length
    · obtain ⟨b, q, aa, acp, rfl, e1, f1, g1⟩ := HH.out.cell k hlt
      have e2 := Below.at' hb (Nat.le_refl _) e1
      have f2 := Below.at' hb (Nat.le_refl _) f1
      have hcs := countL_take_le c (k + 1)
      rw [List.take_succ_eq_append_getElem hlt, countL_snoc] at hcs
      have HS := hide (numC_take c k hlt)
      have HCS : Hid (countL (c.take (k + 1)) = countL (c.take k) + c[k].2.length) := by
        rw [List.take_succ_eq_append_getElem hlt, countL_snoc]; exact rfl
      have HE := hide (fun n hn y => numC_end c k hlt n hn y)
      rw [hnc] at HS HE
      have HG := hide g1
      have HB := hide hb
      have hbs := hb.size
      generalize c[k] = z at *
      obtain ⟨zb, zl⟩ := z
      simp only at e2 f2 HS HE HG HCS hcs
      have hzl := HG.out.few
      clear e1 f1 g1 hb hnc
      go_wp2
      go_loopw [3, 17] (fun nx j wi => ∃ (n : Nat) (y : Int), n ≤ zl.length ∧ j = .int .i64 n ∧ nx = .int .i64 y ∧ 0 ≤ y ∧ y ≤ countL (c.take k) + n ∧ numL (zl.take n) (some x) = some y ∧ Below w.heap.size w wi) (fun _ j _ => zl.length - (intOf j).toNat)
      case atStart => exact ⟨0, x, Nat.zero_le _, rfl, rfl, hx0, by omega, rfl, HB.out.alloc hbs _⟩
      case round =>
        obtain ⟨n, y, hn, rfl, rfl, hy0, hy1, hny, hb2⟩ := hrel
        by_cases hnl : n < zl.length
        · obtain ⟨b3, o3, rfl, e3, f3⟩ := HG.out.cell n hnl
          have q3 := Below.at' hb2 (Nat.le_refl _) e3
          have q4 := Below.at' hb2 (Nat.le_refl _) f3
          have HT := hide (numL_take zl (some x) n hnl)
          have HX := hide (HE.out n hnl y hny)
          rw [hny] at HT
          generalize zl[n] = nd at *
          obtain ⟨s, v⟩ := nd
          simp only at q3 q4
          have CV := hide (fun wx => isVariable_any s v wx)
          have HB2 := hide hb2
          have hb2s := hb2.size
          clear e3 f3 hny hb2
          cases hv : s.toList.isEmpty
          · have HN : Hid (numStep (some y) (s, v) = some y) := hide (by simp [numStep, varB, hv])
            rw [hv] at CV
            rw [HN.out] at HT
            clear hv HX HN
            go_wp2_with (go_at_call 47; refine (unhide CV _).mono ?_; rintro e w1 ⟨rfl, hb1⟩; obtain ⟨r1, r2, r3⟩ := box_at hb1; have HB3 := hide (HB2.out.trans (r3.mono hb2s)); clear hb1 r3)
            go_roundw
            case rel => exact ⟨n + 1, y, by omega, by go_num, rfl, hy0, by omega, HT.out, HB3.out⟩
            case measure => simp [intOf]; omega
          · rw [hv] at CV
            by_cases h1 : y < v
            · have HN := hide (HX.out (by simp [numStep, varB, hv, h1]))
              clear hv HX HT
              go_wp2_with (go_at_call 47; refine (unhide CV _).mono ?_; rintro e w1 ⟨rfl, hb1⟩; obtain ⟨r1, r2, r3⟩ := box_at hb1; have HB3 := hide (HB2.out.trans (r3.mono hb2s)); clear hb1 r3)
              go_ret
              exact ⟨ret_bool (by rw [HN.out]; rfl), HB3.out⟩
            · by_cases h2 : v = y
              · have HN : Hid (numStep (some y) (s, v) = some (y + 1)) := hide (by simp [numStep, varB, hv, h2])
                rw [HN.out] at HT
                have h2' : (v == y) = true := by simp [h2]
                clear hv HX HN h2
                go_wp2_with (go_at_call 47; refine (unhide CV _).mono ?_; rintro e w1 ⟨rfl, hb1⟩; obtain ⟨r1, r2, r3⟩ := box_at hb1; have HB3 := hide (HB2.out.trans (r3.mono hb2s)); clear hb1 r3)
                go_roundw
                case rel => exact ⟨n + 1, y + 1, by omega, by go_num, by go_num, by omega, by omega, HT.out, HB3.out⟩
                case measure => simp [intOf]; omega
              · have HN : Hid (numStep (some y) (s, v) = some y) := hide (by simp only [numStep, varB, hv, if_true, if_neg h1, if_neg h2])
                rw [HN.out] at HT
                have h2' : (v == y) = false := by simp [h2]
                clear hv HX HN h2
                go_wp2_with (go_at_call 47; refine (unhide CV _).mono ?_; rintro e w1 ⟨rfl, hb1⟩; obtain ⟨r1, r2, r3⟩ := box_at hb1; have HB3 := hide (HB2.out.trans (r3.mono hb2s)); clear hb1 r3)
                go_roundw
                case rel => exact ⟨n + 1, y, by omega, by go_num, rfl, hy0, by omega, HT.out, HB3.out⟩
                case measure => simp [intOf]; omega
        · have hn1 : zl.take n = zl := List.take_of_length_le (by omega)
          rw [hn1] at hny
          have HN := hide (HS.out.trans hny)
          have HB2 := hide hb2
          have hnn : n = zl.length := by omega
          have hyy : y ≤ countL (c.take k) + zl.length := by omega
          clear hny hb2 hn1 HE HS
          go_wp2
          go_roundw
          case rel => exact ⟨k + 1, y, by omega, by go_num, rfl, hy0, by rw [HCS.out]; omega, HN.out, HB2.out⟩
          case measure => simp [intOf]; omega
    · have hk1 : c.take k = c := List.take_of_length_le (by omega)
      rw [hk1] at hnc
      have HN := hide hnc
      have HB := hide hb
      clear hk1 hnc hb
      go_wp2
      go_ret
      exact ⟨ret_bool (by rw [HN.out]; rfl), HB.out⟩

end Go.Proofs.YtjnddclkdofgdaaDoor
