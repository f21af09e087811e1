/- The document's own answer: Print. -/
import Derived.Test.YtjnddclkdofgdaaDoorPSpec
import Derived.Deep.RegionHeld3
import Derived.Deep.AppendLies
import Derived.Deep.DrawnRows
namespace Go.Proofs.YtjnddclkdofgdaaDoor
open Go.RowKit
set_option maxRecDepth 100000
attribute [local go_sem ↓] Go.wp_at_zero Go.wp_at_succ

theorem infoPlace : (Tryd.prog.info? 75).map (fun i => (i.zero, i.size, i.bytes)) = some (some (.agg #[.string ⟨#[]⟩, .bool false, .int .i64 0, .int .i64 0]), 4, 40) := by kernel_rfl
theorem int_zero (n : Nat) : ((n : Int) == 0) = decide (n = 0) := by
  rw [Bool.eq_iff_iff]; simp
theorem pl_pos {P : List Pl} {x : Pl} (h : ∀ p ∈ P, 0 ≤ p.2.2.2) (hx : 0 ≤ x.2.2.2) : ∀ p ∈ P ++ [x], 0 ≤ p.2.2.2 := by
  intro p hp
  rcases List.mem_append.1 hp with hp | hp
  · exact h p hp
  · simp at hp
    subst hp
    exact hx
theorem pl_set_pos {P : List Pl} {x : Pl} {k : Nat} (h : ∀ p ∈ P, 0 ≤ p.2.2.2) (hx : 0 ≤ x.2.2.2) : ∀ p ∈ P.set k x, 0 ≤ p.2.2.2 := by
  intro p hp
  rcases List.mem_or_eq_of_mem_set hp with hp | rfl
  · exact h p hp
  · exact hx
theorem pl_set_map (P : List Pl) (k : Nat) (h : k < P.length) (x : Int) : (P.set k (P[k].1, P[k].2.1, P[k].2.2.1, x)).map noAt = P.map noAt := by
  rw [List.map_set]
  have : noAt (P[k].1, P[k].2.1, P[k].2.2.1, x) = (P.map noAt)[k]'(by simpa using h) := by simp [noAt]
  rw [this, List.set_getElem_self]
/-- A place gets its number. -/
theorem pl_store {w wr : World} {pa : Option Addr} {pcp N : Nat} {P : List Pl} (hN : P.length = N) (ho : wr.ownsRow w.heap.size 75 4 (.slice pa N pcp) P.length (plCells P)) (hb : Below w.heap.size w wr) (n : Nat) (h : n < P.length) (x : Int) :
    ∃ g old, pa = some ⟨g, 0, none⟩ ∧ wr.cell? ⟨g, n * 4 + 3, none⟩ = some (.int .i64 old) ∧ wr.frozen? ⟨g, n * 4 + 3, none⟩ = false ∧
      (wr.setCell ⟨g, n * 4 + 3, none⟩ (.int .i64 x)).ownsRow w.heap.size 75 4 (.slice pa N pcp) (P.set n (P[n].1, P[n].2.1, P[n].2.2.1, x)).length (plCells (P.set n (P[n].1, P[n].2.1, P[n].2.2.1, x))) ∧ Below w.heap.size w (wr.setCell ⟨g, n * 4 + 3, none⟩ (.int .i64 x)) := by
  subst hN
  have ho2 := ho
  obtain ⟨h1, ⟨h2, h3⟩ | ⟨g, cap, cur, hv, hbb, hh, hc, hm, hz, ht⟩⟩ := ho2
  · omega
  · simp only [Value.slice.injEq] at hv
    obtain ⟨rfl, _, rfl⟩ := hv
    refine ⟨g, P[n].2.2.2, rfl, ?_, ho.frozenAt _, ?_, hb.setCell hbb _⟩
    · rw [ho.cellAt (n * 4 + 3) (by omega), (plCells_at P n h).2.2.2]
    · rw [plCells_set P n h x, List.length_set]
      exact (ho.stored (n * 4 + 3) _).1
/-- A place more. -/
theorem pl_more {w wm w1 : World} {o v' : Value} {P : List Pl} {x : Pl} (ho : wm.ownsRow w.heap.size 75 4 o P.length (plCells P)) (hb : Below w.heap.size w wm)
    (ho' : w1.ownsRow w.heap.size 75 4 v' (P.length + 1) (plCells P ++ [.string x.1, .bool x.2.1, .int .i64 x.2.2.1, .int .i64 x.2.2.2])) (hg : wm.grownBy w1 o.ownBlock) :
    w1.ownsRow w.heap.size 75 4 v' (P ++ [x]).length (plCells (P ++ [x])) ∧ Below w.heap.size w w1 := by
  refine ⟨?_, hb.grown hg hb.size fun k e => (own_lt ho k e).1⟩
  rw [plCells_snoc, List.length_append]
  exact ho'

set_option maxHeartbeats 4000000 in
theorem rPrint_any (a : Option Addr) (cp : Nat) (c : List Lt) (w : World) (h : LitsIn w a c) :
    Calls Tryd.prog 14 #[.slice a c.length cp] w fun e w' => ∃ t r, e = .returned (.tuple #[.string ⟨t.toArray⟩, .int .i64 r]) ∧ PrintR c t r ∧ Below w.heap.size w w' := by
  have cI := rIsClause_any a cp c w h
  by_cases hc : isClauseL c = true
  · obtain ⟨⟨h8, h60⟩, hat⟩ := clause_atoms hc
    rw [hc] at cI
    have HI := hide cI
    have HH := hide h
    have HA := hide hat
    have HC := hide hc
    obtain ⟨iP, hP, hP0, hP1, hP2⟩ := info_parts infoPlace
    clear cI h hat hc
    go_enter Tryd.func14, Tryd.ntmps14
    go_wp2_with (go_at_call 33; refine (unhide HI).mono ?_; rintro e w' ⟨rfl, hb0⟩)
    go_loopw [5, 6] (fun pl i wr => ∃ (k : Nat) (P : List Pl), k ≤ c.length ∧ i = .int .i64 k ∧ P.map noAt = usesTo c k ∧ (∀ p ∈ P, 0 ≤ p.2.2.2) ∧ wr.ownsRow w.heap.size 75 4 pl P.length (plCells P) ∧ Below w.heap.size w wr) (fun _ i _ => c.length - (intOf i).toNat)
    case atStart => exact ⟨0, [], Nat.zero_le _, rfl, rfl, fun p hp => by simp at hp, World.ownsRow_nil _ _ _ _, hb0⟩
    case round =>
      obtain ⟨k, P, hk, rfl, hPu, hPz, ho, hb⟩ := hrel
      have hPl : P.length ≤ 60 := by
        have h1 := usesTo_len c k
        have h2 := countL_take_le c k
        have h3 : P.length = (usesTo c k).length := by rw [← hPu]; simp
        omega
      by_cases hlt : k < c.length
      · obtain ⟨b, q, aa, acp, rfl, e1, f1, g1⟩ := HH.out.cell k hlt
        have hus := usesTo_succ c k hlt
        have hxl := (atom_parts (HA.out c[k] (List.getElem_mem _))).2
        rw [← hPu] at hus
        generalize c[k] = x at *
        obtain ⟨xb, xl⟩ := x
        simp only at e1 f1 g1 hus hxl
        have HUS := hide hus
        have HG := hide g1
        clear hus g1 hPu
        go_wp2
        go_loopw [5, 7] (fun pl j wi => ∃ (n : Nat) (P2 : List Pl), n ≤ xl.length ∧ j = .int .i64 n ∧ P2.map noAt = P.map noAt ++ plTo xl n ∧ (∀ p ∈ P2, 0 ≤ p.2.2.2) ∧ wi.ownsRow w.heap.size 75 4 pl P2.length (plCells P2) ∧ Below w.heap.size w wi) (fun _ j _ => xl.length - (intOf j).toNat)
        case atStart => exact ⟨0, P, Nat.zero_le _, rfl, by simp [plTo], hPz, ho, hb⟩
        case round =>
          obtain ⟨n, P2, hn, rfl, hP2u, hP2z, ho2, hb2⟩ := hrel
          have q1 := Below.at' hb2 (Nat.le_refl _) e1
          have q2 := Below.at' hb2 (Nat.le_refl _) f1
          have hP2l : P2.length ≤ 120 := by
            have h1 := plTo_len xl n
            have h3 : P2.length = P.length + (plTo xl n).length := by have := congrArg List.length hP2u; simpa using this
            omega
          by_cases hnl : n < xl.length
          · obtain ⟨b3, o3, rfl, e3, f3⟩ := HG.out.cell n hnl
            have q3 := Below.at' hb2 (Nat.le_refl _) e3
            have q4 := Below.at' hb2 (Nat.le_refl _) f3
            have hpt := plTo_succ xl n hnl
            generalize xl[n] = y at *
            obtain ⟨s, x⟩ := y
            simp only at q3 q4 e3 f3
            by_cases hv : s.toList.isEmpty = true
            · have hus : useOf n (s, x) = [] := by simp [useOf, varB, hv]
              rw [hus, List.append_nil] at hpt
              have HP := hide hpt
              have HPU := hide hP2u
              have HO := hide ho2
              have HB := hide hb2
              clear hpt hP2u ho2 hb2 hus
              go_wp2
              go_roundw
              case rel => exact ⟨n + 1, P2, by omega, by go_num, by rw [HP.out]; exact HPU.out, hP2z, HO.out, HB.out⟩
              case measure => simp [intOf]; omega
            · have hv' : s.toList.isEmpty = false := by simpa using hv
              have hus : useOf n (s, x) = [(s, decide (n = 0), x)] := by simp [useOf, varB, hv]
              rw [hus] at hpt
              have HP := hide hpt
              have HPU := hide hP2u
              have HB := hide hb2
              have HO := hide ho2
              have hbs := hb2.size
              have l1 := World.block_lt_of_cell? w _ f1
              have l2 := World.block_lt_of_cell? w _ e3
              have ag : u5.ownBlock ≠ some b := fun e => by have := (own_lt ho2 _ e).1; simp at l1; omega
              have ak : u5.ownBlock ≠ some b3 := fun e => by have := (own_lt ho2 _ e).1; simp at l2; omega
              clear hpt hP2u hus hv hb2 e1 f1 e3 f3
              have z1 : (0 : Int) ≤ (k : Int) := Int.natCast_nonneg _
              have z2 : (k : Int) < (c.length : Int) := by omega
              have z3 : (0 : Int) ≤ (n : Int) := Int.natCast_nonneg _
              have z4 : (n : Int) < (xl.length : Int) := by omega
              have l3 : b < wr.heap.size := World.block_lt_of_cell? wr _ q2
              have l4 : b3 < wr.heap.size := World.block_lt_of_cell? wr _ q3
              go_wp2_with fail
              go_region_held3 (fun w' => w'.cell? ⟨b, q + k * 2 + 1, none⟩ = some (.slice (some ⟨b3, o3, none⟩) xl.length acp) ∧ w'.cell? ⟨b3, o3 + n * 2, none⟩ = some (.string s) ∧ w'.cell? ⟨b3, o3 + n * 2 + 1, none⟩ = some (.int .i64 x))
                (first
                  | go_keep
                  | (go_split_ands
                     refine ⟨?_, ?_, ?_⟩
                     · (rw [hgrow.cell_far _ (by simp; omega) (Ne.symm ag)]; assumption)
                     · (rw [hgrow.cell_far _ (by simp; omega) (Ne.symm ak)]; assumption)
                     · (rw [hgrow.cell_far _ (by simp; omega) (Ne.symm ak)]; assumption)))
                ((refine step_append_lies _ (by rfl) _ _ _ (by rfl) w.heap.size 75 iP _ 4 40 Tryd.underlying73 hP hP0 hP1 hP2 rfl (by omega) u5 P2.length (plCells P2) (by rfl) ((ho2.alloc _).drew)
                    ⟨wr.heap.size, 0, none⟩ 1 1 [.string s, .bool ((n : Int) == 0), .int .i64 x, .int .i64 0] (by rfl) (by rfl) (World.news_of_block (cs := #[.string s, .bool ((n : Int) == 0), .int .i64 x, .int .i64 0]) (t := 75) (fr := (0, 0)) (heap_alloc_new wr _)) (by simp [Value.oneCell'])
                    (by omega) (by unfold maxLen; omega) (by omega) (by simp; omega) (wr.heap.size + 1) (by simp) ?_; intro gg cap w1 hown1 hgrow hat hlt))
              have R := pl_more (x := (s, ((n : Int) == 0), x, 0)) ((HO.out.alloc _).drew) ((HB.out.alloc hbs _).drew) hown1 hgrow
              have HR := hide R
              clear hown1 hgrow hat R ho2 q1 q2 q3 q4
              go_wp2
              go_roundw
              case rel => exact ⟨n + 1, P2 ++ [(s, ((n : Int) == 0), x, 0)], by omega, by go_num, by rw [HP.out, List.map_append, HPU.out, ← List.append_assoc]; simp [noAt, int_zero], pl_pos hP2z (by simp), HR.out.1, HR.out.2⟩
              case measure => simp [intOf]; omega
          · have hn' : n = xl.length := by omega
            have HU : Hid (P2.map noAt = usesTo c (k + 1)) := by rw [HUS.out, hP2u, hn']; exact rfl
            have HO := hide ho2
            have HB := hide hb2
            clear hP2u ho2 hb2 HUS
            go_wp2
            go_roundw
            case rel => exact ⟨k + 1, P2, by omega, by go_num, HU.out, hP2z, HO.out, HB.out⟩
            case measure => simp [intOf]; omega
      · have hk' : k = c.length := by omega
        subst hk'
        have HU : Hid (P.map noAt = usesL c) := hPu
        obtain ⟨pa, pcp, rfl, hpin⟩ := own_places ho (by omega)
        clear hPu hpin
        go_wp2
        go_loopw [9] (fun i wi => ∃ (n : Nat) (P2 : List Pl), n ≤ P.length ∧ P2.length = P.length ∧ i = .int .i64 n ∧ P2.map noAt = usesL c ∧ (∀ p ∈ P2, 0 ≤ p.2.2.2) ∧ wi.ownsRow w.heap.size 75 4 (.slice pa P.length pcp) P2.length (plCells P2) ∧ Below w.heap.size w wi) (fun i _ => P.length - (intOf i).toNat)
        case atStart => exact ⟨0, P, Nat.zero_le _, rfl, rfl, HU.out, hPz, ho, hb⟩
        case round =>
          obtain ⟨n, P2, hn, hPP, rfl, hP2u, hP2z, ho2, hb2⟩ := hrel
          by_cases hnl : n < P.length
          · have hnl2 : n < P2.length := by omega
            obtain ⟨g, old, rfl, hcl, hfz, hso, hsb⟩ := pl_store hPP ho2 hb2 n hnl2 n
            have HO := hide hso
            have HB := hide hsb
            have HPU := hide hP2u
            have hnz : (n : Int) < (P.length : Int) := by omega
            clear hso hsb ho2 hb2 hP2u
            go_wp2
            go_roundw
            case rel => exact ⟨n + 1, _, by omega, by rw [List.length_set]; exact hPP, by go_num, (pl_set_map P2 n hnl2 n).trans HPU.out, pl_set_pos hP2z (by simp), HO.out, HB.out⟩
            case measure => simp [intOf]; omega
          · have hpl : PlacesIn wr pa P2 := by
              obtain ⟨pa2, pcp2, hsh, hpin⟩ := own_places ho2 (by omega)
              simp only [Value.slice.injEq] at hsh
              obtain ⟨rfl, _, _⟩ := hsh
              exact hpin
            have cN := named_any pa pcp P2 wr hpl
            rw [hPP] at cN
            have HN := hide cN
            have HB := hide hb2
            have hbs := hb2.size
            have HPZ := hide (fun r hr => named_ok (r := r) hr hP2z)
            rw [hP2u] at HPZ
            clear cN hpl hb2 ho2 hP2u
            go_wp2_with (go_at_call 34; refine (unhide HN).mono ?_; rintro e w3 ⟨r, rfl, hr, hd⟩; have HOK := hide (unhide HPZ r hr); have HB3 := hide (HB.out.trans ((below_drawn hd).mono hbs)); clear hr hd)
            · have hr0 : 0 ≤ r := by assumption
              go_ret2
              exact ⟨[], 5, ret_two rfl rfl, Or.inr ⟨fun h => HOK.out.2 hr0 h.2, rfl, rfl⟩, HB3.out⟩
            · have hr0 : r < 0 := by assumption
              have HUO := hide (HOK.out.1 hr0)
              have hb3s := HB3.out.size
              clear HOK
              go_loopw [10, 11] (fun t i wi => ∃ (k : Nat) (y : ByteArray), k ≤ c.length ∧ i = .int .i64 k ∧ t = .string y ∧ y.size ≤ 12010 * k ∧ y.data.toList = litsF c k ∧ Below w.heap.size w wi) (fun _ i _ => c.length - (intOf i).toNat)
              case atStart => exact ⟨0, _, Nat.zero_le _, rfl, rfl, by decide, rfl, HB3.out⟩
              case round =>
                obtain ⟨k, y, hk, rfl, rfl, hys, hy, hb⟩ := hrel
                have hbs4 := hb.size
                by_cases hlt : k < c.length
                · obtain ⟨b, q, aa, acp, rfl, e1, f1, g1⟩ := HH.out.cell k hlt
                  have e2 := Below.at' hb (Nat.le_refl _) e1
                  have f2 := Below.at' hb (Nat.le_refl _) f1
                  have hxa := HA.out c[k] (List.getElem_mem _)
                  have hls := litsF_succ c k hlt
                  have hlen := litsF_len HA.out (k + 1)
                  generalize c[k] = x at *
                  obtain ⟨xb, xl⟩ := x
                  simp only at e2 f2 g1 hxa
                  have hxt := atom_parts hxa
                  have htl := term_len hxa
                  have cT : Calls Tryd.prog 35 #[.slice aa xl.length acp, .int .i64 0] wr _ := rTerm_any 60 aa acp xl 0 0 wr (g1.below hb (Nat.le_refl _)) hxt.2 (by simpa using hxt.2) (by simpa using hxt.1)
                  rw [List.drop_zero] at cT
                  have HLS : Hid (litsF c (k + 1) = litsF c k ++ ((if k = 0 then [] else [32, 124, 32]) ++ ((if xb then [126] else []) ++ (termW 60 xl).1))) := hls
                  have HL := hide hlen
                  have HT := hide cT
                  have HY := hide hy
                  have HB4 := hide hb
                  generalize termW 60 xl = TW at *
                  obtain ⟨tt, tr⟩ := TW
                  simp only at HT HLS htl
                  clear hls cT hy hb e1 f1 g1 hxa hxt hlen
                  by_cases hk0 : k = 0
                  · subst hk0
                    simp only [Nat.zero_mul, Nat.add_zero] at e2 f2
                    cases xb
                    · have HF : Hid ((y ++ ⟨tt.toArray⟩).data.toList = litsF c (0 + 1)) := hide (by rw [HLS.out, data_add, HY.out]; simp)
                      go_wp2_with (go_at_call 35; refine (unhide HT).mono ?_; rintro e w4 ⟨p', rfl, _, _, hb4⟩; have HB5 := hide (HB4.out.trans (hb4.mono hbs4)); clear hb4)
                      go_roundw
                      case rel => exact ⟨0 + 1, _, by omega, by go_num, rfl, by rw [size_data, HF.out]; exact HL.out, HF.out, HB5.out⟩
                      case measure => simp [intOf]; omega
                    · have HF : Hid ((y ++ ⟨#[126]⟩ ++ ⟨tt.toArray⟩).data.toList = litsF c (0 + 1)) := hide (by rw [HLS.out, data_add, data_add, HY.out]; simp)
                      go_wp2_with (go_at_call 35; refine (unhide HT).mono ?_; rintro e w4 ⟨p', rfl, _, _, hb4⟩; have HB5 := hide (HB4.out.trans (hb4.mono hbs4)); clear hb4)
                      go_roundw
                      case rel => exact ⟨0 + 1, _, by omega, by go_num, rfl, by rw [size_data, HF.out]; exact HL.out, HF.out, HB5.out⟩
                      case measure => simp [intOf]; omega
                  · have hkz : (0 : Int) < (k : Int) := by omega
                    cases xb
                    · have HF : Hid ((y ++ ⟨#[32, 124, 32]⟩ ++ ⟨tt.toArray⟩).data.toList = litsF c (k + 1)) := hide (by rw [HLS.out, data_add, data_add, HY.out, if_neg hk0]; simp)
                      go_wp2_with (go_at_call 35; refine (unhide HT).mono ?_; rintro e w4 ⟨p', rfl, _, _, hb4⟩; have HB5 := hide (HB4.out.trans (hb4.mono hbs4)); clear hb4)
                      go_roundw
                      case rel => exact ⟨k + 1, _, by omega, by go_num, rfl, by rw [size_data, HF.out]; exact HL.out, HF.out, HB5.out⟩
                      case measure => simp [intOf]; omega
                    · have HF : Hid ((y ++ ⟨#[32, 124, 32]⟩ ++ ⟨#[126]⟩ ++ ⟨tt.toArray⟩).data.toList = litsF c (k + 1)) := hide (by rw [HLS.out, data_add, data_add, data_add, HY.out, if_neg hk0]; simp)
                      go_wp2_with (go_at_call 35; refine (unhide HT).mono ?_; rintro e w4 ⟨p', rfl, _, _, hb4⟩; have HB5 := hide (HB4.out.trans (hb4.mono hbs4)); clear hb4)
                      go_roundw
                      case rel => exact ⟨k + 1, _, by omega, by go_num, rfl, by rw [size_data, HF.out]; exact HL.out, HF.out, HB5.out⟩
                      case measure => simp [intOf]; omega
                · have hk' : k = c.length := by omega
                  subst hk'
                  have HY := hide hy
                  have HB4 := hide hb
                  clear hy hb
                  by_cases hc0 : c.length = 0
                  · have hcz : ((c.length : Int) == 0) = true := by rw [beq_iff_eq]; omega
                    have HF : Hid ((⟨#[36, 102, 97, 108, 115, 101]⟩ : ByteArray) ++ ⟨#[46, 10]⟩ = ⟨(clauseT c).toArray⟩) := str_ext (by rw [data_add]; unfold clauseT; rw [if_pos hc0])
                    go_wp2
                    go_ret2
                    exact ⟨clauseT c, 0, ret_two (congrArg Value.string HF.out) rfl, Or.inl ⟨HC.out, HUO.out, rfl, rfl⟩, HB4.out⟩
                  · have hcz : ((c.length : Int) == 0) = false := by rw [beq_eq_false_iff_ne]; omega
                    have HF : Hid (y ++ ⟨#[46, 10]⟩ = ⟨(clauseT c).toArray⟩) := str_ext (by rw [data_add, HY.out]; unfold clauseT; rw [if_neg hc0])
                    go_wp2
                    go_ret2
                    exact ⟨clauseT c, 0, ret_two (congrArg Value.string HF.out) rfl, Or.inl ⟨HC.out, HUO.out, rfl, rfl⟩, HB4.out⟩
  · have hc' : isClauseL c = false := by simpa using hc
    rw [hc'] at cI
    have HI := hide cI
    have HR : Hid (PrintR c [] 5) := Or.inr ⟨fun h => hc h.1, rfl, rfl⟩
    clear cI h hc hc'
    go_enter Tryd.func14, Tryd.ntmps14
    go_wp2_with (go_at_call 33; refine (unhide HI).mono ?_; rintro e w' ⟨rfl, hb0⟩; have HB := hide hb0; clear hb0)
    go_ret2
    exact ⟨[], 5, ret_two rfl rfl, HR.out, HB.out⟩

end Go.Proofs.YtjnddclkdofgdaaDoor
