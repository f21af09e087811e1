/- The program: what the names are, each at its place. -/
import Derived.Test.YtjnddclkdofgdaaDoorPIsC
import Derived.Test.YtjnddclkdofgdaaDoorRPrint
namespace Go.Proofs.YtjnddclkdofgdaaDoor
open Go.RowKit Go.Shelf
set_option maxRecDepth 100000

/-- The cells of uses. -/
def useCells (U : List Us) : List Value := U.flatMap fun u => [.string u.1, .bool u.2.1, .int .i64 u.2.2]
theorem useCells_length (U : List Us) : (useCells U).length = U.length * 3 := by
  induction U with
  | nil => rfl
  | cons x r ih => simp [useCells] at ih ⊢; omega
theorem useCells_snoc (U : List Us) (x : Us) : useCells (U ++ [x]) = useCells U ++ [.string x.1, .bool x.2.1, .int .i64 x.2.2] := by simp [useCells]
theorem useCells_at (U : List Us) : ∀ k (h : k < U.length), (useCells U)[k * 3]? = some (.string U[k].1) ∧ (useCells U)[k * 3 + 1]? = some (.bool U[k].2.1) ∧ (useCells U)[k * 3 + 2]? = some (.int .i64 U[k].2.2) := by
  induction U with
  | nil => intro k h; simp at h
  | cons x r ih =>
    intro k h
    cases k with
    | zero => simp [useCells]
    | succ k =>
      have := ih k (by simpa using h)
      have e1 : (k + 1) * 3 = k * 3 + 3 := by omega
      rw [e1]
      simp only [useCells, List.flatMap_cons, List.cons_append, List.nil_append, List.getElem_cons_succ] at this ⊢
      have e2 : k * 3 + 3 + 1 = k * 3 + 1 + 3 := by omega
      have e3 : k * 3 + 3 + 2 = k * 3 + 2 + 3 := by omega
      rw [e2, e3]
      simp only [List.getElem?_cons_succ]
      exact this
/-- The cells of uses, as the walks read them. -/
structure UsesIn (w : World) (a : Option Addr) (U : List Us) : Prop where
  few : U.length ≤ 1000000
  short : ∀ k (h : k < U.length), U[k].1.size ≤ 140737488355328
  cell : ∀ k (h : k < U.length), ∃ b, a = some ⟨b, 0, none⟩ ∧ w.cell? ⟨b, k * 3, none⟩ = some (.string U[k].1) ∧ w.cell? ⟨b, k * 3 + 1, none⟩ = some (.bool U[k].2.1) ∧ w.cell? ⟨b, k * 3 + 2, none⟩ = some (.int .i64 U[k].2.2)
theorem own_uses {w : World} {B : Nat} {v : Value} {U : List Us} (h : w.ownsRow B 94 3 v U.length (useCells U)) (hf : U.length ≤ 1000000) (hs : ∀ k (h : k < U.length), U[k].1.size ≤ 140737488355328) :
    ∃ a cap, v = .slice a U.length cap ∧ UsesIn w a U := by
  obtain ⟨h1, ⟨rfl, h2⟩ | ⟨g, cap, cur, rfl, hb, hh, hc, hm, hz, ht⟩⟩ := h
  · exact ⟨none, 0, by rw [h2], hf, hs, fun k hk => by omega⟩
  · have ho : w.ownsRow B 94 3 (.slice (some ⟨g, 0, none⟩) U.length cap) U.length (useCells U) := ⟨h1, Or.inr ⟨g, cap, cur, rfl, hb, hh, hc, hm, hz, ht⟩⟩
    refine ⟨_, _, rfl, hf, hs, fun k hk => ⟨g, rfl, ?_, ?_, ?_⟩⟩
    · rw [ho.cellAt (k * 3) (by omega), (useCells_at U k hk).1]
    · rw [ho.cellAt (k * 3 + 1) (by omega), (useCells_at U k hk).2.1]
    · rw [ho.cellAt (k * 3 + 2) (by omega), (useCells_at U k hk).2.2]
theorem infoUse : (Tryd.prog.info? 94).map (fun i => (i.zero, i.size, i.bytes)) = some (some (.agg #[.string ⟨#[]⟩, .bool false, .int .i64 0]), 3, 32) := by kernel_rfl
theorem use_more {w wm w1 : World} {o v' : Value} {U : List Us} {x : Us} (ho : wm.ownsRow w.heap.size 94 3 o U.length (useCells U)) (hb : Below w.heap.size w wm)
    (ho' : w1.ownsRow w.heap.size 94 3 v' (U.length + 1) (useCells U ++ [.string x.1, .bool x.2.1, .int .i64 x.2.2])) (hg : wm.grownBy w1 o.ownBlock) :
    w1.ownsRow w.heap.size 94 3 v' (U ++ [x]).length (useCells (U ++ [x])) ∧ Below w.heap.size w w1 := by
  refine ⟨?_, hb.grown hg hb.size fun k e => (own_lt ho k e).1⟩
  rw [useCells_snoc, List.length_append]
  exact ho'
theorem new3 (w : World) (r s x : Value) (t : TypeId) (n : Nat) (hn : n = w.heap.size) : ∀ j u, [r, s, x][j]? = some u → (w.alloc (.cells #[r, s, x] t)).cell? ((⟨n, 0, none⟩ : Addr).add j) = some u := by
  subst hn
  intro j u hj
  match j, hj with
  | 0, hj => simp at hj; subst hj; simp [Addr.add]
  | 1, hj => simp at hj; subst hj; simp [Addr.add]
  | 2, hj => simp at hj; subst hj; simp [Addr.add]
  | j + 3, hj => simp at hj
theorem one3 (s : ByteArray) (b : Bool) (x : Int) : ∀ u ∈ [Value.string s, Value.bool b, Value.int .i64 x], u.oneCell' = true := by
  intro u hu
  simp at hu
  rcases hu with rfl | rfl | rfl <;> rfl

set_option maxHeartbeats 2000000 in
theorem uses_any (a : Option Addr) (cp : Nat) (c : List Lt) (w : World) (h : LitsIn w a c) (h60 : countL c ≤ 60) :
    Calls Tryd.prog 28 #[.slice a c.length cp] w fun e w' => ∃ v, e = .returned v ∧ w'.ownsRow w.heap.size 94 3 v (usesL c).length (useCells (usesL c)) ∧ Below w.heap.size w w' := by
  obtain ⟨iU, hU, hU0, hU1, hU2⟩ := info_parts infoUse
  have hf := h.few
  have HH := hide h
  clear h
  go_enter Tryd.func28, Tryd.ntmps28
  go_wp2
  go_loopw [3, 10] (fun o i wr => ∃ k : Nat, k ≤ c.length ∧ i = .int .i64 k ∧ wr.ownsRow w.heap.size 94 3 o (usesTo c k).length (useCells (usesTo c k)) ∧ Below w.heap.size w wr) (fun _ i _ => c.length - (intOf i).toNat)
  case atStart => exact ⟨0, Nat.zero_le _, rfl, World.ownsRow_nil _ _ _ _, Below.refl _ _⟩
  case round =>
    obtain ⟨k, hk, rfl, ho, hb⟩ := hrel
    by_cases hlt : k < c.length
    · obtain ⟨b, q, aa, acp, rfl, e1, f1, g1⟩ := HH.out.cell k hlt
      have e2 := Below.at' hb (Nat.le_refl _) e1
      have f2 := Below.at' hb (Nat.le_refl _) f1
      have hus := usesTo_succ c k hlt
      have hul := usesTo_len c k
      have hct := countL_take_le c (k + 1)
      rw [List.take_succ_eq_append_getElem hlt, countL_snoc] at hct
      generalize c[k] = z at *
      obtain ⟨zb, zl⟩ := z
      simp only at e2 f2 g1 hus hct
      generalize usesTo c k = U0 at *
      have HUS := hide hus
      have HG := hide g1
      have hzl := g1.few
      have hbs := hb.size
      clear e1 f1 g1 hus
      go_wp2
      go_loopw [3, 17] (fun o j wi => ∃ n : Nat, n ≤ zl.length ∧ j = .int .i64 n ∧ wi.ownsRow w.heap.size 94 3 o (U0 ++ plTo zl n).length (useCells (U0 ++ plTo zl n)) ∧ Below w.heap.size w wi) (fun _ j _ => zl.length - (intOf j).toNat)
      case atStart => exact ⟨0, Nat.zero_le _, rfl, by simpa [plTo] using ho.alloc _, hb.alloc hbs _⟩
      case round =>
        obtain ⟨n, hn, rfl, ho2, hb2⟩ := hrel
        by_cases hnl : n < zl.length
        · obtain ⟨b3, o3, rfl, e3, f3⟩ := HG.out.cell n hnl
          have q3 := Below.at' hb2 (Nat.le_refl _) e3
          have q4 := Below.at' hb2 (Nat.le_refl _) f3
          have hpt := plTo_succ zl n hnl
          have hpl := plTo_len zl n
          generalize zl[n] = nd at *
          obtain ⟨s, x⟩ := nd
          simp only at q3 q4
          have CV := hide (fun wx => isVariable_any s x wx)
          have hb2s := hb2.size
          have HB2 := hide hb2
          clear e3 f3 hb2
          cases hv : s.toList.isEmpty
          · have hus : useOf n (s, x) = [(s, ((n : Int) == 0), x)] := by simp [useOf, varB, hv, int_zero]
            rw [hus] at hpt
            rw [hv] at CV
            have HP := hide hpt
            have hlen : (U0 ++ plTo zl n).length ≤ 120 := by rw [List.length_append]; omega
            have HV : Hid (U0 ++ plTo zl (n + 1) = (U0 ++ plTo zl n) ++ [(s, ((n : Int) == 0), x)]) := hide (by rw [hpt, List.append_assoc])
            clear hpt HP
            generalize U0 ++ plTo zl n = V at *
            clear hus hv
            go_wp2_with (first
              | (go_at_call 47; refine (unhide CV _).mono ?_; rintro e w1 ⟨rfl, hb1⟩; obtain ⟨r1, r2, r3⟩ := box_at hb1; have ho1 := own_below (ho2.alloc _) hb1 (Nat.le_refl _); have HB1 := hide (HB2.out.trans (r3.mono hb2s)); have h1s := HB1.out.size; clear hb1 r3)
              | (at_builtin; refine wpList_append_own _ rfl (.tmp 25) (.tmp 33) 60 rfl w.heap.size 94 iU (.agg #[.string ⟨#[]⟩, .bool false, .int .i64 0]) 3 32 Tryd.underlying60 hU hU0 hU1 hU2 rfl (by decide) _ _ _ rfl (ho1.alloc _) ⟨w1.heap.size, 0, none⟩ 1 1 [.string s, .bool ((n : Int) == 0), .int .i64 x] rfl rfl ?c1 ?c2 ?c3 ?c4 ?c5 ?_)
              | go_in)
            case c1 => exact new3 _ _ _ _ _ _ (by simp)
            case c2 => first | exact one3 _ _ _ | exact ⟨rfl, rfl, rfl⟩
            case c3 => unfold maxLen; omega
            case c4 => omega
            case c5 => exact Nat.le_trans h1s (World.grownBy_alloc _ _ none).size
            intro v' w2 ho' hg' _
            have R := use_more (x := (s, ((n : Int) == 0), x)) (ho1.alloc _) (HB1.out.alloc h1s _) ho' hg'
            have HR := hide R
            clear ho' hg' ho1 R
            go_wp2
            go_roundw
            case rel => exact ⟨n + 1, by omega, by go_num, by rw [HV.out]; exact HR.out.1, HR.out.2⟩
            case measure => simp [intOf]; omega
          · have hus : useOf n (s, x) = [] := by simp [useOf, varB, hv]
            rw [hus, List.append_nil] at hpt
            rw [hv] at CV
            have HP := hide hpt
            have HO := hide ho2
            clear hpt hus hv ho2
            go_wp2_with (first
              | (go_at_call 47; refine (unhide CV _).mono ?_; rintro e w1 ⟨rfl, hb1⟩; obtain ⟨r1, r2, r3⟩ := box_at hb1; have HO1 := hide (own_below (HO.out.alloc _) hb1 (Nat.le_refl _)); have HB1 := hide (HB2.out.trans (r3.mono hb2s)); clear hb1 r3)
              | go_in)
            go_roundw
            case rel => exact ⟨n + 1, by omega, by go_num, by rw [HP.out]; exact HO1.out, HB1.out⟩
            case measure => simp [intOf]; omega
        · have hn' : n = zl.length := by omega
          subst hn'
          rw [← HUS.out] at ho2
          have HO := hide ho2
          have HB2 := hide hb2
          clear ho2 hb2 HUS
          go_wp2
          go_roundw
          case rel => exact ⟨k + 1, by omega, by go_num, HO.out, HB2.out⟩
          case measure => simp [intOf]; omega
    · have hk' : k = c.length := by omega
      subst hk'
      have F := hide (And.intro ho hb)
      clear ho hb
      go_wp2
      go_ret
      exact ⟨_, rfl, F.out⟩

end Go.Proofs.YtjnddclkdofgdaaDoor
