/- The document's table: two rows are the same, and all that follows. -/
import Derived.Test.YtjnddclkdofgdaaDoorUSame2
import Derived.Test.YtjnddclkdofgdaaDoorONumber
import Derived.Deep.RegionHeld3
namespace Go.Proofs.YtjnddclkdofgdaaDoor
open Go.RowKit Go.Shelf Go.WideMaps
set_option maxRecDepth 100000

def SBase (P : Tb) (a b i j : Nat) : Prop := (i = a ∧ j = b) ∨ clsR P i j
theorem same_start {P : Tb} (hok : TabOk P) {a b : Nat} (ha : a < P.length) (hb : b < P.length) : SameI P (SBase P a b) (joinP P P[a].1.cls P[b].1.cls) := by
  refine ⟨grOf_join _ _ _, joinP_length _ _ _, hok.join _ _ (hok.cls a ha), join_sound (C := Cl (grOf P) (SBase P a b)) (fun i j h => Cl.base (Or.inr h)) (fun _ _ => Cl.symm) (fun _ _ _ => Cl.trans) ha hb (Cl.base (Or.inl ⟨rfl, rfl⟩)), ?_⟩
  rintro i j (⟨rfl, rfl⟩ | h)
  · exact join_base ha hb
  · exact join_mono h

theorem two_rows (w : World) (a0 a1 a2 a3 d0 d1 d2 d3 : Value) (T : TypeId) : ∃ W1 W2, W1 = w.alloc (.cells #[a0, a1, a2, a3] T) ∧ W2 = W1.alloc (.cells #[d0, d1, d2, d3] T) ∧ Below w.heap.size w W1 ∧
    W2.cell? ⟨w.heap.size, 0, none⟩ = some a0 ∧ W2.cell? ⟨w.heap.size, 1, none⟩ = some a1 ∧ W2.cell? ⟨w.heap.size, 2, none⟩ = some a2 ∧ W2.cell? ⟨w.heap.size, 3, none⟩ = some a3 ∧
    W2.cell? ⟨w.heap.size + 1, 0, none⟩ = some d0 ∧ W2.cell? ⟨w.heap.size + 1, 1, none⟩ = some d1 ∧ W2.cell? ⟨w.heap.size + 1, 2, none⟩ = some d2 ∧ W2.cell? ⟨w.heap.size + 1, 3, none⟩ = some d3 := by
  refine ⟨_, _, rfl, rfl, (Below.refl _ _).alloc (Nat.le_refl _) _, ?_, ?_, ?_, ?_, ?_, ?_, ?_, ?_⟩ <;> simp

set_option maxHeartbeats 8000000 in
theorem tSame_any (B tp : Nat) (v : Value) (P : Tb) (a b : Nat) (ha : a < P.length) (hb : b < P.length) (w : World) (h : TabP w B tp v P) (hok : TabOk P) (hf : P.length ≤ 1000000) (hps : ∀ p ∈ P, p.1.parts.length ≤ 1000000) :
    Calls Tryd.prog 39 #[.pointer (some ⟨tp, 0, none⟩), .int .i64 a, .int .i64 b] w fun e w' => ∃ r, e = .returned r ∧ SameR P B tp v (SBase P a b) r w' ∧ w.grownBy w' v.ownBlock := by
  obtain ⟨o, cap, rfl, hc⟩ := h.shape
  obtain ⟨g, rfl, q1, q2, q3, q4⟩ := hc a ha
  clear hc q1 q2 q3 q4
  have CJ := hide (tjoin_any B tp _ P a b ha hb w h hf)
  have HI0 := hide (same_start hok ha hb)
  have HPS := hide hps
  clear h hok hps
  go_enter Tryd.func39, Tryd.ntmps39
  go_wp2_with (first
    | (go_at_call 62; refine (unhide CJ).mono ?_; rintro e w1 ⟨rfl, ht, hg⟩; have HS1 := hide (SSt.mk (w := w) ht HI0.out ((Sh.refl P).join _ _) hg); clear ht hg)
    | go_in)
  generalize joinP P P[a].1.cls P[b].1.cls = Q1 at *
  go_loopw [7] (fun m wr => ∃ (bb : Bool) (Q : Tb), m = .bool bb ∧ SSt w B tp (.slice (some ⟨g, 0, none⟩) P.length cap) P (SBase P a b) Q wr ∧ (bb = false → ∀ i k, k < i → i < Q.length → Fine Q i k)) (fun m wr => 2 * clsN P.length (clsOf wr g P.length) + flagOf m)
  case atStart => exact ⟨true, Q1, rfl, HS1.out, by simp⟩
  case round =>
    rename World => wo
    obtain ⟨bb, Q, rfl, hS, hF⟩ := hrel
    have hlen := hS.sh.len
    cases bb with
    | true =>
      have HS := hide hS
      clear hS hF
      go_wp2
      go_loopw [7, 8] (fun m i wi => ∃ (bb : Bool) (k : Nat) (Q' : Tb), k ≤ P.length ∧ m = .bool bb ∧ i = .int .i64 k ∧ SSt w B tp (.slice (some ⟨g, 0, none⟩) P.length cap) P (SBase P a b) Q' wi ∧ Prog P.length Q Q' bb (∀ i' k', k' < i' → i' < k → Fine Q i' k')) (fun _ i _ => P.length - (intOf i).toNat)
      case atStart => exact ⟨false, 0, Q, Nat.zero_le _, rfl, rfl, HS.out, Prog.start _ _ (fun i' k' h1 h2 => by omega)⟩
      case round =>
        rename World => wi
        obtain ⟨bb, i, Q', hi, rfl, rfl, hS', hP⟩ := hrel
        have c1 := hS'.tab.cell
        by_cases hlt : i < P.length
        · have hlti : (i : Int) < (P.length : Int) := by omega
          have HS1 := hide hS'
          have HP := hide hP
          clear hS' hP
          go_wp2
          go_loopw [7, 9] (fun m j wk => ∃ (bb : Bool) (k : Nat) (Q' : Tb), k ≤ i ∧ m = .bool bb ∧ j = .int .i64 k ∧ SSt w B tp (.slice (some ⟨g, 0, none⟩) P.length cap) P (SBase P a b) Q' wk ∧ Prog P.length Q Q' bb ((∀ i' k', k' < i' → i' < i → Fine Q i' k') ∧ ∀ k', k' < k → Fine Q i k')) (fun _ j _ => i - (intOf j).toNat)
          case atStart => exact ⟨bb, 0, Q', Nat.zero_le _, rfl, rfl, HS1.out, HP.out.imp fun _ h => ⟨h, fun k' h => by omega⟩⟩
          case round =>
            rename World => wk
            obtain ⟨bb, k, Q', hk, rfl, rfl, hS', hP⟩ := hrel
            have c1 := hS'.tab.cell
            by_cases hki : k < i
            · have hkii : (k : Int) < (i : Int) := by omega
              have hkl : k < P.length := by omega
              have hkli : (k : Int) < (P.length : Int) := by omega
              have hq := hS'.sh.len
              obtain ⟨o', cap', e', hc⟩ := hS'.tab.shape
              simp at e'
              obtain ⟨rfl, hq', rfl⟩ := e'
              obtain ⟨g1, hg1, i0, i1, i2, i3⟩ := hc i (by omega)
              obtain ⟨g2, hg2, k0, k1, k2, k3⟩ := hc k (by omega)
              simp at hg1 hg2
              subst hg1
              subst hg2
              clear hc hq'
              obtain ⟨si1, si2, si3⟩ := hS'.sh.row i hlt (by omega)
              obtain ⟨sk1, sk2, sk3⟩ := hS'.sh.row k hkl (by omega)
              obtain ⟨qi1, qi2, qi3⟩ := HS.out.sh.row i hlt (by omega)
              obtain ⟨qk1, qk2, qk3⟩ := HS.out.sh.row k hkl (by omega)
              have hpi := hS'.tab.parts Q'[i] (List.getElem_mem _)
              have hpk := hS'.tab.parts Q'[k] (List.getElem_mem _)
              rw [si1, si2] at hpi
              rw [sk1, sk2] at hpk
              obtain ⟨ai, ci, hvi, _⟩ := own_nats hpi
              obtain ⟨ak, ck, hvk, _⟩ := own_nats hpk
              have hli := HPS.out P[i] (List.getElem_mem _)
              have hlk := HPS.out P[k] (List.getElem_mem _)
              have hary : varB P[i].1.node = false → varB P[k].1.node = false → P[i].1.node = P[k].1.node → P[i].1.parts.length = P[k].1.parts.length := fun a1 a2 a3 => by
                have r1 := hS'.inv.ok.ary i (by omega) (by rw [si3]; exact a1)
                have r2 := hS'.inv.ok.ary k (by omega) (by rw [sk3]; exact a2)
                rw [si2, si3] at r1
                rw [sk2, sk3] at r2
                rw [a3] at r1
                omega
              have HFA := hide (show Q'[i].1.cls ≠ Q'[k].1.cls → Q' = Q → Fine Q i k from fun hne e => by
                subst e
                intro _ _ e1
                exact absurd e1 hne)
              have HFB := hide (show varB P[i].1.node = true ∨ varB P[k].1.node = true → Fine Q i k from fun hor _ _ _ e1 e2 => by
                rw [qi3] at e1
                rw [qk3] at e2
                rcases hor with h | h
                · rw [h] at e1; cases e1
                · rw [h] at e2; cases e2)
              have HFE := hide (show P[i].1.node = P[k].1.node → (∀ p q r : Nat, P[i].1.parts[p]? = some q → P[k].1.parts[p]? = some r → clsR Q q r) → Fine Q i k from fun hn hp _ _ _ _ _ => by
                rw [qi3, qk3, qi2, qk2]
                exact ⟨hn, hp⟩)
              have HCL := hide (show Q'[i].1.cls = Q'[k].1.cls → varB P[i].1.node = false → varB P[k].1.node = false → P[i].1.node ≠ P[k].1.node → ¬ NoClash (grOf P) (Cl (grOf P) (SBase P a b)) from fun e v1 v2 hn => hS'.inv.clash (by omega) (by omega) e (by rw [si3]; exact v1) (by rw [sk3]; exact v2) (by rw [si3, sk3]; exact hn))
              have HCD := hide (show Q'[i].1.cls = Q'[k].1.cls → varB P[i].1.node = false → varB P[k].1.node = false → ∀ q u v : Nat, P[i].1.parts[q]? = some u → P[k].1.parts[q]? = some v → Cl (grOf P) (SBase P a b) u v from fun e v1 v2 q u v h1 h2 => Cl.down (hS'.inv.sound i k ((clsR.iff (by omega) (by omega)).2 e)) (grOf_isNamed hlt v1) (grOf_isNamed hkl v2) (by rw [grOf_ch P i hlt]; exact h1) (by rw [grOf_ch P k hkl]; exact h2))
              have hgs : g < wk.heap.size := own_block_lt hS'.tab.row rfl
              have HBX := hide (fun (o1 o2 : Obj) => hS'.below (((Below.refl wk.heap.size wk).alloc (Nat.le_refl _) o1).alloc (by simp) o2))
              rw [si3] at i0 i1
              rw [sk3] at k0 k1
              rw [si1, hvi] at i2
              rw [sk1, hvk] at k2
              have HVI := hide hvi
              have HVK := hide hvk
              have HARY := hide hary
              have HS2 := hide hS'
              have HP2 := hide hP
              clear si1 si2 si3 sk1 sk2 sk3 qi1 qi2 qi3 qk1 qk2 qk3 hpi hpk hvi hvk hary hS' hP
              generalize Q'[i].1.cls = cli at *
              generalize Q'[k].1.cls = clk at *
              generalize hni : P[i].1.node = ni at *
              generalize hnk : P[k].1.node = nk at *
              obtain ⟨s1, x1⟩ := ni
              obtain ⟨s2, x2⟩ := nk
              simp only at i0 i1 k0 k1
              clear hni hnk
              generalize hpli : P[i].1.parts = li at *
              generalize hplk : P[k].1.parts = lk at *
              obtain ⟨W1, W2, hW1, hW2, hB1, b10, b11, b12, b13, b20, b21, b22, b23⟩ := two_rows wk (.string s1) (.int .i64 x1) (.slice ai li.length ci) (.int .i64 cli) (.string s2) (.int .i64 x2) (.slice ak lk.length ck) (.int .i64 clk) 108
              subst hW2
              subst hW1
              have c2 := Below.at' hB1 (Nat.le_refl _) c1
              have m0 := Below.at' hB1 (Nat.le_refl _) k0
              have m1 := Below.at' hB1 (Nat.le_refl _) k1
              have m2 := Below.at' hB1 (Nat.le_refl _) k2
              have m3 := Below.at' hB1 (Nat.le_refl _) k3
              clear hB1
              have HFK : Hid (∀ (F : Fine Q i k) (h : (∀ i' k', k' < i' → i' < i → Fine Q i' k') ∧ ∀ k', k' < k → Fine Q i k'), (∀ i' k', k' < i' → i' < i → Fine Q i' k') ∧ ∀ k', k' < k + 1 → Fine Q i k') := hide (fun F h => ⟨h.1, fun k' hk' => by
                by_cases hkk : k' < k
                · exact h.2 k' hkk
                · have : k' = k := by omega
                  subst this
                  exact F⟩)
              by_cases hcc : cli = clk
              · subst hcc
                by_cases hv1 : s1.toList.isEmpty = true
                · go_wp2
                  go_roundw
                  case rel => exact ⟨bb, k + 1, Q', by omega, rfl, by go_num, HBX.out _ _, HP2.out.imp fun e h => HFK.out (HFB.out (Or.inl hv1)) h⟩
                  case measure => simp [intOf]; omega
                · by_cases hv2 : s2.toList.isEmpty = true
                  · go_wp2
                    go_roundw
                    case rel => exact ⟨bb, k + 1, Q', by omega, rfl, by go_num, HBX.out _ _, HP2.out.imp fun e h => HFK.out (HFB.out (Or.inr hv2)) h⟩
                    case measure => simp [intOf]; omega
                  · have n1 : varB (s1, x1) = false := by simpa [varB] using hv1
                    have n2 : varB (s2, x2) = false := by simpa [varB] using hv2
                    have hqn := eqNode s1 s2 x1 x2
                    have hnb := nodeB_eq (s1, x1) (s2, x2)
                    simp only at hnb
                    by_cases he : (s1, x1) = (s2, x2)
                    · rw [decide_eq_true he] at hnb
                      have hll := HARY.out n1 n2 he
                      have hll1 : li.length ≤ lk.length := by omega
                      have hll2 : lk.length ≤ li.length := by omega
                      clear hll
                      have HCC := hide (HCD.out rfl n1 n2)
                      have HFF := hide (HFE.out he)
                      have HSB := hide (HBX.out (.cells #[.string s1, .int .i64 x1, .slice ai li.length ci, .int .i64 cli] 108) (.cells #[.string s2, .int .i64 x2, .slice ak lk.length ck, .int .i64 cli] 108))
                      clear he n1 n2
                      go_wp2
                      clear m0 m1 m2 m3 i0 i1 i2 i3 k0 k1 k2 k3
                      go_loopw [7, 12] (fun m p wp => ∃ (bb : Bool) (q : Nat) (Q3 : Tb), q ≤ li.length ∧ m = .bool bb ∧ p = .int .i64 q ∧ SSt w B tp (.slice (some ⟨g, 0, none⟩) P.length cap) P (SBase P a b) Q3 wp ∧ Prog P.length Q Q3 bb (((∀ i' k', k' < i' → i' < i → Fine Q i' k') ∧ ∀ k', k' < k → Fine Q i k') ∧ ∀ p', p' < q → ∀ u v : Nat, li[p']? = some u → lk[p']? = some v → clsR Q u v) ∧ wp.cell? ⟨wk.heap.size, 2, none⟩ = some (.slice ai li.length ci) ∧ wp.cell? ⟨wk.heap.size + 1, 2, none⟩ = some (.slice ak lk.length ck)) (fun _ p _ => li.length - (intOf p).toNat)
                      case atStart => exact ⟨bb, 0, Q', Nat.zero_le _, rfl, rfl, HSB.out, HP2.out.imp fun _ h => ⟨h, fun p' h => by omega⟩, b12, b22⟩
                      case round =>
                        rename World => wp
                        obtain ⟨bb, q, Q3, hq3, rfl, rfl, hS3, hP3, d1, d2⟩ := hrel
                        by_cases hql : q < li.length
                        · have hqli : (q : Int) < (li.length : Int) := by omega
                          have hqlk : (q : Int) < (lk.length : Int) := by omega
                          have hl3 := hS3.sh.len
                          obtain ⟨si1, si2, _⟩ := hS3.sh.row i hlt (by omega)
                          obtain ⟨sk1, sk2, _⟩ := hS3.sh.row k hkl (by omega)
                          have hpi := hS3.tab.parts Q3[i] (List.getElem_mem _)
                          have hpk := hS3.tab.parts Q3[k] (List.getElem_mem _)
                          have hui := hS3.inv.ok.parts i (by omega)
                          have hvk := hS3.inv.ok.parts k (by omega)
                          rw [si1, si2, hpli] at hpi
                          rw [sk1, sk2, hplk] at hpk
                          rw [si2, hpli] at hui
                          rw [sk2, hplk] at hvk
                          obtain ⟨ai', ci', hvi, hci⟩ := own_nats hpi
                          obtain ⟨ak', ck', hvk', hck⟩ := own_nats hpk
                          rw [HVI.out] at hvi
                          rw [HVK.out] at hvk'
                          simp at hvi hvk'
                          obtain ⟨rfl, rfl⟩ := hvi
                          obtain ⟨rfl, rfl⟩ := hvk'
                          have hg5 := own_apart hpi hS3.tab.row (by decide)
                          have hg6 := own_apart hpk hS3.tab.row (by decide)
                          obtain ⟨g5, rfl, e5⟩ := hci q hql
                          obtain ⟨g6, rfl, e6⟩ := hck q (by omega)
                          have hu := hui li[q] (List.getElem_mem _)
                          have hv := hvk lk[q] (List.getElem_mem _)
                          have hcl := HCC.out q li[q] lk[q] (List.getElem?_eq_getElem hql) (List.getElem?_eq_getElem (by omega))
                          have CJ2 := hide (fun (wx : World) (hx : ∃ n, wx = wp.drewN n) => tjoin_any B tp _ Q3 li[q] lk[q] hu hv wx (by obtain ⟨n, rfl⟩ := hx; exact hS3.tab.drewN n) (by omega))
                          have HSJ := hide (fun (wx wy : World) (hx : ∃ n, wx = wp.drewN n) (ht : TabP wy B tp _ _) (hg : wx.grownBy wy _) => (hS3.below (below_drawn hx)).join hu hv hcl ht hg)
                          have HPJ := hide (hP3.join (F' := ((∀ i' k', k' < i' → i' < i → Fine Q i' k') ∧ ∀ k', k' < k → Fine Q i k') ∧ ∀ p', p' < q + 1 → ∀ u v : Nat, li[p']? = some u → lk[p']? = some v → clsR Q u v) hS3.inv.ok hl3 hu hv (fun e h hr => ⟨h.1, fun p' hp' u v h1 h2 => by
                            by_cases hpp : p' < q
                            · exact h.2 p' hpp u v h1 h2
                            · have : p' = q := by omega
                              subst this
                              rw [List.getElem?_eq_getElem hql] at h1
                              rw [List.getElem?_eq_getElem (by omega)] at h2
                              simp at h1 h2
                              subst h1
                              subst h2
                              rw [← e]
                              exact hr⟩))
                          generalize hnn : decide (Q3[li[q]].1.cls ≠ Q3[lk[q]].1.cls) = nn at *
                          generalize joinP Q3 Q3[li[q]].1.cls Q3[lk[q]].1.cls = Q4 at *
                          generalize li[q] = u at *
                          generalize lk[q] = v at *
                          have hg5' : g5 ≠ g := by rintro rfl; rw [HVI.out] at hg5; simp [Value.ownBlock] at hg5
                          have hg6' : g6 ≠ g := by rintro rfl; rw [HVK.out] at hg6; simp [Value.ownBlock] at hg6
                          clear hg5 hg6
                          have HD := hide (show ∀ wx wy, (∃ n, wx = wp.drewN n) → wx.grownBy wy (some g) → wy.cell? ⟨wk.heap.size, 2, none⟩ = some (.slice (some ⟨g5, 0, none⟩) li.length ci) ∧ wy.cell? ⟨wk.heap.size + 1, 2, none⟩ = some (.slice (some ⟨g6, 0, none⟩) lk.length ck) ∧ wy.cell? ⟨g5, q, none⟩ = some (.int .i64 u) ∧ wy.cell? ⟨g6, q, none⟩ = some (.int .i64 v) from fun wx wy hx hg => by
                            obtain ⟨n, rfl⟩ := hx
                            exact ⟨hg.cell (w := wp.drewN n) d1 (by simp; omega), hg.cell (w := wp.drewN n) d2 (by simp; omega), hg.cell (w := wp.drewN n) e5 (by simp; omega), hg.cell (w := wp.drewN n) e6 (by simp; omega)⟩)
                          clear hnn hpi hpk hui hvk hci hck si1 si2 sk1 sk2 hS3 hP3 hcl hu hv
                          cases bb with
                          | true =>
                            go_wp2_with fail
                            go_region_held3 (fun w' => w'.cell? ⟨wk.heap.size, 2, none⟩ = some (.slice (some ⟨g5, 0, none⟩) li.length ci) ∧ w'.cell? ⟨wk.heap.size + 1, 2, none⟩ = some (.slice (some ⟨g6, 0, none⟩) lk.length ck) ∧ w'.cell? ⟨g5, q, none⟩ = some (.int .i64 u) ∧ w'.cell? ⟨g6, q, none⟩ = some (.int .i64 v)) (go_keep)
                              ((go_at_call 62; refine (unhide CJ2 _ (by first | exact ⟨0, rfl⟩ | exact ⟨1, rfl⟩ | exact ⟨_, rfl⟩)).mono ?_; rintro e w4 ⟨rfl, ht4, hg4⟩; have HS4 := hide (HSJ.out _ w4 (by first | exact ⟨0, rfl⟩ | exact ⟨1, rfl⟩ | exact ⟨_, rfl⟩) ht4 hg4); obtain ⟨c0, c1, c2, c3⟩ := HD.out _ w4 (by first | exact ⟨0, rfl⟩ | exact ⟨1, rfl⟩ | exact ⟨_, rfl⟩) hg4; clear ht4 hg4))
                            all_goals
                              go_wp2
                              go_roundw
                              case rel => exact ⟨true, q + 1, Q4, by omega, rfl, by go_num, HS4.out, by simpa using HPJ.out, c0, c1⟩
                              case measure => simp [intOf]; omega
                          | false =>
                            go_wp2_with fail
                            go_region_held3 (fun w' => w'.cell? ⟨wk.heap.size, 2, none⟩ = some (.slice (some ⟨g5, 0, none⟩) li.length ci) ∧ w'.cell? ⟨wk.heap.size + 1, 2, none⟩ = some (.slice (some ⟨g6, 0, none⟩) lk.length ck) ∧ w'.cell? ⟨g5, q, none⟩ = some (.int .i64 u) ∧ w'.cell? ⟨g6, q, none⟩ = some (.int .i64 v)) (go_keep)
                              ((go_at_call 62; refine (unhide CJ2 _ (by first | exact ⟨0, rfl⟩ | exact ⟨1, rfl⟩ | exact ⟨_, rfl⟩)).mono ?_; rintro e w4 ⟨rfl, ht4, hg4⟩; have HS4 := hide (HSJ.out _ w4 (by first | exact ⟨0, rfl⟩ | exact ⟨1, rfl⟩ | exact ⟨_, rfl⟩) ht4 hg4); obtain ⟨c0, c1, c2, c3⟩ := HD.out _ w4 (by first | exact ⟨0, rfl⟩ | exact ⟨1, rfl⟩ | exact ⟨_, rfl⟩) hg4; clear ht4 hg4))
                            all_goals
                              go_wp2
                              go_roundw
                              case rel => exact ⟨nn, q + 1, Q4, by omega, rfl, by go_num, HS4.out, by simpa using HPJ.out, c0, c1⟩
                              case measure => simp [intOf]; omega
                        · have hqli : ¬ ((q : Int) < (li.length : Int)) := by omega
                          have HS3 := hide hS3
                          have HP3 := hide hP3
                          have hqe : q = li.length := by omega
                          clear hS3 hP3
                          go_wp2
                          go_roundw
                          case rel => exact ⟨bb, k + 1, Q3, by omega, rfl, by go_num, HS3.out, HP3.out.imp fun e h => HFK.out (HFF.out fun p u v h1 h2 => h.2 p (by
                            have := (List.getElem?_eq_some_iff.1 h1).1
                            omega) u v h1 h2) h.1⟩
                          case measure => simp [intOf]; omega
                    · rw [decide_eq_false he] at hnb
                      have HNC := hide (HCL.out rfl n1 n2 he)
                      clear he n1 n2
                      go_wp2
                      go_ret
                      exact ⟨_, rfl, ⟨false, rfl, ⟨by simp, fun h => absurd h.1 HNC.out⟩, by simp⟩, (HBX.out _ _).far⟩
              · have hcc' : ¬ ((cli : Int) = (clk : Int)) := by omega
                go_wp2
                go_roundw
                case rel => exact ⟨bb, k + 1, Q', by omega, rfl, by go_num, HBX.out _ _, HP2.out.imp fun e h => HFK.out (HFA.out hcc e) h⟩
                case measure => simp [intOf]; omega
            · have hkii : ¬ ((k : Int) < (i : Int)) := by omega
              have HS2 := hide hS'
              have HP2 := hide hP
              clear hS' hP
              go_wp2
              go_roundw
              case rel =>
                refine ⟨bb, i + 1, Q', by omega, rfl, by go_num, HS2.out, HP2.out.imp fun _ h i' k' h1 h2 => ?_⟩
                by_cases hii : i' < i
                · exact h.1 i' k' h1 hii
                · have : i' = i := by omega
                  subst this
                  exact h.2 k' (by omega)
              case measure => simp [intOf]; omega
        · have hlti : ¬ ((i : Int) < (P.length : Int)) := by omega
          have HS1 := hide hS'
          have HP := hide hP
          clear hS' hP
          go_wp2
          go_roundw
          case rel => exact ⟨bb, Q', rfl, HS1.out, fun e i' k' h1 h2 => by
            obtain ⟨rfl, h⟩ := HP.out.2.2 e
            exact h i' k' h1 (by omega)⟩
          case measure =>
            rw [clsOf_eq HS.out.tab HS.out.sh.len, clsOf_eq HS1.out.tab HS1.out.sh.len]
            have h1 := HP.out.1
            unfold cN at h1
            cases bb with
            | true => have h2 := HP.out.2.1 rfl; unfold cN at h2; simp [flagOf]; omega
            | false => simp [flagOf]; omega
    | false =>
      have hFF := hF rfl
      have hcl := hS.closed hFF
      have CE := hide (tends_any B tp _ Q wo hS.tab (by omega) hS.inv.ok hcl (fun p hp => by
        obtain ⟨i, hi, rfl⟩ := List.getElem_of_mem hp
        rw [(hS.sh.row i (by omega) hi).2.1]
        exact HPS.out _ (List.getElem_mem _)))
      have HS := hide hS
      have HFF := hide hFF
      clear hS hF hFF hcl
      go_wp2_with (first
        | (go_at_call 63; refine (unhide CE).mono ?_; rintro e w2 ⟨r, rfl, hr, hb2⟩; have HR := hide hr; have HB2 := hide hb2; clear hr hb2)
        | go_in)
      go_ret
      obtain ⟨bb, rfl, hbb⟩ := HR.out
      obtain ⟨h1, h2⟩ := HS.out.inv.done HFF.out
      refine ⟨_, rfl, ⟨bb, rfl, ?_, fun _ => ⟨Q, HS.out.tab.below HB2.out, HS.out.sh, HS.out.inv.gr, HS.out.inv.ok, h1⟩⟩, HS.out.far.trans (grown_of_below HB2.out)⟩
      rw [hbb, HS.out.inv.gr, HS.out.inv.len]
      exact ⟨fun h => ⟨h2, fun i hi => (Ends.iff h1).1 (h i hi)⟩, fun h i hi => (Ends.iff h1).2 (h.2 i hi)⟩

end Go.Proofs.YtjnddclkdofgdaaDoor
