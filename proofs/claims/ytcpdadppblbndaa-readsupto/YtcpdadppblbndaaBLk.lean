/- The law looks at all lists again. -/
import Derived.Test.YtcpdadppblbndaaBLk2
import Derived.Deep.RegionHeld3
namespace Go.Proofs.Ytcpdadppblbndaa
open Go.RowKit Go.Shelf
set_option maxRecDepth 100000

set_option maxHeartbeats 8000000 in
theorem looks_any (B bk : Nat) (nv mv xv yv : Value) (E : List (Value × Int)) (F : List LTri) (G : List GTri) (next : Int) (w : World) (h : Book2 w B bk nv mv xv yv E F G next) :
    Calls Try.prog 5 #[.pointer (some ⟨bk, 0, none⟩)] w fun e w' => e = .returned (.bool true) ∧ Below w.heap.size w w' := by
  obtain ⟨n4, n6⟩ := h.base.cn
  have c0 := h.base.c0
  have c1 := h.base.c1
  have c2 := h.base.c2
  have c3 := h.base.c3
  simp only at c2 c3
  have hfew := h.base.few
  have hfF := h.fewF
  have hfG := h.fewG
  obtain ⟨na, nc, rfl, hN⟩ := row_vals h.base.rn
  obtain ⟨ma, mc, rfl, hM⟩ := row_vals h.base.rm
  obtain ⟨nF, hnF⟩ : ∃ n, F.length * 3 = n := ⟨_, rfl⟩
  obtain ⟨nG, hnG⟩ : ∃ n, G.length * 3 = n := ⟨_, rfl⟩
  obtain ⟨xa, xc, rfl, hX⟩ := row_vals h.rx
  obtain ⟨ya, yc, rfl, hY⟩ := row_vals h.ry
  rw [hnF] at h c2
  rw [hnG] at h c3
  have HNF := hide hnF
  have HNG := hide hnG
  have hnF3 : nF ≤ 3000000000 := by omega
  have hnG3 : nG ≤ 3000000000 := by omega
  clear hnF hnG
  have HN := hide hN
  have HM := hide hM
  have H := hide h
  have H46 := hide (And.intro n4 n6)
  have C2 := hide c2
  have C3 := hide c3
  clear h hN hM hX hY n4 n6 c2 c3
  go_enter Try.func5, Try.ntmps5
  go_wp2
  go_loopw [3] (fun c wr => ∃ i : Nat, i ≤ E.length ∧ c = .int .i64 i ∧ ∃ d, wr = w.drewN d) (fun c _ => E.length - (intOf c).toNat)
  case atStart => exact ⟨0, Nat.zero_le _, rfl, 0, rfl⟩
  case round =>
    obtain ⟨i, hi, rfl, d, rfl⟩ := hrel
    by_cases hlt : i < E.length
    · have hlti : (i : Int) < (E.length : Int) := by omega
      obtain ⟨gn, rfl, e0⟩ := HN.out i E[i].1 (by simp [hlt])
      obtain ⟨gm, rfl, e1⟩ := HM.out i (.int .i64 E[i].2) (by simp [hlt])
      obtain ⟨a, n, c, hv, hn, hc⟩ := (H.out.base.mks E[i] (List.getElem_mem _)).view
      rw [hv] at e0
      generalize E[i].2 = m at *
      have HC := hide hc
      clear hv hc
      go_wp2
      go_loopw [4] (fun c wr => ∃ k : Nat, k ≤ n ∧ c = .int .i64 k ∧ ∃ d, wr = w.drewN d) (fun c _ => n - (intOf c).toNat)
      case atStart => exact ⟨0, Nat.zero_le _, rfl, d, rfl⟩
      case round =>
        obtain ⟨k, hk, rfl, d', rfl⟩ := hrel
        by_cases hkn : k < n
        · have hkni : (k : Int) < (n : Int) := by omega
          obtain ⟨g, rfl, f0, f1⟩ := HC.out k hkn
          have hnb := nodeB_eq (⟨#[35]⟩, m) (⟨#[35]⟩, m)
          have g9 := guard46
          have q9 := eqNode ⟨#[35]⟩ ⟨#[35]⟩ m m
          rw [decide_eq_true rfl] at hnb
          simp only at hnb
          go_wp2
          go_quiet (fail)
          go_wp2
          go_roundw
          case rel => exact ⟨k + 1, by omega, by go_num, (by first | exact draw2 _ _ _ | exact ⟨_, rfl⟩)⟩
          case measure => simp [intOf]; omega
        · have hkn' : k = n := by omega
          subst hkn'
          go_wp2
          go_roundw
          case rel => exact ⟨i + 1, by omega, by go_num, (by first | exact draw2 _ _ _ | exact ⟨_, rfl⟩)⟩
          case measure => simp [intOf]; omega
    · have hie : i = E.length := by omega
      subst hie
      clear hlt
      go_wp2
      have HBD := hide (below_drawn (w := w) (w1 := w.drewN d) ⟨d, rfl⟩)
      generalize w.drewN d = w0 at *
      clear c0 c1 HN HM
      go_loopw [5] (fun c wr => ∃ i : Nat, i ≤ nF ∧ c = .int .i64 i ∧ Below w.heap.size w wr) (fun c _ => nF - (intOf c).toNat)
      case atStart => exact ⟨0, Nat.zero_le _, rfl, HBD.out⟩
      case round =>
        obtain ⟨i, hi, rfl, hb⟩ := hrel
        have q2 := Below.at' hb (Nat.le_refl _) C2.out
        by_cases hlt : i < nF
        · have hlti : (i : Int) < (nF : Int) := by omega
          have hix : (i : Int) / 3 * 3 + 1 < (nF : Int) := by have := HNF.out; omega
          have hix2 : i / 3 * 3 + 1 < nF := by omega
          obtain ⟨gx, xc', a, n, c, g1, n1, c1, ga, m, hxv, e0, e1, hn, hn1, hc, l0, l1, hga⟩ := H.out.litAt HNF.out hlt
          simp at hxv
          obtain ⟨rfl, rfl⟩ := hxv
          have HC := hide hc
          have HE := hide (And.intro e0 (And.intro e1 (And.intro l0 (And.intro l1 hga))))
          have e0' := Below.at' hb (Nat.le_refl _) e0
          have e1' := Below.at' hb (Nat.le_refl _) e1
          clear hc e0 e1 l0 l1 hga
          go_wp2
          clear e0' e1' q2
          go_loopw [7] (fun c wr => ∃ k : Nat, k ≤ n ∧ c = .int .i64 k ∧ Below w.heap.size w wr) (fun c _ => n - (intOf c).toNat)
          case atStart => exact ⟨0, Nat.zero_le _, rfl, hb⟩
          case round =>
            obtain ⟨k, hk, rfl, hb'⟩ := hrel
            obtain ⟨e0, e1, l0, l1, hga⟩ := HE.out
            have q2 := Below.at' hb' (Nat.le_refl _) C2.out
            have r0 := Below.at' hb' (Nat.le_refl _) e0
            by_cases hkn : k < n
            · have hkni : (k : Int) < (n : Int) := by omega
              obtain ⟨g, rfl, f0, f1⟩ := HC.out k hkn
              have f0' := Below.at' hb' (Nat.le_refl _) f0
              have f1' := Below.at' hb' (Nat.le_refl _) f1
              have l0' := Below.at' hb' (Nat.le_refl _) l0
              have l1' := Below.at' hb' (Nat.le_refl _) l1
              have hw1 : IntKind.i64.wrap (n1 : Int) = n1 := by rw [IntKind.wrap_i64]; omega
              have hw2 : (n1 : Int) < (n1 : Int) + 1 := by omega
              have CM := hide (marked_any ga m wr.drew (show wr.heap[ga]? = _ by rw [hb'.block ga (Array.getElem?_eq_some_iff.1 hga).1, hga]))
              have HB' := hide hb'
              clear e0 e1 l0 l1 hga f0 f1 hb' hb
              go_wp2
              go_region_held3 (fun w' => w'.cell? ⟨bk, 2, none⟩ = some (.slice (some ⟨gx, 0, none⟩) (nF) xc) ∧ w'.cell? ⟨gx, i, none⟩ = some (.slice (some ⟨g, 0, none⟩) n c) ∧ w'.cell? ⟨g, k * 2, none⟩ = some (.bool true) ∧ w'.cell? ⟨g, k * 2 + 1, none⟩ = some (.slice (some ⟨ga, 0, none⟩) 1 1) ∧ w'.cell? ⟨g1, n1 * 2, none⟩ = some (.bool true) ∧ w'.cell? ⟨g1, n1 * 2 + 1, none⟩ = some (.slice (some ⟨ga, 0, none⟩) 1 1)) (first | go_keep | exact ⟨Below.at' HB1.out (Nat.le_refl _) q2, Below.at' HB1.out (Nat.le_refl _) r0, Below.at' HB1.out (Nat.le_refl _) f0', Below.at' HB1.out (Nat.le_refl _) f1', Below.at' HB1.out (Nat.le_refl _) l0', Below.at' HB1.out (Nat.le_refl _) l1'⟩) (first | (go_at_call 11; refine (unhide CM).mono ?_; rintro e w2 ⟨rfl, hb2⟩; have HB1 : Hid (Below wr.heap.size wr w2) := hide ((below_drawn (w1 := wr.drew) ⟨1, rfl⟩).trans hb2); have HB2 : Hid (Below w.heap.size w w2) := hide (HB'.out.trans (HB1.out.mono HB'.out.size)); clear hb2))
              all_goals
                go_wp2
                go_roundw
                case rel => exact ⟨k + 1, by omega, by go_num, HB2.out⟩
                case measure => simp [intOf]; omega
            · have hkn' : k = n := by omega
              subst hkn'
              clear e0 e1 l0 l1 hga
              go_wp2
              go_roundw
              case rel => exact ⟨i + 1, by omega, by go_num, hb'⟩
              case measure => simp [intOf]; omega
        · have hie : i = nF := by omega
          subst hie
          clear hlt
          go_wp2
          clear q2
          go_loopw [9] (fun c wr => ∃ i : Nat, i ≤ nG ∧ c = .int .i64 i ∧ Below w.heap.size w wr) (fun c _ => nG - (intOf c).toNat)
          case atStart => exact ⟨0, Nat.zero_le _, rfl, hb⟩
          case round =>
            clear hb
            obtain ⟨i, hi, rfl, hb⟩ := hrel
            have q3 := Below.at' hb (Nat.le_refl _) C3.out
            by_cases hlt : i < nG
            · have hlti : (i : Int) < (nG : Int) := by omega
              have hix : (i : Int) / 3 * 3 + 1 < (nG : Int) := by have := HNG.out; omega
              have hix2 : i / 3 * 3 + 1 < nG := by omega
              obtain ⟨gx, xc', a, n, c, g1, n1, c1, gl, ga, m, hxv, e0, e1, hn, hn1, hc, l1, x0, x1, hga⟩ := H.out.lisAt HNG.out hlt
              simp at hxv
              obtain ⟨rfl, rfl⟩ := hxv
              have HC := hide hc
              have HE := hide (And.intro e0 (And.intro e1 (And.intro l1 (And.intro x0 (And.intro x1 hga)))))
              have e0' := Below.at' hb (Nat.le_refl _) e0
              have e1' := Below.at' hb (Nat.le_refl _) e1
              clear hc e0 e1 l1 x0 x1 hga
              go_wp2
              clear e0' e1' q3
              go_loopw [11] (fun c wr => ∃ k : Nat, k ≤ n ∧ c = .int .i64 k ∧ Below w.heap.size w wr) (fun c _ => n - (intOf c).toNat)
              case atStart => exact ⟨0, Nat.zero_le _, rfl, hb⟩
              case round =>
                obtain ⟨k, hk, rfl, hb'⟩ := hrel
                obtain ⟨e0, e1, l1, x0, x1, hga⟩ := HE.out
                have q3 := Below.at' hb' (Nat.le_refl _) C3.out
                have r0 := Below.at' hb' (Nat.le_refl _) e0
                by_cases hkn : k < n
                · have hkni : (k : Int) < (n : Int) := by omega
                  obtain ⟨g, rfl, f0⟩ := HC.out k hkn
                  have f0' := Below.at' hb' (Nat.le_refl _) f0
                  have l1' := Below.at' hb' (Nat.le_refl _) l1
                  have x0' := Below.at' hb' (Nat.le_refl _) x0
                  have x1' := Below.at' hb' (Nat.le_refl _) x1
                  have hw1 : IntKind.i64.wrap (n1 : Int) = n1 := by rw [IntKind.wrap_i64]; omega
                  have hw2 : (n1 : Int) < (n1 : Int) + 1 := by omega
                  have CM := hide (marked_any ga m wr.drew (show wr.heap[ga]? = _ by rw [hb'.block ga (Array.getElem?_eq_some_iff.1 hga).1, hga]))
                  have HB' := hide hb'
                  clear e0 e1 l1 x0 x1 hga f0 hb' hb
                  go_wp2
                  go_region_held3 (fun w' => w'.cell? ⟨bk, 3, none⟩ = some (.slice (some ⟨gx, 0, none⟩) (nG) yc) ∧ w'.cell? ⟨gx, i, none⟩ = some (.slice (some ⟨g, 0, none⟩) n c) ∧ w'.cell? ⟨g, k, none⟩ = some (.slice (some ⟨gl, 0, none⟩) 1 1) ∧ w'.cell? ⟨gl, 0, none⟩ = some (.bool true) ∧ w'.cell? ⟨gl, 1, none⟩ = some (.slice (some ⟨ga, 0, none⟩) 1 1) ∧ w'.cell? ⟨g1, n1, none⟩ = some (.slice (some ⟨gl, 0, none⟩) 1 1)) (first | go_keep | exact ⟨Below.at' HB1.out (Nat.le_refl _) q3, Below.at' HB1.out (Nat.le_refl _) r0, Below.at' HB1.out (Nat.le_refl _) f0', Below.at' HB1.out (Nat.le_refl _) x0', Below.at' HB1.out (Nat.le_refl _) x1', Below.at' HB1.out (Nat.le_refl _) l1'⟩) (first | (go_at_call 11; refine (unhide CM).mono ?_; rintro e w2 ⟨rfl, hb2⟩; have HB1 : Hid (Below wr.heap.size wr w2) := hide ((below_drawn (w1 := wr.drew) ⟨1, rfl⟩).trans hb2); have HB2 : Hid (Below w.heap.size w w2) := hide (HB'.out.trans (HB1.out.mono HB'.out.size)); clear hb2))
                  all_goals
                    go_wp2
                    go_roundw
                    case rel => exact ⟨k + 1, by omega, by go_num, HB2.out⟩
                    case measure => simp [intOf]; omega
                · have hkn' : k = n := by omega
                  subst hkn'
                  clear e0 e1 l1 x0 x1 hga
                  go_wp2
                  go_roundw
                  case rel => exact ⟨i + 1, by omega, by go_num, hb'⟩
                  case measure => simp [intOf]; omega
            · have hie : i = nG := by omega
              subst hie
              have CR := hide (bookreads_any bk wr (Below.at' hb (Nat.le_refl _) H46.out.1) (Below.at' hb (Nat.le_refl _) H46.out.2))
              go_wp2_with (go_at_call 12; refine (unhide CR).mono ?_; rintro e w2 ⟨rfl, hw2⟩; rw [hw2]; clear hw2 w2)
              go_ret
              exact ⟨rfl, hb⟩

end Go.Proofs.Ytcpdadppblbndaa
