/- The document's parser: a term that begins with a name, and the contract of term at every fuel. -/
import Derived.Test.YtcpdadppblbndaaSNam0M
import Derived.Deep.DeepCutAuto
namespace Go.Proofs.Ytcpdadppblbndaa
open Go.RowKit
set_option maxRecDepth 100000

/-- Behind the name: the token's box, and the place goes on. -/
theorem name_first {B B' pa : Nat} {w w1 : World} {L : List Tk} {st : PSt} {vL vP vC vB vV vl : Value} {l : List Nd} (hP : PIn B w1 pa L st (-1) vL vP vC vB vV) (hl : w1.ownsRow B' 46 2 vl l.length (nodeCells l)) (hk : KeptP B B' w w1) (tx : ByteArray) (tp : Nat) :
    ((w1.alloc (.cells #[.int .u8 110, .string tx, .int .i64 tp] 58)).setCell ⟨pa, 1, none⟩ (.int .i64 ((st.i : Int) + 1))).ownsRow B' 46 2 vl l.length (nodeCells l) ∧
    PIn B ((w1.alloc (.cells #[.int .u8 110, .string tx, .int .i64 tp] 58)).setCell ⟨pa, 1, none⟩ (.int .i64 ((st.i : Int) + 1))) pa L ⟨st.i + 1, st.vars, st.places⟩ (-1) vL vP vC vB vV ∧
    KeptP B B' w ((w1.alloc (.cells #[.int .u8 110, .string tx, .int .i64 tp] 58)).setCell ⟨pa, 1, none⟩ (.int .i64 ((st.i : Int) + 1))) ∧
    (∀ j u, [Value.int .u8 110, .string tx, .int .i64 tp][j]? = some u → ((w1.alloc (.cells #[.int .u8 110, .string tx, .int .i64 tp] 58)).setCell ⟨pa, 1, none⟩ (.int .i64 ((st.i : Int) + 1))).cell? ⟨w1.heap.size, j, none⟩ = some u) ∧
    some w1.heap.size ≠ vl.ownBlock := by
  have hpl := hP.box.lt
  refine ⟨(hP.alloc _).box.row (hl.alloc _) (by decide) _ _, (hP.alloc _).setI (st.i + 1), (hk.alloc _).grownBox (hP.alloc _).box hP.high (grown_setCell _ _ _), fun j u hj => ?_, fun e => absurd (own_lt hl _ e.symm).2 (Nat.lt_irrefl _)⟩
  rw [World.cell?_setCell_other _ _ _ _ (by first | (simp; done) | (simp; omega))]
  simpa using hj

theorem new4 (w : World) (s x y z : Value) (t : TypeId) (n : Nat) (hn : n = w.heap.size) : ∀ j u, [s, x, y, z][j]? = some u → (w.alloc (.cells #[s, x, y, z] t)).cell? ((⟨n, 0, none⟩ : Addr).add j) = some u := by
  subst hn
  intro j u hj
  match j, hj with
  | 0, hj => simp at hj; subst hj; simp [Addr.add]
  | 1, hj => simp at hj; subst hj; simp [Addr.add]
  | 2, hj => simp at hj; subst hj; simp [Addr.add]
  | 3, hj => simp at hj; subst hj; simp [Addr.add]
  | j + 4, hj => simp at hj
theorem oneP (s : ByteArray) (b : Bool) (x y : Int) : ∀ u ∈ [Value.string s, .bool b, .int .i64 x, .int .i64 y], u.oneCell' = true := by
  intro u hu
  simp at hu
  rcases hu with rfl | rfl | rfl | rfl <;> rfl

set_option maxHeartbeats 10000000 in
theorem rpterm_name (B B' pa : Nat) (brk : Int) (atom : Bool) (st : PSt) (vL vP vC vB vV vl : Value) (L T : List Tk) (l : List Nd) (w : World) (f : Nat) (ht : TL L T brk) (IH : ∀ g, g ≤ f → TermC B pa brk L T vL vC vB g) (h : PIn B w pa L st (-1) vL vP vC vB vV) (hl : w.ownsRow B' 46 2 vl l.length (nodeCells l)) (hBB : B ≤ B') (hBw : B' ≤ w.heap.size)
    (hk : (tkA T st.i).kind = 110) (hi : st.i < T.length) (hf : T.length < st.i + (f + 1)) (hf2 : f + 1 ≤ 2000000) (hln : l.length ≤ st.i) (hpn : st.places.length ≤ st.i) (hvn : st.vars.length ≤ st.i) :
    Calls Try.prog 31 #[.pointer (some ⟨pa, 0, none⟩), vl, .bool atom, .int .i64 brk] w fun e w' => TermR B B' pa w L T (f + 1) st l vL vC vB (pTermG T (f + 1) atom st l) e w' := by
  have hfew := ht.few
  have HIH := hide IH
  clear IH
  have hi1 : st.i + 1 < T.length := ht.more _ hi (by rw [hk]; decide) (by rw [hk]; decide)
  have HKT := hide hk
  have HTX : Hid ((tkA T st.i).txt = (tkA L st.i).txt ∧ (tkA T st.i).pos = (tkA L st.i).pos) := hide ⟨(ht.txt _).symm, (ht.pos st.i (by rw [hk]; decide)).symm⟩
  rw [← ht.kind] at hk
  obtain ⟨iN, hN, hN0, hN1, hN2⟩ := info_parts infoNode
  obtain ⟨la, lc, rfl⟩ := own_shape hl
  obtain ⟨qa, qc, rfl⟩ := own_shape h.places
  have cH := rhere_any B pa st.i (-1) vL _ vC vB vV L w h.box h.toks
  have HP := hide h
  have HL := hide hl
  clear h hl
  obtain ⟨t, hte⟩ : ∃ t, tkA L st.i = t := ⟨_, rfl⟩
  rw [hte] at cH hk HTX
  clear hte
  obtain ⟨tk, tx, tp⟩ := t
  simp only at hk
  subst hk
  rw [show tkV ⟨110, tx, tp⟩ = .agg #[.int .u8 110, .string tx, .int .i64 tp] from rfl] at cH
  go_enter Try.func31, Try.ntmps31
  go_wp2_with (first
    | (go_at_call 15; refine cH.mono ?_; rintro e w1 ⟨rfl, hb1⟩; have HP1 := hide (HP.out.below hb1); have HL1 := hide (own_below HL.out hb1 (Nat.le_refl _)); have HK1 : Hid (KeptP B B' w w1) := hide (.of_below hb1); have hs1 := hb1.size; have e1 : ∀ o, (w1.alloc o).cell? ⟨pa, 1, none⟩ = some (.int .i64 st.i) := (fun o => (HP1.out.alloc o).box.c1); have f1 : ∀ o, (w1.alloc o).frozen? ⟨pa, 1, none⟩ = false := (fun o => (HP1.out.alloc o).box.soft 1); obtain ⟨hlX, hpX, hkX, htX, hnX⟩ := name_first HP1.out HL1.out HK1.out tx tp; have HPX := hide hpX; have HKX := hide hkX; have HTX := hide htX; have tX1 := htX 1 _ rfl; have HNE := hide hnX; clear hb1 htX hpX hkX hnX)
    | (at_builtin; refine wpList_append_own _ rfl (.tmp 91) (.tmp 95) 44 rfl B' 46 iN (.agg #[.string ⟨#[]⟩, .int .i64 0]) 2 24 Try.underlying44 hN hN0 hN1 hN2 rfl (by decide) _ _ _ rfl (hlX.alloc _) ⟨_, 0, none⟩ 1 1 [.string tx, .int .i64 0] rfl rfl ?c1 ?c2 ?c3 ?c4 ?c5 ?_)
    | go_in)
  try case c1 => exact new2 _ _ _ _ _ (by simp [World.setCell])
  case c2 => first | exact one2 _ _ | exact ⟨rfl, rfl⟩
  case c3 => unfold maxLen; omega
  case c4 => omega
  case c5 => first | omega | (simp [World.setCell]; omega)
  intro v3 w3 ho3 hg3 _
  have HP3 := hide ((HPX.out.alloc _).far (hlX.alloc _) (by decide) hg3)
  have HK3 := hide ((HKX.out.alloc _).grownRow (hlX.alloc _) hBB (Or.inr (Or.inr ⟨rfl, Nat.le_refl _⟩)) hg3)
  have ht1 : w3.cell? ⟨w1.heap.size, 1, none⟩ = some (.string tx) := hg3.cell (Below.at' ((Below.refl _ _).alloc (Nat.le_refl _) _) (Nat.le_refl _) (HTX.out 1 _ rfl)) HNE.out
  have ht2 : w3.cell? ⟨w1.heap.size, 2, none⟩ = some (.int .i64 tp) := hg3.cell (Below.at' ((Below.refl _ _).alloc (Nat.le_refl _) _) (Nat.le_refl _) (HTX.out 2 _ rfl)) HNE.out
  have hs3 := hg3.size
  have hz3 : w1.heap.size < w3.heap.size := by simp [World.setCell] at hs3; omega
  obtain ⟨l3, c3, rfl⟩ := own_shape ho3
  have HL3 : Hid (w3.ownsRow B' 46 2 (.slice l3 (l.length + 1) c3) (l ++ [(tx, 0)]).length (nodeCells (l ++ [(tx, 0)]))) := hide (by rw [nodeCells_snoc, List.length_append]; exact ho3)
  have d3 := HP3.out.box.c3
  have hq3 : w3.drew.ownsRow B 90 4 (.slice qa st.places.length qc) st.places.length (placeCells st.places) := HP3.out.places
  have HP3d : Hid (PIn B w3.drew pa L ⟨st.i + 1, st.vars, st.places⟩ (-1) vL (.slice qa st.places.length qc) vC vB vV) := hide (HP3.out.drawn 1)
  have HL3d : Hid (w3.drew.ownsRow B' 46 2 (.slice l3 (l.length + 1) c3) (l ++ [(tx, 0)]).length (nodeCells (l ++ [(tx, 0)]))) := hide HL3.out
  have HK3d : Hid (KeptP B B' w w3.drew) := hide (HK3.out.drawn 1)
  have e3 : ∀ o, (w3.alloc o).cell? ⟨pa, 3, none⟩ = some (.slice qa st.places.length qc) := fun o => (HP3.out.alloc o).box.c3
  have et1 : ∀ o, (w3.alloc o).cell? ⟨w1.heap.size, 1, none⟩ = some (.string tx) := fun o => Below.at' ((Below.refl _ w3).alloc (Nat.le_refl _) o) (Nat.le_refl _) ht1
  have et2 : ∀ o, (w3.alloc o).cell? ⟨w1.heap.size, 2, none⟩ = some (.int .i64 tp) := fun o => Below.at' ((Below.refl _ w3).alloc (Nat.le_refl _) o) (Nat.le_refl _) ht2
  generalize w1.heap.size = tb at *
  clear ho3 hg3 hs3 HP3 HK3 HL3 HPX HKX HTX HNE hlX e1 f1 tX1 HP1 HL1 HK1 HP HL cH
  go_upto_region 21 with (fail)
  go_cut [] (fun wx => ∃ q4 qc4, PIn B wx pa L ⟨st.i + 1, st.vars, st.places ++ [(tx, atom, 0, (tp : Int))]⟩ (-1) vL (.slice q4 (st.places.length + 1) qc4) vC vB vV ∧ wx.ownsRow B' 46 2 (.slice l3 (l.length + 1) c3) (l ++ [(tx, 0)]).length (nodeCells (l ++ [(tx, 0)])) ∧ KeptP B B' w wx)
  case first =>
    refine pcalm ?_
    go_region_law (refine step_append_one ?g1 (.tmp 106) (.tmp 113) 54 90 ?g2 (.agg #[.string ⟨#[]⟩, .bool false, .int .i64 0, .int .i64 0]) 4 40 Try.underlying54 infoPlace ?g3 ?g4 ?g5 B _ st.places.length (placeCells st.places) ?g6 (hq3.alloc _) ?g7 ?g8 w3.heap.size 1 [.string tx, .bool atom, .int .i64 0, .int .i64 tp] ?g9 ?g10 (new4 w3.drew _ _ _ _ 90 w3.heap.size rfl) (oneP tx atom 0 tp) ?_; (case g1 => rfl); (case g2 => rfl); (case g3 => rfl); (case g4 => decide); (case g5 => decide); (case g6 => rfl); (case g7 => omega); (case g8 => simp; omega); (case g9 => rfl); (case g10 => rfl); intro v4 w4 ho4 hg4; obtain ⟨c4, s4, hs4, hP4, hl4, hk4⟩ := place_more (x := (tx, atom, 0, (tp : Int))) HP3d.out HL3d.out HK3d.out _ ho4 hg4; have HP4 := hide hP4; have HL4 := hide hl4; have HK4 := hide hk4; obtain ⟨q4, qc4, rfl⟩ := own_shape ho4; clear ho4 hg4 hP4 hl4 hk4)
    all_goals
      refine unpcalm ?_
      go_wp2_with fail
      go_meet
      case rel => exact ⟨_, _, HP4.out, HL4.out, HK4.out⟩
  case rest =>
    obtain ⟨q4, qc4, hP4, hl4, hk4⟩ := hcut
    have CH4 := hide (rhere_any B pa (st.i + 1) (-1) vL _ vC vB vV L wc hP4.box hP4.toks)
    have HP4 := hide hP4
    have HL4 := hide hl4
    have HK4 := hide hk4
    clear hP4 hl4 hk4 d3 e3 et1 et2 ht1 ht2 hq3 HP3d HL3d HK3d
    obtain ⟨kk, hkk⟩ : ∃ kk, (tkA L (st.i + 1)).kind = kk := ⟨_, rfl⟩
    have CH4' := hide (by have := CH4.out; unfold tkV at this; rw [hkk] at this; exact this)
    have HKK := hide hkk
    clear CH4 hkk
    have htk := tok_kind
    go_upto_if 120 with (first
      | (go_at_call 15; refine (unhide CH4').mono ?_; rintro e w5 ⟨rfl, hb5⟩; have HP5 := hide (HP4.out.below hb5); have HL5 := hide (own_below HL4.out hb5 (Nat.le_refl _)); have HK5 := hide (HK4.out.trans (.of_below hb5)); clear hb5)
      | go_in)
    clear HP4 HL4 HK4 CH4'
    go_cut [1, 14] (fun vl n wx => ∃ n' : Nat, n = .int .i64 n' ∧ NEnd B B' pa w L T vL vC vB f atom st l vl n' wx)
    case first =>
      by_cases h40 : kk = 40
      · subst h40
        have h40T : (tkA T (st.i + 1)).kind = 40 := by rw [← ht.kind, HKK.out]
        have HN0 : Hid (NLoop B B' pa w L T vL vC vB f ⟨st.i + 1, st.vars, st.places ++ [(tx, atom, 0, (tp : Int))]⟩ (l ++ [(tx, 0)]) (.slice l3 (l.length + 1) c3) 0 true w5) := hide ⟨_, _, _, -1, _, HP5.out, HL5.out, HK5.out, by simp; omega, Nat.zero_le _, Or.inl ⟨rfl, hi1, by simp, fun _ => ht.more _ hi1 (by rw [h40T]; decide) (by rw [h40T]; decide), f, Nat.le_refl _, by simp; omega, by simp⟩⟩
        have HW40 := hide h40T
        clear HP5 HL5 HK5 h40T HKK
        go_wp2_with fail
        go_loopw [1, 14, 15] (fun vl n more wr => ∃ (n' : Nat) (m : Bool), n = .int .i64 n' ∧ more = .bool m ∧ NLoop B B' pa w L T vL vC vB f ⟨st.i + 1, st.vars, st.places ++ [(tx, atom, 0, (tp : Int))]⟩ (l ++ [(tx, 0)]) vl n' m wr) (fun _ n _ _ => T.length + 1 - (intOf n).toNat)
        case atStart => exact ⟨0, true, rfl, rfl, HN0.out⟩
        case round =>
          obtain ⟨n, m, rfl, rfl, vP, vV, s1, bad, l1, hP, hl1, hkp, hbd, hn, hc⟩ := hrel
          obtain ⟨hP', hl', hk'⟩ := step_in hP hl1 hkp
          have d1 := hP.box.c1
          have d2 := hP.box.c2
          have f1 := hP.box.soft 1
          have HBD := hide hbd
          have HP := hide hP
          have HL := hide hl1
          have HK := hide hkp
          have HP' := hide hP'
          have HL' := hide hl'
          have HK' := hide hk'
          simp only [List.length_append, List.length_singleton] at hbd
          clear hP hl1 hkp hP' hl' hk'
          rcases hc with ⟨rfl, hi2, hni, hm, g, hg, hTg, he⟩ | ⟨p, rfl, he⟩
          · have HE := hide he
            clear he
            have CH := hide (rhere_any B pa s1.i (-1) vL vP vC vB vV L wr HP.out.box HP.out.toks)
            obtain ⟨k1, hk1⟩ : ∃ k1, (tkA L s1.i).kind = k1 := ⟨_, rfl⟩
            have CH' := hide (by have := CH.out; unfold tkV at this; rw [hk1] at this; exact this)
            have HK1 := hide hk1
            clear CH hk1
            cases m with
            | true =>
              have hm1 := hm rfl
              obtain ⟨g', rfl⟩ : ∃ g', g = g' + 1 := ⟨g - 1, by omega⟩
              have CT := hide (HIH.out g' (by omega) B' false ⟨s1.i + 1, s1.vars, s1.places⟩ vP vV _ l1 _ HP'.out HL'.out hBB (by have := HK.out.size; simp [World.setCell]; omega) hm1 (by simp; omega) (by omega) (by simp; omega) (by simp; omega) (by simp; omega))
              clear CH' hm
              go_wp2_with (first
                | (go_at_call 31; refine (unhide CT).mono ?_; rintro e w2 ⟨vl2, vP2, vV2, s2, bad2, l2, rfl, hp2, hl2, hkp2, hbd2, hres2⟩; have CH2 := hide (by have := rhere_any B pa s2.i bad2 vL vP2 vC vB vV2 L w2 hp2.box hp2.toks; unfold tkV at this; exact this); have HP2 := hide hp2; have HL2 := hide hl2; have HK2 := hide hkp2; have HB2 := hide hbd2; have HR2 := hide hres2; clear hp2 hl2 hkp2 hbd2 hres2)
                | (go_at_call 15; refine (unhide CH2).mono ?_; rintro e w3 ⟨rfl, hb3⟩; have HW3 := hide hb3; clear hb3)
                | go_in)
              go_roundw
              case rel =>
                have hE2 : pPartsG T f ⟨st.i + 1, st.vars, st.places ++ [(tx, atom, 0, (tp : Int))]⟩ (l ++ [(tx, 0)]) 0 = pPartsG T (g' + 1) s1 l1 n := by have h := HE.out; simpa using h
                have hN := NLoop.next ht HBD.out hm1 hni hg hTg hE2 HK'.out HP2.out HL2.out HK2.out HB2.out HR2.out HW3.out
                repeat apply Exists.intro
                refine and_back rfl ?_
                exact ⟨n + 1, _, by go_num, rfl, hN⟩
              case measure => simp [intOf]; omega
            | false =>
              by_cases h41 : k1 = 41
              · have hk41 : ((k1 : Int) != 41) = false := by rw [h41]; rfl
                go_wp2_with (first
                  | (go_at_call 15; refine (unhide CH').mono ?_; rintro e w3 ⟨rfl, hb3⟩; have hq3 := step_in (HP.out.below hb3) (own_below HL.out hb3 (Nat.le_refl _)) (HK.out.trans (.of_below hb3)); have HQ3 := hide hq3; have e1 := (HP.out.below hb3).box.c1; have e2 := (HP.out.below hb3).box.soft 1; clear hb3 hq3)
                  | go_in)
                go_meet
                case rel => exact ⟨n, rfl, NEnd.done HKT.out HTX.out.1 HTX.out.2 HW40.out HBD.out hn (by rw [HE.out, if_neg (by decide), if_pos (by rw [← ht.kind, HK1.out]; exact h41)]) HQ3.out.1 HQ3.out.2.1 HQ3.out.2.2⟩
              · have hk41 : ((k1 : Int) != 41) = true := by simp; omega
                go_wp2_with (first
                  | (go_at_call 15; refine (unhide CH').mono ?_; rintro e w3 ⟨rfl, hb3⟩; have CW3 := hide (rwrong_in (brk := brk) (HP.out.below hb3) (own_below HL.out hb3 (Nat.le_refl _)) (HK.out.trans (.of_below hb3))); clear hb3)
                  | (go_at_call 16; refine (unhide CW3).mono ?_; rintro e w4 ⟨rfl, hp4, hl4, hkp4⟩; have e1 := hp4.box.c1; have e2 := hp4.box.soft 1; have HQ4 := hide (step_in hp4 hl4 hkp4); clear hp4 hl4 hkp4)
                  | go_in)
                go_meet
                case rel => exact ⟨n, rfl, NEnd.err HKT.out HTX.out.1 HTX.out.2 HW40.out HBD.out hn (by rw [HE.out, if_neg (by decide), if_neg (by rw [← ht.kind, HK1.out]; exact h41)]) (ht.bad _ hi2) HQ4.out.1 HQ4.out.2.1 HQ4.out.2.2⟩
          · have HE := hide he
            clear he
            have hb0 : decide ((p : Int) < 0) = false := by simp
            cases m with
            | true =>
              go_wp2_with fail
              go_meet
              case rel => exact ⟨n, rfl, NEnd.err HKT.out HTX.out.1 HTX.out.2 HW40.out HBD.out hn HE.out rfl HP'.out HL'.out HK'.out⟩
            | false =>
              go_wp2_with fail
              go_meet
              case rel => exact ⟨n, rfl, NEnd.err HKT.out HTX.out.1 HTX.out.2 HW40.out HBD.out hn HE.out rfl HP'.out HL'.out HK'.out⟩
      · have hk40 : ((kk : Int) == 40) = false := by rw [beq_eq_false_iff_ne]; omega
        go_wp2_with fail
        go_meet
        case rel => exact ⟨0, rfl, NEnd.plain HKT.out HTX.out.1 HTX.out.2 (by rw [← ht.kind, HKK.out]; exact h40) hi HP5.out HL5.out HK5.out⟩
    case rest =>
      obtain ⟨n, rfl, hE⟩ := hcut
      obtain ⟨vP9, vV9, st9, bad9, l9, hP9, hl9, hk9, hn9, hb9, hr9⟩ := hE
      obtain ⟨g, c, q, qc9, rfl, rfl, c1, s1, c2, c3', s3, hP10, hl10, hk10⟩ := name_end hP9 hl9 hBB hk9 l.length st.places.length n (by omega) (by omega)
      have HP10 := hide hP10
      have HL10 := hide hl10
      have HK10 := hide hk10
      have HR9 := hide hr9
      have hll : (l.length : Int) < (l9.length : Int) := by omega
      have hpp : (st.places.length : Int) < (st9.places.length : Int) := by omega
      have hl0 : (0 : Int) ≤ (l.length : Int) := Int.natCast_nonneg _
      have hp0 : (0 : Int) ≤ (st.places.length : Int) := Int.natCast_nonneg _
      clear hP9 hl9 hk9 hP10 hl10 hk10 hr9 HP5 HL5 HK5
      go_wp2_with fail
      go_ret
      refine ⟨_, _, vV9, _, bad9, _, rfl, HP10.out, HL10.out, HK10.out, by simp [setN, setParts]; omega, ?_⟩
      have hr := HR9.out
      revert hr
      cases pTermG T (f + 1) atom st l with
      | error p => exact fun h => h
      | ok r => exact fun h => ⟨h.1, h.2.1.symm, h.2.2.symm⟩

/-- The contract of term at every fuel. -/
theorem termC_any {B pa : Nat} {brk : Int} {L T : List Tk} {vL vC vB : Value} (ht : TL L T brk) : ∀ f, TermC B pa brk L T vL vC vB f := by
  intro f
  induction f using Nat.strongRecOn with
  | _ f ih =>
    intro B' atom st vP vV vl l w h hl hBB hBw hi hT hf hl1 hp1 hv1
    obtain ⟨f', rfl⟩ : ∃ f', f = f' + 1 := ⟨f - 1, by omega⟩
    by_cases hk : (tkA T st.i).kind = 110
    · exact rpterm_name B B' pa brk atom st vL vP vC vB vV vl L T l w f' ht (fun g hg => ih g (by omega)) h hl hBB hBw hk hi hT hf hl1 hp1 hv1
    · exact termC_other ht B' atom st vP vV vl l w h hl hBB hBw hi hl1 hv1 hk

end Go.Proofs.Ytcpdadppblbndaa
