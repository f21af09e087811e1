/- The document's own answer: what more variables are, so that a term is another one. -/
import Derived.Test.YtjnddclkdofgdaaDoorRCov2
import Derived.Test.YtjnddclkdofgdaaDoorCaps
import Derived.Test.YtjnddclkdofgdaaDoorCMatch
import Derived.Lib.AppendZeros
namespace Go.Proofs.YtjnddclkdofgdaaDoor
open Go.RowKit Go.Shelf
set_option maxRecDepth 100000

/-- The list that match begins with. -/
theorem copy_bds {w : World} {P : List Bn} {lv : Value} (h : w.ownsRow 0 149 2 lv P.length (bdCells P)) (hA : ∀ p ∈ P, AtomAt w p.2 p.1.2) (hf : P.length ≤ 60) :
    ∃ v w', (Builtin.append_ #[132, 132] 132 #[.slice none 0 0, lv]).run Tryd.prog w = .ok v w' ∧ OutV w w' v P := by
  obtain ⟨iB, hB0, hB1, hB2, hB3⟩ := info_parts infoBound
  have h0 := World.ownsRow_nil w w.heap.size 149 2
  have h' := h
  obtain ⟨_, ⟨rfl, hn⟩ | ⟨g, cap, cur, rfl, hb, hh, hc, hm, hz, ht⟩⟩ := h'
  · have hP : P = [] := List.eq_nil_of_length_eq_zero hn
    subst hP
    exact ⟨_, w, run_append_owned_none w w.heap.size 132 132 149 iB 2 Tryd.underlying132 hB0 _ 0 [] h0, by simp, h0, Below.refl _ _⟩
  · obtain ⟨v, w', hr, ho, hg, _⟩ := run_append_own (P := Tryd.prog) w w.heap.size 132 132 149 iB (.agg #[.int .i64 0, .slice none 0 0]) 2 32 Tryd.underlying132 hB0 hB1 hB2 hB3 rfl (by decide) _ 0 [] h0 ⟨g, 0, none⟩ P.length cap (bdCells P) (bdCells_length P) (fun j u hu => h.cells rfl j u hu) (bdCells_one w P hA) (by unfold maxLen; omega) (by omega) (Nat.le_refl _)
    refine ⟨v, w', hr, hA, by simpa using ho, (Below.refl _ _).grown hg (Nat.le_refl _) fun k e => by simp [Value.ownBlock] at e⟩

theorem draw3 (w : World) (n m l : Nat) : ∃ k, ((w.drewN n).drewN m).drewN l = w.drewN k := by
  obtain ⟨k, h⟩ := draw2 w n m
  rw [h]
  exact draw2 w k l
theorem draw_more (w : World) (D x n : Nat) : ∃ k, (w.drewN (D + x)).drewN n = w.drewN (D + k) := ⟨x + n, by rw [World.drewN_drewN, Nat.add_assoc]⟩
/-- What match answers. -/
def MatchPost (w : World) (a b : List Nd) (L : Bd') (e : Ending) (w' : World) : Prop := ∃ (rv : Value) (r : Bool), e = .returned (.tuple #[rv, .bool r]) ∧ r = (matchGo a b L).isSome ∧ (∀ L', matchGo a b L = some L' → BdsV w' rv L') ∧ Below w.heap.size w w'

set_option maxHeartbeats 8000000 in
theorem rMatch_any (aa ba : Option Addr) (ac bc : Nat) (a b : List Nd) (lv : Value) (L : Bd') (w : World) (hA : NodesIn w aa a) (hB : NodesIn w ba b) (hbc : b.length ≤ bc) (ta : termGo a 1 = true) (tb : termGo b 1 = true) (a60 : a.length ≤ 60) (b60 : b.length ≤ 60) (hL : LOk L) (hV : BdsV w lv L) :
    Calls Tryd.prog 89 #[.slice aa a.length ac, .slice ba b.length bc, lv] w fun e w' => MatchPost w a b L e w' := by
  obtain ⟨iB, hB0, hB1, hB2, hB3⟩ := info_parts infoBound
  obtain ⟨P0, hP0, hA0, ho0⟩ := hV
  have hf0 : P0.length ≤ 60 := by have := hL.few; rw [← hP0] at this; simpa using this
  obtain ⟨v0, w0, hrun, hO0⟩ := copy_bds ho0 hA0 hf0
  have hRUN := hide hrun
  have HO0 := hide hO0
  have HP0 := hide hP0
  have HA' := hide hA
  have HB' := hide hB
  have HL0 := hide hL
  clear hrun hO0 hA hB ho0 hA0
  go_enter Tryd.func89, Tryd.ntmps89
  go_wp2_with (first
    | (at_builtin; refine Lib.wpList_append_run _ rfl _ _ _ _ rfl _ _ rfl rfl _ _ (unhide hRUN) ?_)
    | go_in)
  clear hRUN
  go_loopw [8, 9, 10] (fun o t i wr => ∃ (k j q : Nat) (P : List Bn), k ≤ a.length ∧ j ≤ b.length ∧ i = .int .i64 k ∧ t = .int .i64 j ∧ OutV w wr o P ∧ LOk (P.map Prod.fst) ∧ termGo (a.drop k) q = true ∧ termGo (b.drop j) q = true ∧ matchGo a b L = matchGo (a.drop k) (b.drop j) (P.map Prod.fst)) (fun _ _ i _ => a.length - (intOf i).toNat)
  case atStart => exact ⟨0, 0, 1, P0, Nat.zero_le _, Nat.zero_le _, rfl, rfl, HO0.out, by rw [HP0.out]; exact HL0.out, ta, tb, by rw [HP0.out]; rfl⟩
  case round =>
    obtain ⟨k, j, q, P, hk, hj, rfl, rfl, hO, hLO, hta, htb, hmg⟩ := hrel
    have hPf : P.length ≤ 60 := by have := hLO.few; simpa using this
    by_cases hlt : k < a.length
    · obtain ⟨q, rfl⟩ : ∃ q', q = q' + 1 := by
        cases q with
        | zero => rw [termGo_zero a k hlt] at hta; simp at hta
        | succ q => exact ⟨q, rfl⟩
      have hjl : j < b.length := term_left htb
      have hjli : (j : Int) < (b.length : Int) := by omega
      have hlti : (k : Int) < (a.length : Int) := by omega
      obtain ⟨b1, o1, rfl, e10, f10⟩ := HA'.out.cell k hlt
      obtain ⟨b2, o2, rfl, e20, f20⟩ := HB'.out.cell j hjl
      have hb := hO.2.2
      have e1 := Below.at' hb (Nat.le_refl _) e10
      have f1 := Below.at' hb (Nat.le_refl _) f10
      have e2 := Below.at' hb (Nat.le_refl _) e20
      have f2 := Below.at' hb (Nat.le_refl _) f20
      have HLB : Hid (b1 < w.heap.size) := hide (World.block_lt_of_cell? w _ f10)
      have hkn := fun t => match_at_known a b k j (P.map Prod.fst) t hlt
      have hnw := match_at_new a b k j (P.map Prod.fst) hlt
      have hnm := match_at_name a b k j (P.map Prod.fst) hlt hjl
      rw [termGo_step a k q hlt, Bool.and_eq_true] at hta
      obtain ⟨hok, hta⟩ := hta
      have htb1 : termGo (b.drop j) (1 + q) = true := by rw [← htb]; congr 1; omega
      have hsp := term_split (b.drop j) 1 q htb1
      have htb2 := htb
      rw [termGo_step b j q hjl, Bool.and_eq_true] at htb2
      generalize a[k] = nd at *
      obtain ⟨s, x⟩ := nd
      simp only at e1 f1 hkn hnw
      have HO := hide hO
      have HLO := hide hLO
      clear hO hLO e10 f10 e20 f20 htb
      by_cases hv : s.toList.isEmpty = true
      · have hx := nodeOk_var hok hv
        obtain ⟨hx0, hx1⟩ := hx
        simp only at hx0 hx1
        obtain ⟨je, hje⟩ : ∃ je, je = j + endGo (b.drop j) 1 := ⟨_, rfl⟩
        have hel := endGo_le (b.drop j) 1
        have hep := endGo_pos (b.drop j) 0 (by intro h; have := congrArg List.length h; simp at this; omega)
        simp at hel hep
        have hj1 : j < je := by omega
        have hj2 : je ≤ b.length := by omega
        have hlen : ((b.drop j).take (endGo (b.drop j) 1)).length = je - j := by simp; omega
        have hj3 : (j : Int) ≤ (je : Int) := by omega
        have hj4 : (je : Int) ≤ (bc : Int) := by omega
        have hj5 : ¬ bc = j := by omega
        have hj6 : (0 : Int) ≤ (j : Int) := by omega
        have HLEN := hide hlen
        have hbsub := HB'.out.sub j (endGo (b.drop j) 1)
        have HAT : Hid (AtomAt w (.slice (some ⟨b2, o2 + j * 2, none⟩) (je - j) (bc - j)) ((b.drop j).take (endGo (b.drop j) 1))) := hide ⟨_, bc - j, by rw [hlen], hbsub⟩
        have CE := hide (fun wx (hw : NodesIn wx (some ⟨b2, o2, none⟩) b) => by have := behind_any (some ⟨b2, o2, none⟩) bc b j q wx hw b60 htb1 hj; rw [← hje] at this; exact this)
        have HTA : Hid (termGo (a.drop (k + 1)) q = true) := hide (by rw [wants_var (n := (s, x)) hv] at hta; exact hta)
        have HTB2 : Hid (termGo (b.drop je) q = true) := hide (by have := hsp.2; rw [List.drop_drop, ← hje] at this; exact this)
        have HBSW := hide (fun wx (hb : Below w.heap.size w wx) => hbsub.below hb (Nat.le_refl _))
        cases hl : look (P.map Prod.fst) x with
        | none =>
          have HR : Hid (matchGo a b L = matchGo (a.drop (k + 1)) (b.drop je) (P.map Prod.fst ++ [(x, (b.drop j).take (endGo (b.drop j) 1))])) := hide (by rw [hmg, hnw hv hl, hje])
          have HK := hide (keyB_none hl)
          have HLN := hide (HLO.out.snoc hl hx0 hx1 hsp.1 (by rw [hlen]; omega))
          clear hmg hkn hnw hnm hta htb1 hsp htb2 hok hje hel hep hlen hl hbsub
          go_wp2_with (go_at_call 108; refine (unhide CE _ (HB'.out.below hb (Nat.le_refl _))).mono ?_; rintro e w1 ⟨rfl, hb1⟩; have HB1 := hide hb1; have f11 := Below.at' hb1 (Nat.le_refl _) f1; clear hb1)
          have hO1 := HO.out.below HB1.out
          obtain ⟨oa, ocap, rfl, hoc⟩ := own_bds hO1.2.1
          have HO1 := hide hO1
          have HOC := hide hoc
          clear hO1 hoc
          go_loopw [12, 13] (fun kn n wi => ∃ m : Nat, m ≤ P.length ∧ n = .int .i64 m ∧ kn = .bool false ∧ (∃ dd, wi = w1.drewN dd)) (fun _ n _ => P.length - (intOf n).toNat)
          case atStart => exact ⟨0, Nat.zero_le _, rfl, rfl, ⟨0, rfl⟩⟩
          case round =>
            obtain ⟨m, hm, rfl, rfl, ⟨dd, rfl⟩⟩ := hrel
            by_cases hml : m < P.length
            · obtain ⟨g, rfl, c1, c2⟩ := HOC.out m hml
              have hmi : (m : Int) < (P.length : Int) := by omega
              have hke : (P[m].1.1 == x) = false := by rw [beq_eq_false_iff_ne]; exact HK.out m hml
              go_wp2
              go_quiet (fail)
              go_wp2
              go_roundw
              case rel => exact ⟨m + 1, by omega, by go_num, rfl, (by first | exact ⟨_, rfl⟩ | exact draw2 _ _ _ | exact draw3 _ _ _ _)⟩
              case measure => simp [intOf]; omega
            · have hml' : ¬ (m : Int) < (P.length : Int) := by omega
              have hOD := hide (HO1.out.below (below_drawn ⟨dd, rfl⟩))
              have f12 : (w1.drewN dd).cell? ⟨b1, o1 + k * 2 + 1, none⟩ = some (.int .i64 x) := f11
              have ho2 := hOD.out.2.1
              have hsz := hOD.out.2.2.size
              have l1 : b1 < (w1.drewN dd).heap.size := World.block_lt_of_cell? _ _ f12
              have l2 := HLB.out
              generalize hWD : w1.drewN dd = WD at *
              clear hWD
              have ag : (Value.slice oa P.length ocap).ownBlock ≠ some b1 := fun e => by have := (own_lt ho2 _ e).1; omega
              go_wp2_with fail
              go_region_held3 (fun w' => w'.cell? ⟨b1, o1 + k * 2 + 1, none⟩ = some (.int .i64 x))
                (first
                  | go_keep
                  | (rw [hgrow.cell_far _ (by simp; omega) (Ne.symm ag)]; assumption)
                  | (simp; rw [hgrow.cell_far _ (by simp; omega) (Ne.symm ag)]; assumption))
                ((refine step_append_lies _ (by rfl) _ _ _ (by rfl) w.heap.size 149 iB _ 2 32 Tryd.underlying132 hB0 hB1 hB2 hB3 rfl (by omega) (.slice oa P.length ocap) P.length (bdCells P) (by rfl) ((ho2.alloc _).drew)
                    ⟨WD.heap.size, 0, none⟩ 1 1 [.int .i64 x, .slice (some ⟨b2, o2 + j * 2, none⟩) (je - j) (bc - j)] (by rfl) (by rfl) (World.news_of_block (cs := #[.int .i64 x, .slice (some ⟨b2, o2 + j * 2, none⟩) (je - j) (bc - j)]) (t := 149) (fr := (0, 0)) (heap_alloc_new WD _)) (by simp [Value.oneCell'])
                    (by omega) (by unfold maxLen; omega) (by omega) (by simp; omega) (WD.heap.size + 1) (by simp) ?_; intro gg cap w3 hown1 hgrow hat hlt3))
              have HN := hide (OutV.more (x := (x, (b.drop j).take (endGo (b.drop j) 1))) ((hOD.out.below ((Below.refl _ _).alloc (Nat.le_refl _) _)).below (below_drawn ⟨1, rfl⟩)) HAT.out hown1 hgrow)
              clear hown1 hgrow hat ho2
              go_wp2
              go_roundw
              case rel => exact ⟨k + 1, je, q, P ++ [((x, (b.drop j).take (endGo (b.drop j) 1)), .slice (some ⟨b2, o2 + j * 2, none⟩) (je - j) (bc - j))], by omega, hj2, by go_num, rfl, HN.out, by rw [List.map_append]; exact HLN.out, HTA.out, HTB2.out, by rw [List.map_append]; exact HR.out⟩
              case measure => simp [intOf]; omega
        | some t' =>
          have HK := hide (keyB_some HLO.out hl)
          by_cases hte : t' = (b.drop j).take (endGo (b.drop j) 1)
          · have HTE := hide hte
            have HR : Hid (matchGo a b L = matchGo (a.drop (k + 1)) (b.drop je) (P.map Prod.fst)) := hide (by rw [hmg, hkn t' hv hl, if_pos hte, hje])
            clear hmg hkn hnw hnm hta htb1 hsp htb2 hok hje hel hep hlen hl hbsub hte
            go_wp2_with (go_at_call 108; refine (unhide CE _ (HB'.out.below hb (Nat.le_refl _))).mono ?_; rintro e w1 ⟨rfl, hb1⟩; have HB1 := hide hb1; have f11 := Below.at' hb1 (Nat.le_refl _) f1; clear hb1)
            have hO1 := HO.out.below HB1.out
            obtain ⟨oa, ocap, rfl, hoc⟩ := own_bds hO1.2.1
            have HO1 := hide hO1
            have HOC := hide hoc
            clear hO1 hoc
            have HBS := hide (HBSW.out _ HO1.out.2.2)
            go_loopw [12, 13] (fun kn n wi => ∃ m : Nat, m ≤ P.length ∧ n = .int .i64 m ∧ kn = .bool (keyB x (P.take m)) ∧ (∃ dd, wi = w1.drewN dd)) (fun _ n _ => P.length - (intOf n).toNat)
            case atStart => exact ⟨0, Nat.zero_le _, rfl, rfl, ⟨0, rfl⟩⟩
            case round =>
              obtain ⟨m, hm, rfl, rfl, ⟨dd, rfl⟩⟩ := hrel
              by_cases hml : m < P.length
              · obtain ⟨g, rfl, c1, c2⟩ := HOC.out m hml
                have hmi : (m : Int) < (P.length : Int) := by omega
                have hkt := keyB_take x P m hml
                by_cases hke0 : P[m].1.1 = x
                · have hke : (P[m].1.1 == x) = true := by rw [beq_iff_eq]; exact hke0
                  have htm := HK.out.2 m hml hke0
                  obtain ⟨pa, pcp, hpv, hpn⟩ := HO1.out.1 P[m] (List.getElem_mem _)
                  rw [hpv] at c2
                  have hpn1 := hpn.below HO1.out.2.2 (Nat.le_refl _)
                  have CS := hide (fun wx (hx : ∃ dq, wx = w1.drewN dq) => sameNodes_any pa (some ⟨b2, o2 + j * 2, none⟩) pcp (bc - j) P[m].1.2 ((b.drop j).take (endGo (b.drop j) 1)) wx (hpn1.drawn hx) (HBS.out.drawn hx))
                  rw [HLEN.out] at CS
                  rw [decide_eq_true hke0, Bool.or_true] at hkt
                  have HKT := hide hkt
                  rw [htm] at CS
                  rw [htm] at c2
                  clear hkt hpv hpn hpn1
                  rw [decide_eq_true HTE.out] at CS
                  clear hke0 htm
                  go_wp2
                  go_quiet (fail)
                  go_wp2
                  go_quiet ((go_at_call 20; refine (unhide CS _ ⟨_, rfl⟩).mono ?_; rintro e w5 ⟨rfl, n5, rfl⟩; exact ⟨rfl, draw_more _ _ _ _⟩))
                  go_wp2
                  go_roundw
                  case rel => exact ⟨m + 1, by omega, by go_num, by rw [HKT.out], (by first | exact ⟨_, rfl⟩ | exact draw2 _ _ _ | exact draw3 _ _ _ _)⟩
                  case measure => simp [intOf]; omega
                · have hke : (P[m].1.1 == x) = false := by rw [beq_eq_false_iff_ne]; exact hke0
                  rw [decide_eq_false hke0, Bool.or_false] at hkt
                  have HKT := hide hkt
                  clear hkt hke0
                  go_wp2
                  go_quiet (fail)
                  go_wp2
                  go_roundw
                  case rel => exact ⟨m + 1, by omega, by go_num, by rw [HKT.out], (by first | exact ⟨_, rfl⟩ | exact draw2 _ _ _ | exact draw3 _ _ _ _)⟩
                  case measure => simp [intOf]; omega
              · have hpm : P.take m = P := List.take_of_length_le (by omega)
                rw [hpm, HK.out.1]
                clear hpm
                have hml' : ¬ (m : Int) < (P.length : Int) := by omega
                go_wp2
                go_roundw
                case rel => exact ⟨k + 1, je, q, P, by omega, hj2, by go_num, rfl, HO1.out.below (below_drawn (by first | exact ⟨_, rfl⟩ | exact draw2 _ _ _ | exact draw3 _ _ _ _)), HLO.out, HTA.out, HTB2.out, HR.out⟩
                case measure => simp [intOf]; omega
          · have HTE := hide hte
            have HR : Hid (matchGo a b L = none) := hide (by rw [hmg, hkn t' hv hl, if_neg hte])
            clear hmg hkn hnw hnm hta htb1 hsp htb2 hok hje hel hep hlen hl hbsub hte
            go_wp2_with (go_at_call 108; refine (unhide CE _ (HB'.out.below hb (Nat.le_refl _))).mono ?_; rintro e w1 ⟨rfl, hb1⟩; have HB1 := hide hb1; have f11 := Below.at' hb1 (Nat.le_refl _) f1; clear hb1)
            have hO1 := HO.out.below HB1.out
            obtain ⟨oa, ocap, rfl, hoc⟩ := own_bds hO1.2.1
            have HO1 := hide hO1
            have HOC := hide hoc
            clear hO1 hoc
            have HBS := hide (HBSW.out _ HO1.out.2.2)
            go_loopw [12, 13] (fun kn n wi => ∃ m : Nat, m ≤ P.length ∧ n = .int .i64 m ∧ kn = .bool false ∧ keyB x (P.take m) = false ∧ (∃ dd, wi = w1.drewN dd)) (fun _ n _ => P.length - (intOf n).toNat)
            case atStart => exact ⟨0, Nat.zero_le _, rfl, rfl, rfl, ⟨0, rfl⟩⟩
            case round =>
              obtain ⟨m, hm, rfl, rfl, hkb, ⟨dd, rfl⟩⟩ := hrel
              by_cases hml : m < P.length
              · obtain ⟨g, rfl, c1, c2⟩ := HOC.out m hml
                have hmi : (m : Int) < (P.length : Int) := by omega
                have hkt := keyB_take x P m hml
                by_cases hke0 : P[m].1.1 = x
                · have hke : (P[m].1.1 == x) = true := by rw [beq_iff_eq]; exact hke0
                  have htm := HK.out.2 m hml hke0
                  obtain ⟨pa, pcp, hpv, hpn⟩ := HO1.out.1 P[m] (List.getElem_mem _)
                  rw [hpv] at c2
                  have hpn1 := hpn.below HO1.out.2.2 (Nat.le_refl _)
                  have CS := hide (fun wx (hx : ∃ dq, wx = w1.drewN dq) => sameNodes_any pa (some ⟨b2, o2 + j * 2, none⟩) pcp (bc - j) P[m].1.2 ((b.drop j).take (endGo (b.drop j) 1)) wx (hpn1.drawn hx) (HBS.out.drawn hx))
                  rw [HLEN.out] at CS
                  rw [decide_eq_true hke0, Bool.or_true] at hkt
                  have HKT := hide hkt
                  rw [htm] at CS
                  rw [htm] at c2
                  clear hkt hpv hpn hpn1
                  rw [decide_eq_false HTE.out] at CS
                  clear hke0 htm
                  go_wp2
                  go_quiet (fail)
                  go_wp2
                  go_quiet ((go_at_call 20; refine (unhide CS _ ⟨_, rfl⟩).mono ?_; rintro e w5 ⟨rfl, n5, rfl⟩; exact ⟨rfl, draw_more _ _ _ _⟩))
                  go_wp2
                  go_ret2
                  exact ⟨_, false, ret_two rfl rfl, by rw [HR.out]; rfl, (fun L' h => by rw [HR.out] at h; simp at h), HO1.out.2.2.trans ((below_drawn (by first | exact ⟨_, rfl⟩ | exact draw2 _ _ _ | exact draw3 _ _ _ _)).mono HO1.out.2.2.size)⟩
                · have hke : (P[m].1.1 == x) = false := by rw [beq_eq_false_iff_ne]; exact hke0
                  rw [decide_eq_false hke0, Bool.or_false] at hkt
                  have HKT := hide hkt
                  have HKB := hide hkb
                  clear hkb
                  clear hkt hke0
                  go_wp2
                  go_quiet (fail)
                  go_wp2
                  go_roundw
                  case rel => exact ⟨m + 1, by omega, by go_num, rfl, by rw [HKT.out]; exact HKB.out, (by first | exact ⟨_, rfl⟩ | exact draw2 _ _ _ | exact draw3 _ _ _ _)⟩
                  case measure => simp [intOf]; omega
              · exfalso
                have hpm : P.take m = P := List.take_of_length_le (by omega)
                rw [hpm, HK.out.1] at hkb
                simp at hkb
      · have hv' : s.toList.isEmpty = false := by simpa using hv
        have hvb : varB (s, x) = false := hv'
        have g := guard27
        have hq := eqNode s b[j].1 x b[j].2
        have hnb := nodeB_eq (s, x) b[j]
        simp only at hnb
        by_cases he : (s, x) = b[j]
        · rw [decide_eq_true he] at hnb
          have HR : Hid (matchGo a b L = matchGo (a.drop (k + 1)) (b.drop (j + 1)) (P.map Prod.fst)) := hide (by rw [hmg, hnm hvb, if_pos he])
          have HTA := hide hta
          have HTB : Hid (termGo (b.drop (j + 1)) (q + wants (s, x)) = true) := hide (by rw [he]; exact htb2.2)
          clear hmg hkn hnw hnm hta htb1 hsp htb2 hok he hv hvb
          go_wp2
          go_quiet (fail)
          go_wp2
          go_roundw
          case rel => exact ⟨k + 1, j + 1, q + wants (s, x), P, by omega, by omega, by go_num, by go_num, HO.out.below (below_drawn (by first | exact ⟨_, rfl⟩ | exact draw2 _ _ _ | exact draw3 _ _ _ _)), HLO.out, HTA.out, HTB.out, HR.out⟩
          case measure => simp [intOf]; omega
        · rw [decide_eq_false he] at hnb
          have HR : Hid (matchGo a b L = none) := hide (by rw [hmg, hnm hvb, if_neg he])
          clear hmg hkn hnw hnm hta htb1 hsp htb2 hok he hv hvb
          go_wp2
          go_quiet (fail)
          go_wp2
          go_ret2
          exact ⟨_, false, ret_two rfl rfl, by rw [HR.out]; rfl, (fun L' h => by rw [HR.out] at h; simp at h), HO.out.2.2.trans ((below_drawn (by first | exact ⟨_, rfl⟩ | exact draw2 _ _ _ | exact draw3 _ _ _ _)).mono HO.out.2.2.size)⟩
    · have hke : a.drop k = [] := List.drop_eq_nil_of_le (by omega)
      rw [hke] at hta hmg
      have hq0 : q = 0 := by simpa [termGo] using hta
      subst hq0
      have hje := term_done hj htb
      have HR : Hid (matchGo a b L = some (P.map Prod.fst)) := hide (by rw [hmg, match_end b j (P.map Prod.fst) hje])
      have HO := hide hO
      have hjb : ((j : Int) == (b.length : Int)) = true := by rw [beq_iff_eq]; omega
      have hlti : ¬ (k : Int) < (a.length : Int) := by omega
      clear hO hke hta hmg htb hje
      go_wp2
      go_ret2
      exact ⟨_, true, ret_two rfl rfl, by rw [HR.out]; rfl, (fun L' h => by rw [HR.out] at h; simp at h; rw [← h]; exact HO.out.bds), HO.out.2.2⟩

end Go.Proofs.YtjnddclkdofgdaaDoor
