/- The document: the tokens of a text. -/
import Derived.Test.YtcpdadppblbndaaSTok0M
import Derived.Test.YtcpdadppblbndaaRRenM
namespace Go.Proofs.Ytcpdadppblbndaa
open Go.RowKit
set_option maxRecDepth 100000

theorem small_no {c : Int} (h : c < 97 ∨ 122 < c) : smallB c = false := by unfold smallB; simp; omega
theorem large_no {c : Int} (h : c < 65 ∨ 90 < c) : largeB c = false := by unfold largeB; simp; omega

/-- What tokens answers. -/
def TokR (w : World) (r : List Tk × Option Nat) (e : Ending) (w' : World) : Prop :=
  ∃ v, e = .returned (.tuple #[v, .int .i64 (optI r.2)]) ∧ w'.ownsRow w.heap.size 58 3 v r.1.length (tokCells r.1) ∧ Kept w.heap.size 58 w w'

set_option maxHeartbeats 4000000 in
theorem rtokens_any (s : ByteArray) (w : World) (hs : s.size ≤ 1000000) :
    Calls Try.prog 14 #[.string s] w fun e w' => TokR w (toksGo s (s.size + 1) 0) e w' := by
  obtain ⟨iT, hT, hT0, hT1, hT2⟩ := info_parts infoTok
  go_enter Try.func14, Try.ntmps14
  go_wp2
  go_loopw [4, 5] (fun o q wr => ∃ (k f : Nat) (l : List Tk), k ≤ s.size ∧ q = .int .i64 k ∧ l.length ≤ k ∧ s.size < k + f ∧ toksGo s (s.size + 1) 0 = Toks s l f k ∧
      wr.ownsRow w.heap.size 58 3 o l.length (tokCells l) ∧ Kept w.heap.size 58 w wr) (fun _ q _ => s.size - (intOf q).toNat)
  case atStart => exact ⟨0, s.size + 1, [], Nat.zero_le _, rfl, Nat.zero_le _, by omega, by simp [Toks], World.ownsRow_nil _ _ _ _, Kept.refl _ _ _⟩
  case round =>
    obtain ⟨k, f, l, hk, rfl, hl, hf, hq, ho, hkp⟩ := hrel
    obtain ⟨f, rfl⟩ : ∃ g, f = g + 1 := ⟨f - 1, by omega⟩
    have HK := hide hkp
    have hks := hkp.size
    clear hkp
    by_cases hlt : k < s.size
    · have hlti : (k : Int) < (s.size : Int) := by omega
      have hb := byteD_lt s k hlt
      have cS := small_any ((s[k]'hlt).toNat : Int) wr
      have cL := large_any ((s[k]'hlt).toNat : Int) wr
      by_cases hg : gapN (byteD s k) = true
      · have HQ := hide (hq.trans (toks_gap hlt hg))
        have HO := hide ho
        have hg' : byteD s k = 32 ∨ byteD s k = 9 ∨ byteD s k = 10 := by unfold gapN at hg; simp at hg; omega
        have hsm : smallB ((s[k]'hlt).toNat : Int) = false := small_no (by omega)
        have hlg : largeB ((s[k]'hlt).toNat : Int) = false := large_no (by omega)
        have hcc : (((s[k]'hlt).toNat : Int) == 32) = true ∨ (((s[k]'hlt).toNat : Int) == 32) = false ∧ (((s[k]'hlt).toNat : Int) == 9) = true ∨ (((s[k]'hlt).toNat : Int) == 32) = false ∧ (((s[k]'hlt).toNat : Int) == 9) = false ∧ (((s[k]'hlt).toNat : Int) == 10) = true := by
          simp only [beq_iff_eq, beq_eq_false_iff_ne]; omega
        rw [hsm] at cS
        rw [hlg] at cL
        clear hq ho hg hg' hsm hlg hb
        rcases hcc with hcc | ⟨hcc, hcc2⟩ | ⟨hcc, hcc2, hcc3⟩
        all_goals
          go_wp2_with (first
            | (go_at_call 27; refine cS.mono ?_; rintro e w' ⟨rfl, rfl⟩)
            | (go_at_call 28; refine cL.mono ?_; rintro e w' ⟨rfl, rfl⟩))
          go_roundw
          case rel => exact ⟨k + 1, f, l, by omega, by go_num, by omega, by omega, HQ.out, HO.out, HK.out⟩
          case measure => simp [intOf]; omega
      · have hg0 : gapN (byteD s k) = false := by simpa using hg
        have hne : byteD s k ≠ 32 ∧ byteD s k ≠ 9 ∧ byteD s k ≠ 10 := by unfold gapN at hg0; simp at hg0; omega
        have c32 : (((s[k]'hlt).toNat : Int) == 32) = false := by rw [beq_eq_false_iff_ne]; omega
        have c9 : (((s[k]'hlt).toNat : Int) == 9) = false := by rw [beq_eq_false_iff_ne]; omega
        have c10 : (((s[k]'hlt).toNat : Int) == 10) = false := by rw [beq_eq_false_iff_ne]; omega
        clear hg hne
        by_cases h37 : byteD s k = 37
        · have HQ := hide (hq.trans (toks_line hlt h37))
          have HO := hide ho
          have hsm : smallB ((s[k]'hlt).toNat : Int) = false := small_no (by omega)
          have hlg : largeB ((s[k]'hlt).toNat : Int) = false := large_no (by omega)
          have c37 : (((s[k]'hlt).toNat : Int) == 37) = true := by rw [beq_iff_eq]; omega
          have hgt := lineP_gt hlt h37
          have hle := lineP_le (Nat.le_of_lt hlt)
          rw [hsm] at cS
          rw [hlg] at cL
          clear hq ho hg0 hsm hlg hb h37
          go_wp2_with (first
            | (go_at_call 27; refine cS.mono ?_; rintro e w' ⟨rfl, rfl⟩)
            | (go_at_call 28; refine cL.mono ?_; rintro e w' ⟨rfl, rfl⟩))
          go_loop [5] (fun q => ∃ m : Nat, m ≤ s.size ∧ q = .int .i64 m ∧ lineP s m = lineP s k) (fun q => s.size - (intOf q).toNat)
          case atStart => exact ⟨k, hk, rfl, rfl⟩
          case round =>
            obtain ⟨m, hm, rfl, hr⟩ := hrel
            have HR := hide hr
            clear hr
            by_cases hmt : m < s.size
            · have hmti : (m : Int) < (s.size : Int) := by omega
              have hbm := byteD_lt s m hmt
              by_cases h10 : byteD s m = 10
              · have hc : (((s[m]'hmt).toNat : Int) != 10) = false := by simp; omega
                have HE := hide (HR.out.symm.trans (lineP_off (fun h => h.2 h10)))
                clear HR hbm h10
                go_wp2
                go_roundw
                case rel => exact ⟨m, f, l, by omega, rfl, by have := HE.out; omega, by have := HE.out; omega, by rw [HQ.out, HE.out], HO.out, HK.out⟩
                case measure => have := HE.out; simp [intOf]; omega
              · have hc : (((s[m]'hmt).toNat : Int) != 10) = true := by simp; omega
                have HE := hide (HR.out.symm.trans (lineP_on hmt h10))
                clear HR hbm h10
                go_wp2
                go_round
                case rel => exact ⟨m + 1, by omega, by go_num, HE.out.symm⟩
                case measure => simp [intOf]; omega
            · have hmti : ¬ (m : Int) < (s.size : Int) := by omega
              have HE := hide (HR.out.symm.trans (lineP_off (fun h => hmt h.1)))
              clear HR
              go_wp2
              go_roundw
              case rel => exact ⟨m, f, l, by omega, rfl, by have := HE.out; omega, by have := HE.out; omega, by rw [HQ.out, HE.out], HO.out, HK.out⟩
              case measure => have := HE.out; simp [intOf]; omega
        · have c37 : (((s[k]'hlt).toNat : Int) == 37) = false := by rw [beq_eq_false_iff_ne]; omega
          have HT : Hid (∀ t e, tokAt s k = .tok t e → Toks s l (f + 1) k = Toks s (l ++ [t]) f e) := hide (fun t e h => toks_tok hlt hg0 h37 h)
          have HB : Hid (∀ p, tokAt s k = .bad p → Toks s l (f + 1) k = (l, some k)) := hide (fun p h => toks_bad hlt hg0 h37 h)
          have HQ0 := hide hq
          clear hq hg0 h37
          by_cases hlet : (smallB (byteD s k) || largeB (byteD s k)) = true
          · have HA := hide (tokAt_word hlet)
            have cR := rrun_any s k wr hs hk
            have hgt := runP_gt hlt hlet
            have hle := runP_le (s := s) hk
            generalize runP s k = e at *
            by_cases hlg : largeB (byteD s k) = true
            · have hsm : smallB (byteD s k) = false := by unfold largeB at hlg; unfold smallB; simp at hlg ⊢; omega
              rw [hlg] at HA
              rw [hb] at hlg hsm
              rw [hsm] at cS
              rw [hlg] at cL
              clear hlet hsm hlg hb
              by_cases h20 : e - k > 20
              · have HQ := hide (HQ0.out.trans (HB.out k (by rw [HA.out, if_pos h20])))
                have h20i : (20 : Int) < (e : Int) - (k : Int) := by omega
                have HO := hide ho
                clear HQ0 HB HT HA ho
                go_wp2_with (first
                  | (go_at_call 27; refine cS.mono ?_; rintro e w' ⟨rfl, rfl⟩)
                  | (go_at_call 28; refine cL.mono ?_; rintro e w' ⟨rfl, rfl⟩)
                  | (go_at_call 29; refine cR.mono ?_; rintro e w' ⟨rfl, rfl⟩))
                go_ret2
                exact ⟨_, by rw [HQ.out]; rfl, by rw [HQ.out]; exact HO.out, HK.out⟩
              · have HQ := hide (HQ0.out.trans (HT.out ⟨118, s.extract k e, k⟩ e (by rw [HA.out, if_neg h20]; rfl)))
                have h20i : ¬ (20 : Int) < (e : Int) - (k : Int) := by omega
                clear HQ0 HB HT HA
                go_wp2_with (first
                  | (go_at_call 27; refine cS.mono ?_; rintro e w' ⟨rfl, rfl⟩)
                  | (go_at_call 28; refine cL.mono ?_; rintro e w' ⟨rfl, rfl⟩)
                  | (go_at_call 29; refine cR.mono ?_; rintro e w' ⟨rfl, rfl⟩)
                  | (at_builtin; refine wpList_append_own _ rfl (.tmp 78) (.tmp 80) 50 rfl w.heap.size 58 iT (.agg #[.int .u8 0, .string ⟨#[]⟩, .int .i64 0]) 3 32 Try.underlying50 hT hT0 hT1 hT2 rfl (by decide) _ _ _ rfl ((ho.alloc _).alloc _) ⟨_, 0, none⟩ 1 1 [.int .u8 118, .string (s.extract k e), .int .i64 k] rfl rfl ?x1 ?x2 ?x3 ?x4 ?x5 ?_)
                  | go_in)
                try case x1 => exact new3 _ _ _ _ _ _ (by simp)
                case x2 => first | exact oneT _ _ _ | exact ⟨rfl, rfl, rfl⟩
                case x3 => unfold maxLen; omega
                case x4 => omega
                case x5 => first | omega | (simp; omega)
                intro v' w1 ho' hg' _
                have R := tok_out ⟨118, s.extract k e, k⟩ ((ho.alloc _).alloc _) ((HK.out.alloc _).alloc _) ho' hg'
                clear ho' hg' ho
                go_wp2
                go_roundw
                case rel => exact ⟨e, f, l ++ [⟨118, s.extract k e, k⟩], by omega, by first | rfl | go_num, by simp; omega, by omega, HQ.out, R.1, R.2⟩
                case measure => simp [intOf]; omega
            · have hlg0 : largeB (byteD s k) = false := by simpa using hlg
              have hsm : smallB (byteD s k) = true := by rw [hlg0] at hlet; simpa using hlet
              rw [hlg0] at HA
              rw [hb] at hlg0 hsm
              rw [hsm] at cS
              rw [hlg0] at cL
              clear hlet hsm hlg hlg0 hb
              by_cases h20 : e - k > 20
              · have HQ := hide (HQ0.out.trans (HB.out k (by rw [HA.out, if_pos h20])))
                have h20i : (20 : Int) < (e : Int) - (k : Int) := by omega
                have HO := hide ho
                clear HQ0 HB HT HA ho
                go_wp2_with (first
                  | (go_at_call 27; refine cS.mono ?_; rintro e w' ⟨rfl, rfl⟩)
                  | (go_at_call 28; refine cL.mono ?_; rintro e w' ⟨rfl, rfl⟩)
                  | (go_at_call 29; refine cR.mono ?_; rintro e w' ⟨rfl, rfl⟩))
                go_ret2
                exact ⟨_, by rw [HQ.out]; rfl, by rw [HQ.out]; exact HO.out, HK.out⟩
              · have HQ := hide (HQ0.out.trans (HT.out ⟨110, s.extract k e, k⟩ e (by rw [HA.out, if_neg h20]; rfl)))
                have h20i : ¬ (20 : Int) < (e : Int) - (k : Int) := by omega
                clear HQ0 HB HT HA
                go_wp2_with (first
                  | (go_at_call 27; refine cS.mono ?_; rintro e w' ⟨rfl, rfl⟩)
                  | (go_at_call 28; refine cL.mono ?_; rintro e w' ⟨rfl, rfl⟩)
                  | (go_at_call 29; refine cR.mono ?_; rintro e w' ⟨rfl, rfl⟩)
                  | (at_builtin; refine wpList_append_own _ rfl (.tmp 78) (.tmp 80) 50 rfl w.heap.size 58 iT (.agg #[.int .u8 0, .string ⟨#[]⟩, .int .i64 0]) 3 32 Try.underlying50 hT hT0 hT1 hT2 rfl (by decide) _ _ _ rfl ((ho.alloc _).alloc _) ⟨_, 0, none⟩ 1 1 [.int .u8 110, .string (s.extract k e), .int .i64 k] rfl rfl ?y1 ?y2 ?y3 ?y4 ?y5 ?_)
                  | go_in)
                try case y1 => exact new3 _ _ _ _ _ _ (by simp)
                case y2 => first | exact oneT _ _ _ | exact ⟨rfl, rfl, rfl⟩
                case y3 => unfold maxLen; omega
                case y4 => omega
                case y5 => first | omega | (simp; omega)
                intro v' w1 ho' hg' _
                have R := tok_out ⟨110, s.extract k e, k⟩ ((ho.alloc _).alloc _) ((HK.out.alloc _).alloc _) ho' hg'
                clear ho' hg' ho
                go_wp2
                go_roundw
                case rel => exact ⟨e, f, l ++ [⟨110, s.extract k e, k⟩], by omega, by first | rfl | go_num, by simp; omega, by omega, HQ.out, R.1, R.2⟩
                case measure => simp [intOf]; omega
          · have hlet0 : (smallB (byteD s k) || largeB (byteD s k)) = false := by simpa using hlet
            have hsm : smallB ((s[k]'hlt).toNat : Int) = false := by rw [hb] at hlet0; exact (Bool.or_eq_false_iff.1 hlet0).1
            have hlg : largeB ((s[k]'hlt).toNat : Int) = false := by rw [hb] at hlet0; exact (Bool.or_eq_false_iff.1 hlet0).2
            rw [hsm] at cS
            rw [hlg] at cL
            clear hlet hsm hlg
            by_cases h39 : byteD s k = 39
            · have c39 : (((s[k]'hlt).toNat : Int) == 39) = true := by rw [beq_iff_eq]; omega
              have cQ := rquoted_any s k wr hs hlt
              cases hqp : quoP s k with
              | none =>
                have HQ := hide (HQ0.out.trans (HB.out k (by rw [tokAt_quo hlet0 h39, hqp])))
                rw [hqp] at cQ
                have HO := hide ho
                clear HQ0 HB HT hb h39 hlet0 hqp ho
                go_wp2_with (first
                  | (go_at_call 27; refine cS.mono ?_; rintro e w' ⟨rfl, rfl⟩)
                  | (go_at_call 28; refine cL.mono ?_; rintro e w' ⟨rfl, rfl⟩)
                  | (go_at_call 30; refine cQ.mono ?_; rintro e w' ⟨rfl, rfl⟩; simp only [quoV]))
                go_ret2
                exact ⟨_, by rw [HQ.out]; rfl, by rw [HQ.out]; exact HO.out, HK.out⟩
              | some q =>
                obtain ⟨n, e⟩ := q
                have HQ := hide (HQ0.out.trans (HT.out ⟨110, n, k⟩ e (by rw [tokAt_quo hlet0 h39, hqp])))
                obtain ⟨q1, q2, q3⟩ := quoP_bounds hqp
                rw [hqp] at cQ
                clear HQ0 HB HT hb h39 hlet0 hqp q3
                go_wp2_with (first
                  | (go_at_call 27; refine cS.mono ?_; rintro e w' ⟨rfl, rfl⟩)
                  | (go_at_call 28; refine cL.mono ?_; rintro e w' ⟨rfl, rfl⟩)
                  | (go_at_call 30; refine cQ.mono ?_; rintro e w' ⟨rfl, rfl⟩; simp only [quoV])
                  | (at_builtin; refine wpList_append_own _ rfl (.tmp 96) (.tmp 100) 50 rfl w.heap.size 58 iT (.agg #[.int .u8 0, .string ⟨#[]⟩, .int .i64 0]) 3 32 Try.underlying50 hT hT0 hT1 hT2 rfl (by decide) _ _ _ rfl (ho.alloc _) ⟨_, 0, none⟩ 1 1 [.int .u8 110, .string n, .int .i64 k] rfl rfl ?q1 ?q2 ?q3 ?q4 ?q5 ?_)
                  | go_in)
                try case q1 => exact new3 _ _ _ _ _ _ (by simp)
                case q2 => first | exact oneT _ _ _ | exact ⟨rfl, rfl, rfl⟩
                case q3 => unfold maxLen; omega
                case q4 => omega
                case q5 => first | omega | (simp; omega)
                intro v' w1 ho' hg' _
                have R := tok_out ⟨110, n, k⟩ (ho.alloc _) (HK.out.alloc _) ho' hg'
                clear ho' hg' ho
                go_wp2
                go_roundw
                case rel => exact ⟨e, f, l ++ [⟨110, n, k⟩], by omega, by first | rfl | go_num, by simp; omega, by omega, HQ.out, R.1, R.2⟩
                case measure => simp [intOf]; omega
            · have c39 : (((s[k]'hlt).toNat : Int) == 39) = false := by rw [beq_eq_false_iff_ne]; omega
              by_cases h36 : byteD s k = 36
              · have c36 : (((s[k]'hlt).toNat : Int) == 36) = true := by rw [beq_iff_eq]; omega
                have HA := hide (tokAt_false hlet0 h39 h36)
                by_cases h6 : k + 6 ≤ s.size
                · have h6i : ¬ (s.size : Int) < (k : Int) + 6 := by omega
                  by_cases hfa : s.extract k (k + 6) = ⟨#[36, 102, 97, 108, 115, 101]⟩
                  · have hse : ((s.extract k (k + 6)).toList == [36, 102, 97, 108, 115, 101]) = true := by rw [hfa, ByteArray.toList_eq]; rfl
                    have HQ := hide (HQ0.out.trans (HT.out ⟨102, ⟨#[]⟩, k⟩ (k + 6) (by rw [HA.out, if_pos ⟨h6, hfa⟩])))
                    clear HQ0 HB HT hb h39 h36 hlet0 HA hfa
                    go_wp2_with (first
                      | (go_at_call 27; refine cS.mono ?_; rintro e w' ⟨rfl, rfl⟩)
                      | (go_at_call 28; refine cL.mono ?_; rintro e w' ⟨rfl, rfl⟩)
                      | (at_builtin; refine wpList_append_own _ rfl (.tmp 120) (.tmp 123) 50 rfl w.heap.size 58 iT (.agg #[.int .u8 0, .string ⟨#[]⟩, .int .i64 0]) 3 32 Try.underlying50 hT hT0 hT1 hT2 rfl (by decide) _ _ _ rfl (ho.alloc _) ⟨_, 0, none⟩ 1 1 [.int .u8 102, .string ⟨#[]⟩, .int .i64 k] rfl rfl ?z1 ?z2 ?z3 ?z4 ?z5 ?_)
                      | go_in)
                    try case z1 => exact new3 _ _ _ _ _ _ (by simp)
                    case z2 => first | exact oneT _ _ _ | exact ⟨rfl, rfl, rfl⟩
                    case z3 => unfold maxLen; omega
                    case z4 => omega
                    case z5 => first | omega | (simp; omega)
                    intro v' w1 ho' hg' _
                    have R := tok_out ⟨102, ⟨#[]⟩, k⟩ (ho.alloc _) (HK.out.alloc _) ho' hg'
                    clear ho' hg' ho
                    go_wp2
                    go_roundw
                    case rel => exact ⟨k + 6, f, l ++ [⟨102, ⟨#[]⟩, k⟩], by omega, by first | rfl | go_num, by simp; omega, by omega, HQ.out, R.1, R.2⟩
                    case measure => simp [intOf]; omega
                  · have hse : ((s.extract k (k + 6)).toList == [36, 102, 97, 108, 115, 101]) = false := by
                      rw [beq_eq_false_iff_ne]
                      exact fun hx => hfa (toList_inj.1 (hx.trans (by rw [ByteArray.toList_eq])))
                    have HQ := hide (HQ0.out.trans (HB.out k (by rw [HA.out, if_neg (fun h => hfa h.2)])))
                    have HO := hide ho
                    clear HQ0 HB HT hb h39 h36 hlet0 ho HA hfa
                    go_wp2_with (first
                      | (go_at_call 27; refine cS.mono ?_; rintro e w' ⟨rfl, rfl⟩)
                      | (go_at_call 28; refine cL.mono ?_; rintro e w' ⟨rfl, rfl⟩))
                    go_ret2
                    exact ⟨_, by rw [HQ.out]; rfl, by rw [HQ.out]; exact HO.out, HK.out⟩
                · have h6i : (s.size : Int) < (k : Int) + 6 := by omega
                  have HQ := hide (HQ0.out.trans (HB.out k (by rw [HA.out, if_neg (fun h => h6 h.1)])))
                  have HO := hide ho
                  clear HQ0 HB HT hb h39 h36 hlet0 ho HA
                  go_wp2_with (first
                    | (go_at_call 27; refine cS.mono ?_; rintro e w' ⟨rfl, rfl⟩)
                    | (go_at_call 28; refine cL.mono ?_; rintro e w' ⟨rfl, rfl⟩))
                  go_ret2
                  exact ⟨_, by rw [HQ.out]; rfl, by rw [HQ.out]; exact HO.out, HK.out⟩
              · have c36 : (((s[k]'hlt).toNat : Int) == 36) = false := by rw [beq_eq_false_iff_ne]; omega
                by_cases hmk : markN (byteD s k) = true
                · have HQ := hide (HQ0.out.trans (HT.out ⟨(s[k]'hlt).toNat, ⟨#[]⟩, k⟩ (k + 1) (by rw [tokAt_mark hlet0 h39 h36, if_pos hmk, hb])))
                  have hm' : byteD s k = 124 ∨ byteD s k = 126 ∨ byteD s k = 40 ∨ byteD s k = 41 ∨ byteD s k = 44 ∨ byteD s k = 46 := by unfold markN at hmk; simp at hmk; omega
                  have hcc : ((((s[k]'hlt).toNat : Int) == 124) = true) ∨ ((((s[k]'hlt).toNat : Int) == 124) = false ∧ (((s[k]'hlt).toNat : Int) == 126) = true) ∨ ((((s[k]'hlt).toNat : Int) == 124) = false ∧ (((s[k]'hlt).toNat : Int) == 126) = false ∧ (((s[k]'hlt).toNat : Int) == 40) = true) ∨ ((((s[k]'hlt).toNat : Int) == 124) = false ∧ (((s[k]'hlt).toNat : Int) == 126) = false ∧ (((s[k]'hlt).toNat : Int) == 40) = false ∧ (((s[k]'hlt).toNat : Int) == 41) = true) ∨ ((((s[k]'hlt).toNat : Int) == 124) = false ∧ (((s[k]'hlt).toNat : Int) == 126) = false ∧ (((s[k]'hlt).toNat : Int) == 40) = false ∧ (((s[k]'hlt).toNat : Int) == 41) = false ∧ (((s[k]'hlt).toNat : Int) == 44) = true) ∨ ((((s[k]'hlt).toNat : Int) == 124) = false ∧ (((s[k]'hlt).toNat : Int) == 126) = false ∧ (((s[k]'hlt).toNat : Int) == 40) = false ∧ (((s[k]'hlt).toNat : Int) == 41) = false ∧ (((s[k]'hlt).toNat : Int) == 44) = false ∧ (((s[k]'hlt).toNat : Int) == 46) = true) := by
                    simp only [beq_iff_eq, beq_eq_false_iff_ne]; omega
                  clear HQ0 HB HT hb h39 h36 hlet0 hmk hm'
                  rcases hcc with d0 | ⟨d0, d1⟩ | ⟨d0, d1, d2⟩ | ⟨d0, d1, d2, d3⟩ | ⟨d0, d1, d2, d3, d4⟩ | ⟨d0, d1, d2, d3, d4, d5⟩
                  all_goals
                    go_wp2_with (first
                      | (go_at_call 27; refine cS.mono ?_; rintro e w' ⟨rfl, rfl⟩)
                      | (go_at_call 28; refine cL.mono ?_; rintro e w' ⟨rfl, rfl⟩)
                      | (at_builtin; refine wpList_append_own _ rfl (.tmp 148) (.tmp 152) 50 rfl w.heap.size 58 iT (.agg #[.int .u8 0, .string ⟨#[]⟩, .int .i64 0]) 3 32 Try.underlying50 hT hT0 hT1 hT2 rfl (by decide) _ _ _ rfl (ho.alloc _) ⟨_, 0, none⟩ 1 1 [.int .u8 ((s[k]'hlt).toNat : Int), .string ⟨#[]⟩, .int .i64 k] rfl rfl ?m1 ?m2 ?m3 ?m4 ?m5 ?_)
                      | go_in)
                    try case m1 => exact new3 _ _ _ _ _ _ (by simp)
                    case m2 => first | exact oneT _ _ _ | exact ⟨rfl, rfl, rfl⟩
                    case m3 => unfold maxLen; omega
                    case m4 => omega
                    case m5 => first | omega | (simp; omega)
                    intro v' w1 ho' hg' _
                    have R := tok_out ⟨(s[k]'hlt).toNat, ⟨#[]⟩, k⟩ (ho.alloc _) (HK.out.alloc _) ho' hg'
                    clear ho' hg' ho
                    go_wp2
                    go_roundw
                    case rel => exact ⟨k + 1, f, l ++ [⟨(s[k]'hlt).toNat, ⟨#[]⟩, k⟩], by omega, by first | rfl | go_num, by simp; omega, by omega, HQ.out, R.1, R.2⟩
                    case measure => simp [intOf]; omega
                · have HQ := hide (HQ0.out.trans (HB.out k (by rw [tokAt_mark hlet0 h39 h36]; simp [hmk])))
                  have hm' : byteD s k ≠ 124 ∧ byteD s k ≠ 126 ∧ byteD s k ≠ 40 ∧ byteD s k ≠ 41 ∧ byteD s k ≠ 44 ∧ byteD s k ≠ 46 := by unfold markN at hmk; simp at hmk; omega
                  have c124 : (((s[k]'hlt).toNat : Int) == 124) = false := by rw [beq_eq_false_iff_ne]; omega
                  have c126 : (((s[k]'hlt).toNat : Int) == 126) = false := by rw [beq_eq_false_iff_ne]; omega
                  have c40 : (((s[k]'hlt).toNat : Int) == 40) = false := by rw [beq_eq_false_iff_ne]; omega
                  have c41 : (((s[k]'hlt).toNat : Int) == 41) = false := by rw [beq_eq_false_iff_ne]; omega
                  have c44 : (((s[k]'hlt).toNat : Int) == 44) = false := by rw [beq_eq_false_iff_ne]; omega
                  have c46 : (((s[k]'hlt).toNat : Int) == 46) = false := by rw [beq_eq_false_iff_ne]; omega
                  have HO := hide ho
                  clear HQ0 HB HT hb h39 h36 hlet0 hmk hm' ho
                  go_wp2_with (first
                    | (go_at_call 27; refine cS.mono ?_; rintro e w' ⟨rfl, rfl⟩)
                    | (go_at_call 28; refine cL.mono ?_; rintro e w' ⟨rfl, rfl⟩))
                  go_ret2
                  exact ⟨_, by rw [HQ.out]; rfl, by rw [HQ.out]; exact HO.out, HK.out⟩
    · have hlti : ¬ (k : Int) < (s.size : Int) := by omega
      have HQ := hide (hq.trans (toks_end hlt))
      clear hq
      go_wp2_with (first
        | (at_builtin; refine wpList_append_own _ rfl (.tmp 155) (.tmp 158) 50 rfl w.heap.size 58 iT (.agg #[.int .u8 0, .string ⟨#[]⟩, .int .i64 0]) 3 32 Try.underlying50 hT hT0 hT1 hT2 rfl (by decide) _ _ _ rfl (ho.alloc _) ⟨wr.heap.size, 0, none⟩ 1 1 [.int .u8 101, .string ⟨#[]⟩, .int .i64 k] rfl rfl ?c1 ?c2 ?c3 ?c4 ?c5 ?_)
        | go_in)
      try case c1 => exact new3 _ _ _ _ _ _ (by simp)
      case c2 => first | exact oneT _ _ _ | exact ⟨rfl, rfl, rfl⟩
      case c3 => unfold maxLen; omega
      case c4 => omega
      case c5 => first | omega | (simp; omega)
      intro v' w1 ho' hg' _
      have R := tok_out ⟨101, ⟨#[]⟩, k⟩ (ho.alloc _) (HK.out.alloc _) ho' hg'
      clear ho' hg' ho
      go_wp2
      go_ret2
      exact ⟨_, by rw [HQ.out]; rfl, by rw [HQ.out]; exact R.1, R.2⟩

end Go.Proofs.Ytcpdadppblbndaa
