/- The program: Print. -/
import Derived.Test.YtjnddclkdofgdaaDoorPWTerm
import Derived.Test.YtjnddclkdofgdaaDoorCaps
namespace Go.Proofs.YtjnddclkdofgdaaDoor
open Go.RowKit Go.Shelf
set_option maxRecDepth 100000

theorem ok_boxL {b g : Nat} {w w' : World} {s : Value} {x : Value} (h : Ok b w w') (hw : w.heap[g]? = some (.cells #[s, x] 30)) (hb : b ≠ g) : w'.heap[g]? = some (.cells #[s, x] 30) :=
  h g _ hw (fun e => hb (by simpa using e.symm)) (fun c fz e => by simp at e)
theorem plTo_names (l : List Nd) (k : Nat) : ∀ u ∈ plTo l k, ∃ n ∈ l, u.1 = n.1 := by
  induction k with
  | zero => intro u hu; simp [plTo] at hu
  | succ k ih =>
    intro u hu
    simp only [plTo, List.mem_append] at hu
    rcases hu with hu | hu
    · exact ih u hu
    · cases hk : l[k]? with
      | none => rw [hk] at hu; simp at hu
      | some n =>
        rw [hk] at hu
        have hn : n ∈ l := List.mem_of_getElem? hk
        simp only [Option.map_some, Option.getD_some, useOf] at hu
        split at hu
        · simp at hu
        · simp at hu
          exact ⟨n, hn, by rw [hu]⟩
theorem usesTo_names (c : List Lt) (k : Nat) : ∀ u ∈ usesTo c k, ∃ x ∈ c, ∃ n ∈ x.2, u.1 = n.1 := by
  induction k with
  | zero => intro u hu; simp [usesTo] at hu
  | succ k ih =>
    intro u hu
    simp only [usesTo, List.mem_append] at hu
    rcases hu with hu | hu
    · exact ih u hu
    · cases hk : c[k]? with
      | none => rw [hk] at hu; simp at hu
      | some x =>
        rw [hk] at hu
        have hx : x ∈ c := List.mem_of_getElem? hk
        obtain ⟨n, hn, he⟩ := plTo_names x.2 x.2.length u (by simpa using hu)
        exact ⟨x, hx, n, hn, he⟩
theorem uses_short {w : World} {a : Option Addr} {c : List Lt} (h : LitsIn w a c) : ∀ k (hk : k < (usesL c).length), (usesL c)[k].1.size ≤ 140737488355328 := by
  intro k hk
  obtain ⟨x, hx, n, hn, he⟩ := usesTo_names c c.length (usesL c)[k] (List.getElem_mem _)
  rw [he]
  exact (h.shorts x hx).2 n hn
theorem buildBuilder (w : World) : (Instr.build 65 #[]).run Tryd.prog w = .ok (.agg #[.pointer none, .slice none 0 0]) w := run_build w 65 _ _ (by kernel_rfl)
theorem bString (B b : Nat) (l : List UInt8) (w : World) (h : Bd B b l w) (hB : B ≤ w.heap.size) :
    Calls Tryd.prog 32 #[.pointer (some ⟨b, 0, none⟩)] w fun e w' => e = .returned (.string ⟨l.toArray⟩) ∧ Below B w w' := by
  have c1 : Calls Tryd.prog 32 #[.pointer (some ⟨b, 0, none⟩)] w _ := Any.Builder_String_any_k lays169 builderX B b l w h hB
  refine c1.mono ?_
  rintro e w' ⟨rfl, _, h2, _⟩
  exact ⟨rfl, h2⟩

/-- While a literal is written: the builder, the rest of the memory, the literal's own box. -/
structure St (B g : Nat) (w3 : World) (l : List UInt8) (n : Nat) (s x : Value) (W : World) : Prop where
  bd : Bd B B l W
  bl : Below B w3 W
  le : B ≤ W.heap.size
  bx : W.heap[g]? = some (.cells #[s, x] 30)
  len : l.length ≤ n
  eq : w3.heap.size = B
  gt : B < W.heap.size
theorem St.cells {B g : Nat} {w3 W : World} {l : List UInt8} {n : Nat} {s x : Value} (h : St B g w3 l n s x W) : W.cell? ⟨g, 0, none⟩ = some s ∧ W.cell? ⟨g, 1, none⟩ = some x := box_cell h.bx
theorem St.new {w3 wr : World} {l : List UInt8} {n : Nat} {s x : Value} (hd : Bd w3.heap.size w3.heap.size l wr) (hb : Below w3.heap.size w3 wr) (hl : l.length ≤ n) : St w3.heap.size wr.heap.size w3 l n s x (wr.alloc (.cells #[s, x] 30)) := by
  have hq : Below wr.heap.size wr (wr.alloc (.cells #[s, x] 30)) := (Below.refl _ _).alloc (Nat.le_refl _) _
  have h1 := hb.size
  have h2 := hq.size
  have h3 : (wr.alloc (.cells #[s, x] 30)).heap.size = wr.heap.size + 1 := by show (wr.heap.push _).size = _; simp
  exact ⟨hd.below hq, hb.trans (hq.mono h1), by omega, heap_new _ _, hl, rfl, by omega⟩
theorem St.str {B g : Nat} {w3 W : World} {l : List UInt8} {n : Nat} {s x : Value} (h : St B g w3 l n s x W) (hg : B ≠ g) (t : ByteArray) (ht : n + t.size ≤ 1000000) :
    Calls Tryd.prog 29 #[.pointer (some ⟨B, 0, none⟩), .string t] W fun e w' => e = .returned (.tuple #[.int .i64 t.size, .nilIface]) ∧ St B g w3 (l ++ t.data.toList) (n + t.size) s x w' := by
  refine (wString B B l t W h.bd (by have := h.len; omega) h.le).mono ?_
  rintro e w5 ⟨rfl, hd5, hb5, ho5⟩
  refine ⟨rfl, hd5, h.bl.trans hb5, Nat.le_trans h.le hb5.size, ok_boxL ho5 h.bx hg, ?_, h.eq, Nat.lt_of_lt_of_le h.gt hb5.size⟩
  have := h.len
  have h2 : t.data.toList.length = t.size := rfl
  rw [List.length_append, h2]
  omega
theorem St.byte {B g : Nat} {w3 W : World} {l : List UInt8} {n : Nat} {s x : Value} (h : St B g w3 l n s x W) (hg : B ≠ g) (t : UInt8) (ht : n ≤ 1000000) :
    Calls Tryd.prog 30 #[.pointer (some ⟨B, 0, none⟩), .int .u8 t.toNat] W fun e w' => e = .returned .nilIface ∧ St B g w3 (l ++ [t]) (n + 1) s x w' := by
  refine (wByte B B l t W h.bd (by have := h.len; omega) h.le).mono ?_
  rintro e w5 ⟨rfl, hd5, hb5, ho5⟩
  refine ⟨rfl, hd5, h.bl.trans hb5, Nat.le_trans h.le hb5.size, ok_boxL ho5 h.bx hg, ?_, h.eq, Nat.lt_of_lt_of_le h.gt hb5.size⟩
  have := h.len
  rw [List.length_append]
  simp
  omega
theorem St.term {B g : Nat} {w3 W : World} {l : List UInt8} {n : Nat} {s x : Value} (h : St B g w3 l n s x W) {a : Option Addr} {cp : Nat} {nodes : List Nd} (hn : NodesIn w3 a nodes) (hc : nodes.length ≤ cp) (h60 : nodes.length ≤ 60) (hgo : termGo nodes 1 = true) (hl : n + 12000 ≤ 99000) :
    Calls Tryd.prog 31 #[.pointer (some ⟨B, 0, none⟩), .slice a nodes.length cp] W fun e w' => ∃ a' cp', e = .returned (.slice a' (termW 60 nodes).2.length cp') ∧ Bd B B (l ++ (termW 60 nodes).1) w' ∧ Below B w3 w' ∧ B < w'.heap.size := by
  refine (writeTerm_any 60 B B l a cp nodes 0 w3 W h.bd hn h.bl (Nat.le_of_eq h.eq) h.le hc h60 h60 hgo (by have := h.len; omega)).mono ?_
  rintro e w' ⟨a', cp', rfl, _, _, hd, hb, _⟩
  exact ⟨a', cp', rfl, hd, h.bl.trans hb, Nat.lt_of_lt_of_le h.gt hb.size⟩

set_option maxHeartbeats 2000000 in
theorem sPrint_any (a : Option Addr) (cp : Nat) (c : List Lt) (w : World) (h : LitsIn w a c) (hcap : CapsIn w a c) (hT : Tabs w) :
    Calls Tryd.prog 12 #[.slice a c.length cp] w fun e w' => ∃ t r, e = .returned (.tuple #[.string ⟨t.toArray⟩, .int .i64 r]) ∧ PrintR c t r ∧ Below w.heap.size w w' := by
  have cI := lIsClause_any a cp c w h hT
  by_cases hc : isClauseL c = true
  · obtain ⟨⟨h8, h60⟩, hat⟩ := clause_atoms hc
    rw [hc] at cI
    have CI := hide cI
    have HH := hide h
    have HA := hide hat
    have HC := hide hc
    have HCAP := hide hcap
    have CU := hide (fun wx (hx : LitsIn wx a c) => uses_any a cp c wx hx h60)
    have hul : (usesL c).length ≤ 60 := by
      have h1 := usesTo_len c c.length
      have h2 := countL_take_le c c.length
      have h3 : (usesL c).length = (usesTo c c.length).length := rfl
      omega
    have HUS := hide (uses_short h)
    have hbb := buildBuilder
    clear cI h hat hc hT hcap
    go_enter Tryd.func12, Tryd.ntmps12
    go_wp2_with (first
      | (go_at_call 26; refine (unhide CI).mono ?_; rintro e w1 ⟨rfl, hb1⟩; have HB1 := hide hb1; have h1s := hb1.size; clear hb1)
      | (go_at_call 28; refine (unhide CU _ (HH.out.below HB1.out (Nat.le_refl _))).mono ?_; rintro e w2 ⟨v, rfl, hov, hb2⟩; obtain ⟨va, vcp, rfl, hin⟩ := own_uses hov (by omega) HUS.out; have CO := hide (atOdds_any va vcp (usesL c) w2 hin); have HB2 := hide (HB1.out.trans (hb2.mono h1s)); have h2s := HB2.out.size; clear hov hin hb2)
      | (go_at_call 27; refine (unhide CO).mono ?_; rintro e w3 ⟨rr, rfl, hrr, hb3⟩; have HRR := hide hrr; have HB3 := hide (HB2.out.trans (hb3.mono h2s)); have h3s := HB3.out.size; clear hrr hb3))
    · have hr0 : 0 ≤ rr := by assumption
      go_ret2
      exact ⟨[], 5, ret_two rfl rfl, Or.inr ⟨fun h => HRR.out.1 hr0 h.2, rfl, rfl⟩, HB3.out⟩
    · have hr0 : rr < 0 := by assumption
      have hc0 : c.length = 0 := by have hx : ((c.length : Int) == 0) = true := (by assumption); rw [beq_iff_eq] at hx; omega
      have HUO := hide (HRR.out.2 hr0)
      have hfr : Bd w3.heap.size w3.heap.size [] (w3.alloc (.cells #[.pointer none, .slice none 0 0] 65)) := Lib.IsBuilderF.of (Lib.fresh_isBuilder 65 5 w3)
      have hbn : Below w3.heap.size w3 (w3.alloc (.cells #[.pointer none, .slice none 0 0] 65)) := (Below.refl _ _).alloc (Nat.le_refl _) _
      have CS := hide (wString w3.heap.size w3.heap.size [] ⟨#[36, 102, 97, 108, 115, 101]⟩ _ hfr (by decide) hbn.size)
      have HBN := hide hbn
      have HF : Hid (clauseT c = [] ++ [36, 102, 97, 108, 115, 101] ++ [46, 10]) := hide (by unfold clauseT; rw [if_pos hc0]; rfl)
      have HZ := hide hc0
      clear HRR hfr hbn hc0
      refine (unhide CS).mono ?_
      rintro e w5 ⟨rfl, hd5, hb5, ho5⟩
      have HD5 := hide hd5
      have HB5 := hide (HBN.out.trans hb5)
      have h5s := HB5.out.size
      clear hd5 hb5 ho5
      go_wp2
      go_loopw [25] (fun i wr => i = .int .i64 0 ∧ wr = w5) (fun _ _ => 0)
      case atStart => exact ⟨rfl, rfl⟩
      case round =>
        obtain ⟨rfl, rfl⟩ := hrel
        have CE := hide (wString w3.heap.size w3.heap.size _ ⟨#[46, 10]⟩ wr HD5.out (by decide) h5s)
        have hcz : ¬ ((0 : Int) < (c.length : Int)) := by have := HZ.out; omega
        go_wp2_with (first
          | (go_at_call 29; refine (unhide CE).mono ?_; rintro e w6 ⟨rfl, hd6, hb6, ho6⟩; have CB := hide (bString w3.heap.size w3.heap.size _ w6 hd6 (Nat.le_trans h5s hb6.size)); have HB6 := hide (HB5.out.trans hb6); clear hd6 hb6 ho6)
          | (go_at_call 32; refine (unhide CB).mono ?_; rintro e w7 ⟨rfl, hb7⟩; have HB7 := hide (HB6.out.trans hb7); clear hb7))
        go_ret2
        exact ⟨clauseT c, 0, ret_two (by rw [HF.out]; rfl) rfl, Or.inl ⟨HC.out, HUO.out, rfl, rfl⟩, HB3.out.trans (HB7.out.mono h3s)⟩
    · have hr0 : rr < 0 := by assumption
      have hc0 : ¬ c.length = 0 := by have hx : ((c.length : Int) == 0) = false := (by assumption); rw [beq_eq_false_iff_ne] at hx; omega
      have HUO := hide (HRR.out.2 hr0)
      have hfr : Bd w3.heap.size w3.heap.size [] (w3.alloc (.cells #[.pointer none, .slice none 0 0] 65)) := Lib.IsBuilderF.of (Lib.fresh_isBuilder 65 5 w3)
      have hbn : Below w3.heap.size w3 (w3.alloc (.cells #[.pointer none, .slice none 0 0] 65)) := (Below.refl _ _).alloc (Nat.le_refl _) _
      have HF : Hid (clauseT c = litsF c c.length ++ [46, 10]) := hide (by unfold clauseT; rw [if_neg hc0])
      have HL3 := hide (HH.out.below HB3.out (Nat.le_refl _))
      rename_i hq1 hq2 K0 a0
      clear HRR hc0 hq1 hq2 hr0
      go_loopw [25] (fun i wr => ∃ k : Nat, k ≤ c.length ∧ i = .int .i64 k ∧ Bd w3.heap.size w3.heap.size (litsF c k) wr ∧ Below w3.heap.size w3 wr ∧ w3.heap.size < wr.heap.size) (fun i _ => c.length - (intOf i).toNat)
      case atStart => exact ⟨0, Nat.zero_le _, rfl, hfr, hbn, by show w3.heap.size < (w3.heap.push _).size; simp⟩
      case round =>
        obtain ⟨k, hk, rfl, hd, hb, hsz⟩ := hrel
        have hlen := litsF_len HA.out k
        by_cases hlt : k < c.length
        · obtain ⟨b0, o0, aa, cap, rfl, e0, e1, hn⟩ := HH.out.cell k hlt
          have hca := HCAP.out k hlt b0 o0 aa _ cap rfl e1
          have hbw := HB3.out.trans (hb.mono h3s)
          have f0 := Below.at' hbw (Nat.le_refl _) e0
          have f1 := Below.at' hbw (Nat.le_refl _) e1
          have HN := hide (hn.below HB3.out (Nat.le_refl _))
          have HTX := hide (litsF_succ c k hlt)
          obtain ⟨ht1, ht60⟩ := atom_parts (HA.out c[k] (List.getElem_mem _))
          generalize c[k] = x at *
          obtain ⟨nt, at'⟩ := x
          have HT1 := hide ht1
          have HD := hide hd
          have HB := hide hb
          have hbs := hb.size
          have S0 : St w3.heap.size wr.heap.size w3 (litsF c k) (12010 * k) (.bool nt) (.slice aa at'.length cap) (wr.alloc (.cells #[.bool nt, .slice aa at'.length cap] 30)) := St.new hd hb hlen
          have hkk : k ≤ 7 := by omega
          have hgne : w3.heap.size ≠ wr.heap.size := by omega
          have hs0 := S0.le
          have SX := hide S0
          obtain ⟨r1, r2⟩ := S0.cells
          clear e0 e1 hn hbw ht1 hd hb hfr hbn S0 hlen
          by_cases hk0 : 0 < k
          · have HK : Hid (¬ k = 0) := hide (by omega)
            cases nt with
            | true =>
              go_wp2_with (first
                | (go_at_call 29; refine (SX.out.str hgne ⟨#[32, 124, 32]⟩ (by show _ + 3 ≤ _; omega)).mono ?_; rintro e w5 ⟨rfl, s5⟩; obtain ⟨r3, r4⟩ := s5.cells; have S5 := hide s5; clear s5)
                | (go_at_call 30; refine (S5.out.byte hgne 126 (by show _ + 3 ≤ _; omega)).mono ?_; rintro e w6 ⟨rfl, s6⟩; obtain ⟨r5, r6⟩ := s6.cells; have S6 := hide s6; clear s6)
                | (go_at_call 31; refine (S6.out.term HN.out hca ht60 HT1.out (by show _ + 3 + 1 + _ ≤ _; omega)).mono ?_; rintro e w7 ⟨ra7, cp7, rfl, hd7, hb7, hs7⟩; have HD7 := hide hd7; have HB7 := hide hb7; clear hd7 hb7))
              go_roundw
              case rel => exact ⟨k + 1, by omega, by go_num, by rw [HTX.out]; have := HD7.out; simpa [litT, HK.out] using this, HB7.out, hs7⟩
              case measure => simp [intOf]; omega
            | false =>
              go_wp2_with (first
                | (go_at_call 29; refine (SX.out.str hgne ⟨#[32, 124, 32]⟩ (by show _ + 3 ≤ _; omega)).mono ?_; rintro e w5 ⟨rfl, s5⟩; obtain ⟨r3, r4⟩ := s5.cells; have S5 := hide s5; clear s5)
                | (go_at_call 31; refine (S5.out.term HN.out hca ht60 HT1.out (by show _ + 3 + _ ≤ _; omega)).mono ?_; rintro e w7 ⟨ra7, cp7, rfl, hd7, hb7, hs7⟩; have HD7 := hide hd7; have HB7 := hide hb7; clear hd7 hb7))
              go_roundw
              case rel => exact ⟨k + 1, by omega, by go_num, by rw [HTX.out]; have := HD7.out; simpa [litT, HK.out] using this, HB7.out, hs7⟩
              case measure => simp [intOf]; omega
          · have HK : Hid (k = 0) := hide (by omega)
            cases nt with
            | true =>
              go_wp2_with (first
                | (go_at_call 30; refine (SX.out.byte hgne 126 (by omega)).mono ?_; rintro e w6 ⟨rfl, s6⟩; obtain ⟨r5, r6⟩ := s6.cells; have S6 := hide s6; clear s6)
                | (go_at_call 31; refine (S6.out.term HN.out hca ht60 HT1.out (by omega)).mono ?_; rintro e w7 ⟨ra7, cp7, rfl, hd7, hb7, hs7⟩; have HD7 := hide hd7; have HB7 := hide hb7; clear hd7 hb7))
              go_roundw
              case rel => exact ⟨k + 1, by omega, by go_num, by rw [HTX.out]; have := HD7.out; simpa [litT, HK.out] using this, HB7.out, hs7⟩
              case measure => simp [intOf]; omega
            | false =>
              go_wp2_with (first
                | (go_at_call 31; refine (SX.out.term HN.out hca ht60 HT1.out (by omega)).mono ?_; rintro e w7 ⟨ra7, cp7, rfl, hd7, hb7, hs7⟩; have HD7 := hide hd7; have HB7 := hide hb7; clear hd7 hb7))
              go_roundw
              case rel => exact ⟨k + 1, by omega, by go_num, by rw [HTX.out]; have := HD7.out; simpa [litT, HK.out] using this, HB7.out, hs7⟩
              case measure => simp [intOf]; omega
        · have hk' : k = c.length := by omega
          subst hk'
          have CE := hide (wString w3.heap.size w3.heap.size _ ⟨#[46, 10]⟩ wr hd (by show _ + 2 ≤ _; omega) (by omega))
          have HB5 := hide hb
          have h5s := hb.size
          clear hd hb
          go_wp2_with (first
            | (go_at_call 29; refine (unhide CE).mono ?_; rintro e w6 ⟨rfl, hd6, hb6, ho6⟩; have CB := hide (bString w3.heap.size w3.heap.size _ w6 hd6 (Nat.le_trans h5s hb6.size)); have HB6 := hide (HB5.out.trans hb6); clear hd6 hb6 ho6)
            | (go_at_call 32; refine (unhide CB).mono ?_; rintro e w7 ⟨rfl, hb7⟩; have HB7 := hide (HB6.out.trans hb7); clear hb7))
          go_ret2
          exact ⟨clauseT c, 0, ret_two (by rw [HF.out]; rfl) rfl, Or.inl ⟨HC.out, HUO.out, rfl, rfl⟩, HB3.out.trans (HB7.out.mono h3s)⟩
  · have hc' : isClauseL c = false := by simpa using hc
    rw [hc'] at cI
    have CI := hide cI
    have HR : Hid (PrintR c [] 5) := Or.inr ⟨fun h => hc h.1, rfl, rfl⟩
    clear cI h hc hc' hT hcap
    go_enter Tryd.func12, Tryd.ntmps12
    go_wp2_with (go_at_call 26; refine (unhide CI).mono ?_; rintro e w1 ⟨rfl, hb1⟩; have HB1 := hide hb1; clear hb1)
    go_ret2
    exact ⟨[], 5, ret_two rfl rfl, HR.out, HB1.out⟩

end Go.Proofs.YtjnddclkdofgdaaDoor
