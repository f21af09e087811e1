/- The program's scanner: a word, walked. -/
import Derived.Test.YtcpdadppblbndaaGWordM
import Derived.Test.YtcpdadppblbndaaSNam0M
import Derived.Deep.DeepCutAuto
namespace Go.Proofs.Ytcpdadppblbndaa
open Go.RowKit
set_option maxRecDepth 100000

theorem below_grown {w w' : World} (h : Below w.heap.size w w') (row : Option Nat) : w.grownBy w' row := ⟨h.os, h.tape, h.output, h.size, fun k hk _ => h.block k hk⟩
/-- While the letters are gathered. -/
structure WLp (w1 : World) (s : ByteArray) (p : Nat) (v : Value) (q : Nat) (wr : World) : Prop where
  le : p + q ≤ s.size
  low : ∀ i, i < q → byteD s (p + i) < 128
  run : runP s p = runP s (p + q)
  row : wr.ownsRow w1.heap.size 21 1 v q ((wordR s p q).map (Value.int .i32))
  far : Below w1.heap.size w1 wr
theorem WLp.next {w1 : World} {s : ByteArray} {p : Nat} {v v' : Value} {q : Nat} {wr w' : World} {X Y : Obj} (h : WLp w1 s p v q wr) (hp : p + q < s.size) (hi : insideB (byteD s (p + q)) = true) (ho : w'.ownsRow w1.heap.size 21 1 v' (q + 1) ((wordR s p q).map (Value.int .i32) ++ [.int .i32 (byteD s (p + q))])) (hg : ((wr.alloc X).alloc Y).grownBy w' v.ownBlock) : WLp w1 s p v' (q + 1) w' := by
  have hf := (h.far.alloc h.far.size X).alloc (Nat.le_trans h.far.size (by simp)) Y
  refine ⟨by omega, fun i hi' => ?_, ?_, ?_, ?_⟩
  · by_cases e : i = q
    · subst e; exact inside_low _ hi
    · exact h.low i (by omega)
  · rw [h.run, runP_on hp hi]; rfl
  · rw [wordR_succ, List.map_append]; exact ho
  · exact hf.grown hg hf.size (fun k e => (own_lt h.row k e).1)
theorem conv_word {W : World} {B : Nat} {g2 vc : Nat} {s : ByteArray} {p q : Nat} (hr : W.ownsRow B 21 1 (.slice (some ⟨g2, 0, none⟩) q vc) q ((wordR s p q).map (Value.int .i32))) (hb : runesBytes (wordR s p q) = s.extract p (p + q)) :
    (convert 113 9 (.slice (some ⟨g2, 0, none⟩) q vc)).run Try.prog W = .ok (.string (s.extract p (p + q))) W := by
  have hl : (wordR s p q).length = q := by simp [wordR]
  have h := run_convert_runes (P := Try.prog) W 113 9 21 ⟨g2, 0, none⟩ q vc (wordR s p q) (by omega) Try.underlying113 (by kernel_rfl) (by kernel_rfl) (fun i hi => by
    have := hr.cellAt i (by omega)
    rw [List.getElem?_map, List.getElem?_eq_getElem hi, Option.map_some] at this
    rw [show (⟨g2, 0, none⟩ : Addr).add i = ⟨g2, i, none⟩ by simp [Addr.add]; omega, this]
    simp [List.getD, hi])
  rw [h, List.take_of_length_le (by omega), hb]
section
variable {B : Nat} {pb : Nat} {s : ByteArray} {p g j m c : Nat} {k a : Int} {wd : ByteArray} {vC vP vM : Value}
/-- What word answers. -/
def WordR (B pb : Nat) (s : ByteArray) (p g j m c : Nat) (k a : Int) (wd : ByteArray) (vC vP vM : Value) (kd : Int) (w : World) (e : Ending) (w' : World) : Prop :=
  w.grownBy w' (some pb) ∧
      if runP s p - p > 20 then e = .returned (tokenV (-2) p ⟨#[]⟩) ∧ ScIn B w' pb s p g j m c k a wd vC vP vM
      else e = .returned (tokenV kd p (s.extract p (runP s p))) ∧ ∃ j' m' c', ScIn B w' pb s (runP s p) g j' m' c' k a wd vC vP vM
theorem cell_again {w : World} {b i : Nat} {u v : Value} (h : w.cell? ⟨b, i, none⟩ = some u) : (w.setCell ⟨b, i, none⟩ v).cell? ⟨b, i, none⟩ = some v := World.cell?_setCell_same _ _ _ h

set_option maxHeartbeats 3000000 in
theorem sWord_any {w : World} (kd : Int) (h : ScIn B w pb s p g j m c k a wd vC vP vM) (hs : s.size ≤ 3000) (hp0 : p < s.size) (h1 : insideB (byteD s p) = true) :
    Calls Try.prog 48 #[.pointer (some ⟨pb, 0, none⟩), .int .i32 kd] w fun e w' => WordR B pb s p g j m c k a wd vC vP vM kd w e w' := by
  obtain ⟨iR, hR, hR0, hR1, hR2⟩ := info_parts infoRune
  have d0 := h.box.c0
  have e0 : ∀ o, (w.alloc o).cell? ⟨pb, 0, none⟩ = some (.slice (some ⟨g, j * 2, none⟩) (m + 1) (c + 1)) := fun o => Below.at' ((Below.refl _ w).alloc (Nat.le_refl _) o) (Nat.le_refl _) d0
  have HB0 : Hid (∀ o, Below w.heap.size w (w.alloc o)) := hide fun o => (Below.refl _ _).alloc (Nat.le_refl _) o
  have HX0 : Hid (∀ o, (w.alloc o).heap[w.heap.size]? = some o ∧ (w.alloc o).heap.size = w.heap.size + 1) := hide fun o => ⟨by show (w.heap.push _)[w.heap.size]? = _; simp, by simp⟩
  have HS := hide h
  have hpb := h.box.lt
  clear h d0
  go_enter Try.func48, Try.ntmps48
  go_wp2
  have hb1 := HB0.out (.cells #[.int .i32 0, .int .i64 0, .string ⟨#[]⟩] 71)
  have HS1 := hide (HS.out.below hb1)
  obtain ⟨hx1, hz1⟩ := HX0.out (.cells #[.int .i32 0, .int .i64 0, .string ⟨#[]⟩] 71)
  have HB1 := hide hb1
  have HX1 := hide hx1
  clear hb1 hx1 HB0 HX0
  generalize w.alloc (.cells #[.int .i32 0, .int .i64 0, .string ⟨#[]⟩] 71) = w1 at *
  have hrb : w.heap.size < w1.heap.size := by omega
  obtain ⟨rb, hrbe⟩ : ∃ rb, w.heap.size = rb := ⟨_, rfl⟩
  rw [hrbe] at hrb HX1 hpb
  simp only [hrbe]
  have HRB := hide hrbe
  clear hrbe hz1 e0
  go_loopw [5, 14] (fun v i wr => ∃ q : Nat, i = .int .i64 q ∧ WLp w1 s p v q wr) (fun _ i _ => s.size + 1 - (intOf i).toNat)
  case atStart => exact ⟨0, rfl, by omega, fun i hi => by omega, rfl, World.ownsRow_nil _ _ _ _, Below.refl _ _⟩
  case round =>
    obtain ⟨q, rfl, hL⟩ := hrel
    have hle := hL.le
    obtain ⟨hd, hqm⟩ := HS1.out.letters q hle hL.low
    have hSr := HS1.out.below hL.far
    obtain ⟨c0, c1⟩ := hSr.cells q (p + q) hd hle hqm
    have hqi : (q : Int) < ((m + 1 : Nat) : Int) := by omega
    have hq0 : (0 : Int) ≤ (q : Int) := by omega
    have hig := inside_gch s (p + q)
    have CW := hide (fun wx => isInWord_any (gch s (p + q)) wx)
    rw [hig] at CW
    obtain ⟨va, vc, rfl⟩ := own_shape hL.row
    have HL := hide hL
    have hfs := hL.far.size
    by_cases hin : p + q < s.size ∧ insideB (byteD s (p + q)) = true
    · have hgl := (gch_low s (p + q) hin.1 (inside_low _ hin.2)).1
      rw [hin.2, decide_eq_true hin.1] at CW
      rw [hgl] at CW c0
      have HN := hide (fun (v' : Value) (w' : World) (X Y : Obj) ho hg => HL.out.next hin.1 hin.2 (v' := v') (w' := w') (X := X) (Y := Y) ho hg)
      have HR := hide (hL.row)
      have hps : p + q < s.size := hin.1
      clear hL hig hgl hin hSr hd HL
      generalize byteD s (p + q) = bb at *
      go_wp2_with (first
        | (go_at_call 64; refine (unhide CW _).mono ?_; rintro e w2 ⟨rfl, rfl⟩)
        | (at_builtin; refine wpList_append_own _ rfl (.tmp 22) (.tmp 25) 113 rfl w1.heap.size 21 iR (.int .i32 0) 1 4 Try.underlying113 hR hR0 hR1 hR2 rfl (by decide) _ _ _ rfl ((HR.out.alloc _).alloc _) ⟨_, 0, none⟩ 1 1 [.int .i32 bb] rfl rfl (new1 _ _ _ _ (by simp)) (one32 _) (by unfold maxLen; omega) (by omega) (by simp; omega) ?_; intro v3 w3 ho3 hg3 _; have HN3 := hide (HN.out _ _ _ _ ho3 hg3); obtain ⟨va3, vc3, rfl⟩ := own_shape ho3; clear ho3 hg3)
        | go_in)
      go_roundw
      case rel => exact ⟨q + 1, by go_num, HN3.out⟩
      case measure => simp [intOf]; omega
    · have hrun : runP s (p + q) = p + q := runP_off hin
      have HRUN : Hid (runP s p = p + q) := hide (by rw [hL.run, hrun])
      have hq1 : 1 ≤ q := by
        apply Classical.byContradiction
        intro hn
        obtain rfl : q = 0 := by omega
        exact hin ⟨hp0, h1⟩
      have hcf : (decide (p + q < s.size) && insideB (byteD s (p + q))) = false := by
        rw [Bool.and_eq_false_iff]
        by_cases e : p + q < s.size
        · right
          cases hb : insideB (byteD s (p + q))
          · rfl
          · exact absurd ⟨e, hb⟩ hin
        · left; simpa using e
      rw [hcf] at CW
      have HWB : Hid (runesBytes (wordR s p q) = s.extract p (p + q)) := hide (wordR_bytes s p q hle hL.low)
      have HR := hide hL.row
      have HF := hide hL.far
      have HD := hide hd
      have HSR := hide hSr
      have xr := hL.far.block rb hrb
      rw [HX1.out] at xr
      have HXR := hide xr
      have hmc := hSr.mc
      clear hL hig hSr hd hcf hrun hin xr
      have HB2 : Hid (∀ o, Below w.heap.size w (wr.alloc o)) := hide fun o => ((HB1.out.trans (HF.out.mono HB1.out.size)).alloc (Nat.le_trans HB1.out.size hfs) o)
      have HX2 : Hid (∀ o, (wr.alloc o).heap[rb]? = some (.cells #[.int .i32 0, .int .i64 0, .string ⟨#[]⟩] 71)) := hide fun o => by
        rw [((Below.refl wr.heap.size wr).alloc (Nat.le_refl _) o).block rb (by omega)]; exact HXR.out
      by_cases hq20 : 20 < q
      · have hq20i : (20 : Int) < (q : Int) := by omega
        have CB := hide (fun o => sBad_any (HSR.out.below ((Below.refl wr.heap.size wr).alloc (Nat.le_refl _) o)))
        unfold tokenV at CB
        go_wp2_with (first
          | (go_at_call 64; refine (unhide CW _).mono ?_; rintro e w2 ⟨rfl, rfl⟩)
          | (go_at_call 53; refine (unhide CB _).mono ?_; rintro e w3 ⟨rfl, hb3⟩; have hx3 := (hb3.block rb (by simp; omega)).trans (HX2.out _); have HB3 := hide hb3; have HX3 := hide hx3; have t0 : w3.cell? ⟨rb, 0, none⟩ = some (.int .i32 0) := (by simp [World.cell?, hx3]); have t1 : w3.cell? ⟨rb, 1, none⟩ = some (.int .i64 0) := (by simp [World.cell?, hx3]); have t2 : w3.cell? ⟨rb, 2, none⟩ = some (.string ⟨#[]⟩) := (by simp [World.cell?, hx3]); have tt0 := cell_again (v := .int .i32 (-2)) t0; have tt1 := cell_again (v := .int .i64 p) t1; have tt2 := cell_again (v := .string ⟨#[]⟩) t2; have t3 : ∀ i, w3.frozen? ⟨rb, i, none⟩ = false := (fun i => by simp [World.frozen?, hx3]); clear hb3 hx3)
          | go_in)
        refine bodyPost_ret (by simp [results, Try.results48, go_sem, tt0, t1, t2]; try rfl) rfl ?_
        have hfin : Below w.heap.size w w3 := (HB2.out _).trans (HB3.out.mono (HB2.out _).size)
        have hrw : w.heap.size ≤ rb := by rw [HRB.out]; exact Nat.le_refl _
        have hf2 := below_set (below_set (below_set hfin (p := ⟨rb, 0, none⟩) hrw (.int .i32 (-2))) (p := ⟨rb, 1, none⟩) hrw (.int .i64 p)) (p := ⟨rb, 2, none⟩) hrw (.string ⟨#[]⟩)
        refine ⟨below_grown hf2 _, ?_⟩
        rw [if_pos (by rw [HRUN.out]; omega)]
        exact ⟨rfl, HS.out.below hf2⟩
      · have hq20i : ¬ (20 : Int) < (q : Int) := by omega
        obtain ⟨g2, vc2, hv2⟩ := own_at HR.out (by omega)
        simp only [Value.slice.injEq] at hv2
        obtain ⟨rfl, _, rfl⟩ := hv2
        obtain ⟨m', rfl⟩ : ∃ m', m = m' + q := ⟨m - q, by omega⟩
        obtain ⟨c', rfl⟩ : ∃ c', c = c' + q := ⟨c - q, by omega⟩
        go_upto_region 10 with (first
          | (go_at_call 64; refine (unhide CW _).mono ?_; rintro e w2 ⟨rfl, rfl⟩)
          | go_in)
        have hS2 := HSR.out.below ((Below.refl wr.heap.size wr).alloc (Nat.le_refl _) (.cells #[.int .i32 (gch s (p + q)), .int .i64 ((p : Int) + q)] 106))
        have hR2' := HR.out.alloc (.cells #[.int .i32 (gch s (p + q)), .int .i64 ((p : Int) + q)] 106)
        have hB2' := HB2.out (.cells #[.int .i32 (gch s (p + q)), .int .i64 ((p : Int) + q)] 106)
        have hX2' := HX2.out (.cells #[.int .i32 (gch s (p + q)), .int .i64 ((p : Int) + q)] 106)
        have hzz : rb < (wr.alloc (.cells #[.int .i32 (gch s (p + q)), .int .i64 ((p : Int) + q)] 106)).heap.size := by simp; omega
        generalize wr.alloc (.cells #[.int .i32 (gch s (p + q)), .int .i64 ((p : Int) + q)] 106) = W at *
        have v0 := hS2.box.c0
        have v1 := hS2.at0.2
        have v0A : ∀ o, (W.alloc o).cell? ⟨pb, 0, none⟩ = some (.slice (some ⟨g, j * 2, none⟩) (m' + q + 1) (c' + q + 1)) := fun o => Below.at' ((Below.refl W.heap.size W).alloc (Nat.le_refl _) o) (Nat.le_refl _) v0
        have v1A : ∀ o, (W.alloc o).cell? ⟨g, j * 2 + 1, none⟩ = some (.int .i64 p) := fun o => Below.at' ((Below.refl W.heap.size W).alloc (Nat.le_refl _) o) (Nat.le_refl _) v1
        have hcv := conv_word (W := W.drew) hR2' HWB.out
        have hcvA := fun o => conv_word (W := (W.alloc o).drew) (World.ownsRow.alloc (w := W) hR2' o) HWB.out
        have hpos : (0 : Int) < (m' : Int) + q + 1 := by omega
        have HS2 := hide hS2
        have HB2' := hide hB2'
        have HX2' := hide hX2'
        clear hS2 hB2' hX2' hR2'
        go_region
        have hz9 : Below W.heap.size W (W.alloc (.cells #[.int .i32 kd, .int .i64 p, .string (s.extract p (p + q))] 71)).drew := ((Below.refl W.heap.size W).alloc (Nat.le_refl _) _).trans ((below_drawn (w1 := (W.alloc (.cells #[.int .i32 kd, .int .i64 p, .string (s.extract p (p + q))] 71)).drew) ⟨1, rfl⟩).mono (by simp))
        have hS9 := HS2.out.below hz9
        have hX9 := (hz9.block rb hzz).trans HX2'.out
        have hT9 : (W.alloc (.cells #[.int .i32 kd, .int .i64 p, .string (s.extract p (p + q))] 71)).drew.heap[W.heap.size]? = some (.cells #[.int .i32 kd, .int .i64 p, .string (s.extract p (p + q))] 71) := by show (W.heap.push _)[W.heap.size]? = _; simp
        have hb9 := HB2'.out.trans (hz9.mono HB2'.out.size)
        have hwb : W.heap.size < (W.alloc (.cells #[.int .i32 kd, .int .i64 p, .string (s.extract p (p + q))] 71)).drew.heap.size := by show W.heap.size < (W.heap.push _).size; simp
        generalize (W.alloc (.cells #[.int .i32 kd, .int .i64 p, .string (s.extract p (p + q))] 71)).drew = Y at *
        generalize W.heap.size = tb at *
        have y0 := hS9.box.c0
        have yf := hS9.box.soft 0
        have HS9 := hide hS9
        have HX9 := hide hX9
        have HT9 := hide hT9
        have HB9 := hide hb9
        have hrt : rb ≠ tb := by omega
        have hpr : pb ≠ rb := by omega
        have hpt : pb ≠ tb := by omega
        have HJ := hide (ScIn.jump q (p + q) m' c' hS9 HD.out hle)
        have cY : ∀ u, (Y.setCell ⟨pb, 0, none⟩ u).heap[rb]? = some (.cells #[.int .i32 0, .int .i64 0, .string ⟨#[]⟩] 71) ∧ (Y.setCell ⟨pb, 0, none⟩ u).heap[tb]? = some (.cells #[.int .i32 kd, .int .i64 p, .string (s.extract p (p + q))] 71) := fun u => ⟨by rw [Below.heap_setCell _ _ _ _ hpr.symm]; exact hX9, by rw [Below.heap_setCell _ _ _ _ hpt.symm]; exact hT9⟩
        have z0 : ∀ u, (Y.setCell ⟨pb, 0, none⟩ u).cell? ⟨rb, 0, none⟩ = some (.int .i32 0) := fun u => by simp [World.cell?, (cY u).1]
        have z1 : ∀ u, (Y.setCell ⟨pb, 0, none⟩ u).cell? ⟨rb, 1, none⟩ = some (.int .i64 0) := fun u => by simp [World.cell?, (cY u).1]
        have z2 : ∀ u, (Y.setCell ⟨pb, 0, none⟩ u).cell? ⟨rb, 2, none⟩ = some (.string ⟨#[]⟩) := fun u => by simp [World.cell?, (cY u).1]
        have z3 : ∀ u i, (Y.setCell ⟨pb, 0, none⟩ u).frozen? ⟨rb, i, none⟩ = false := fun u i => by simp [World.frozen?, (cY u).1]
        have z4 : ∀ u, (Y.setCell ⟨pb, 0, none⟩ u).cell? ⟨tb, 0, none⟩ = some (.int .i32 kd) := fun u => by simp [World.cell?, (cY u).2]
        have z5 : ∀ u, (Y.setCell ⟨pb, 0, none⟩ u).cell? ⟨tb, 1, none⟩ = some (.int .i64 p) := fun u => by simp [World.cell?, (cY u).2]
        have z6 : ∀ u, (Y.setCell ⟨pb, 0, none⟩ u).cell? ⟨tb, 2, none⟩ = some (.string (s.extract p (p + q))) := fun u => by simp [World.cell?, (cY u).2]
        clear cY hS9 hX9 hT9 hb9
        have hm1 : m' + q + 1 - q = m' + 1 := by omega
        have hc1 : c' + q + 1 - q = c' + 1 := by omega
        have zz0 := fun u => cell_again (v := .int .i32 kd) (z0 u)
        have zz1 := fun u => cell_again (v := .int .i64 p) (z1 u)
        have zz2 := fun u => cell_again (v := .string (s.extract p (p + q))) (z2 u)
        go_wp2
        refine bodyPost_ret (by simp [results, Try.results48, go_sem, zz0, z1, z2]; try rfl) rfl ?_
        have hY : Below (w.setCell ⟨pb, 0, none⟩ (.slice (some ⟨g, j * 2 + q * 2, none⟩) (m' + 1) (c' + 1))).heap.size (w.setCell ⟨pb, 0, none⟩ (.slice (some ⟨g, j * 2 + q * 2, none⟩) (m' + 1) (c' + 1))) (Y.setCell ⟨pb, 0, none⟩ (.slice (some ⟨g, j * 2 + q * 2, none⟩) (m' + 1) (c' + 1))) := below_setBoth HB9.out (HS.out.box.lt) _
        have hrw : (w.setCell ⟨pb, 0, none⟩ (.slice (some ⟨g, j * 2 + q * 2, none⟩) (m' + 1) (c' + 1))).heap.size ≤ rb := by rw [← HRB.out]; simp [World.setCell]
        have hf2 := below_set (below_set (below_set hY (p := ⟨rb, 0, none⟩) hrw (.int .i32 kd)) (p := ⟨rb, 1, none⟩) hrw (.int .i64 p)) (p := ⟨rb, 2, none⟩) hrw (.string (s.extract p (p + q)))
        have hJ := (ScIn.jump q (p + q) m' c' HS.out HD.out hle).below hf2
        have hg0 : w.grownBy (w.setCell ⟨pb, 0, none⟩ (.slice (some ⟨g, j * 2 + q * 2, none⟩) (m' + 1) (c' + 1))) (some pb) := grown_setCell _ _ _
        refine ⟨hg0.trans (below_grown hf2 _), ?_⟩
        rw [HRUN.out, if_neg (by omega)]
        exact ⟨rfl, _, _, _, hJ⟩
end

end Go.Proofs.Ytcpdadppblbndaa
