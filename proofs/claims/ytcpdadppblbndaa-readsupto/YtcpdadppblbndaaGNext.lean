/- The program's scanner: the next token. -/
import Derived.Test.YtcpdadppblbndaaGEmp
namespace Go.Proofs.Ytcpdadppblbndaa
open Go.RowKit
set_option maxRecDepth 100000

/-- The kind of a token, as the program counts it. -/
def kindP (k : Nat) : Int := if k = 110 then 97 else if k = 118 then 65 else if k = 102 then 36 else if k = 101 then -1 else if k = 63 then -2 else k
theorem small_gch (s : ByteArray) (p : Nat) (h : p < s.size) : smallB (gch s p) = smallB (byteD s p) := by
  by_cases hb : byteD s p < 128
  · rw [(gch_low s p h hb).1]
  · have h2 : smallB (byteD s p : Int) = false := by simp only [smallB, Bool.and_eq_false_iff, decide_eq_false_iff_not]; omega
    rw [h2]
    rcases gch_high s p h (by omega) with e | e <;> (simp only [smallB, Bool.and_eq_false_iff, decide_eq_false_iff_not]; omega)
theorem large_gch (s : ByteArray) (p : Nat) (h : p < s.size) : largeB (gch s p) = largeB (byteD s p) := by
  by_cases hb : byteD s p < 128
  · rw [(gch_low s p h hb).1]
  · have h2 : largeB (byteD s p : Int) = false := by simp only [largeB, Bool.and_eq_false_iff, decide_eq_false_iff_not]; omega
    rw [h2]
    rcases gch_high s p h (by omega) with e | e <;> (simp only [largeB, Bool.and_eq_false_iff, decide_eq_false_iff_not]; omega)
theorem mark_gch (s : ByteArray) (p : Nat) (h : p < s.size) : markI (gch s p) = markN (byteD s p) := by
  unfold markI markN
  have q : ∀ c : Nat, c < 128 → (gch s p = (c : Int)) = (byteD s p = c) := fun c hc => propext (gch_iff s p h c hc)
  have q1 : (gch s p = 124) = (byteD s p = 124) := q 124 (by omega)
  have q2 : (gch s p = 126) = (byteD s p = 126) := q 126 (by omega)
  have q3 : (gch s p = 40) = (byteD s p = 40) := q 40 (by omega)
  have q4 : (gch s p = 41) = (byteD s p = 41) := q 41 (by omega)
  have q5 : (gch s p = 44) = (byteD s p = 44) := q 44 (by omega)
  have q6 : (gch s p = 46) = (byteD s p = 46) := q 46 (by omega)
  simp only [q1, q2, q3, q4, q5, q6]
section
variable {B : Nat} {w W : World} {pb : Nat} {s : ByteArray} {p g j m c : Nat} {k a : Int} {wd : ByteArray} {vC vP vM : Value}
/-- A token's own box is written. -/
theorem ScIn.setTok {rb : Nat} {cs : Array Value} (h : ScIn B W pb s p g j m c k a wd vC vP vM) (hx : W.heap[rb]? = some (.cells cs 71)) (i : Nat) (u : Value) : ScIn B (W.setCell ⟨rb, i, none⟩ u) pb s p g j m c k a wd vC vP vM ∧ ∃ cs', (W.setCell ⟨rb, i, none⟩ u).heap[rb]? = some (.cells cs' 71) := by
  have hne : pb ≠ rb := by
    rintro rfl
    have := h.box
    unfold ParBox at this
    rw [hx] at this
    simp at this
  refine ⟨⟨?_, h.high, ?_, h.len, h.drop, h.le⟩, ?_⟩
  · unfold ParBox
    rw [Below.heap_setCell _ _ _ _ hne]
    exact h.box
  · refine ownsRow_setCell_other h.row ?_ u
    intro e
    obtain ⟨_, ⟨e2, _⟩ | ⟨g', cap, cur, e2, _, hh, _⟩⟩ := h.row
    · simp at e2
    · simp at e2
      obtain ⟨rfl, _⟩ := e2
      simp [Value.ownBlock] at e
      subst e
      rw [hx] at hh
      simp at hh
  · refine ⟨cs.set! i u, ?_⟩
    have := heap_setCell_same W rb i cs 71 u hx
    simpa using this
theorem ScIn.setTok3 {rb : Nat} {cs : Array Value} (h : ScIn B W pb s p g j m c k a wd vC vP vM) (hx : W.heap[rb]? = some (.cells cs 71)) (u0 u1 u2 : Value) : ScIn B (((W.setCell ⟨rb, 0, none⟩ u0).setCell ⟨rb, 1, none⟩ u1).setCell ⟨rb, 2, none⟩ u2) pb s p g j m c k a wd vC vP vM := by
  obtain ⟨h1, c1, x1⟩ := h.setTok hx 0 u0
  obtain ⟨h2, c2, x2⟩ := h1.setTok x1 1 u1
  exact (h2.setTok x2 2 u2).1
end
theorem grown_far {w W : World} {pb rb i : Nat} (h : w.grownBy W (some pb)) (hr : w.heap.size ≤ rb) (u : Value) : w.grownBy (W.setCell ⟨rb, i, none⟩ u) (some pb) :=
  ⟨h.os, h.tape, h.output, by have := h.size; simpa [World.setCell] using this, fun k hk hne => by rw [Below.heap_setCell _ _ _ _ (by intro e; simp at e; omega)]; exact h.block k hk hne⟩
/-- What next answers. -/
def NextR (B pb : Nat) (s : ByteArray) (p f g : Nat) (k a : Int) (wd : ByteArray) (vC vP vM : Value) (w : World) (e : Ending) (w' : World) : Prop :=
  w.grownBy w' (some pb) ∧
    match nextGo s f p with
    | .tok t q => e = .returned (tokenV (kindP t.kind) t.pos t.txt) ∧ ∃ j m c, ScIn B w' pb s q g j m c k a wd vC vP vM
    | .bad q => e = .returned (tokenV (-2) q ⟨#[]⟩) ∧ ∃ j m c, ScIn B w' pb s q g j m c k a wd vC vP vM
    | .stop q => e = .returned (tokenV (-1) q ⟨#[]⟩) ∧ ∃ j m c, ScIn B w' pb s q g j m c k a wd vC vP vM

/-- The word that begins at a letter, and what the document says of it. -/
theorem tok_word {s : ByteArray} {p : Nat} (hl : (smallB (byteD s p) || largeB (byteD s p)) = true) : insideB (byteD s p) = true := by
  unfold insideB
  rw [Bool.or_eq_true] at hl
  rcases hl with h | h <;> simp [h]
section
variable {B : Nat} {w : World} {pb : Nat} {s : ByteArray} {p g j m c : Nat} {k a : Int} {wd : ByteArray} {vC vP vM : Value}
set_option maxHeartbeats 3000000 in
theorem sNext_any (f : Nat) (h : ScIn B w pb s p g j m c k a wd vC vP vM) (hs : s.size ≤ 3000) (hf : s.size < p + f) :
    Calls Try.prog 36 #[.pointer (some ⟨pb, 0, none⟩)] w fun e w' => NextR B pb s p f g k a wd vC vP vM w e w' := by
  obtain ⟨hn1, hn2, hn3⟩ := nextGo_skip s f p hf h.le
  have CS := hide (fun o => sSkip_any f (h.below ((Below.refl w.heap.size w).alloc (Nat.le_refl _) o)) hf)
  have HX0 : Hid (∀ o, (w.alloc o).heap[w.heap.size]? = some o) := hide fun o => by show (w.heap.push _)[w.heap.size]? = _; simp
  have hpb := h.box.lt
  obtain ⟨p1, hp1⟩ : ∃ p1, skipP s f p = p1 := ⟨_, rfl⟩
  rw [hp1] at hn1 hn2 hn3 CS
  have HN1 := hide hn1
  clear h hp1 hn1
  go_enter Try.func36, Try.ntmps36
  go_upto_region 3 with (first
    | (go_at_call 46; refine (unhide CS _).mono ?_; rintro e w1 ⟨rfl, hg1, j1, m1, c1, hS1⟩; have hx1 := (hg1.block w.heap.size (by simp) (by simp; omega)).trans (HX0.out _); have HS1 := hide hS1; have HX1 := hide hx1; have d0 := hS1.box.c0; have d1 := hS1.at0.1; have d2 := hS1.at0.2; have HG1 : Hid (w.grownBy w1 (some pb)) := hide ((below_grown ((Below.refl w.heap.size w).alloc (Nat.le_refl _) _) (some pb)).trans hg1); have hz1 := hg1.size; clear hg1 hS1 hx1)
    | go_in)
  have hb2 := (Below.refl w1.heap.size w1).alloc (Nat.le_refl _) (.cells #[.int .i32 (gch s p1), .int .i64 p1] 106)
  have HS2 := hide (HS1.out.below hb2)
  have hx2 := hb2.block w.heap.size (by simp at hz1; omega)
  rw [HX1.out] at hx2
  have HX2 := hide hx2
  have HG2 := hide (HG1.out.trans (below_grown hb2 (some pb)))
  have hfb : (w1.alloc (.cells #[.int .i32 (gch s p1), .int .i64 p1] 106)).heap[w1.heap.size]? = some (.cells #[.int .i32 (gch s p1), .int .i64 p1] 106) := by show (w1.heap.push _)[w1.heap.size]? = _; simp
  have b0 : (w1.alloc (.cells #[.int .i32 (gch s p1), .int .i64 p1] 106)).cell? ⟨w1.heap.size, 0, none⟩ = some (.int .i32 (gch s p1)) := by unfold World.cell?; rw [hfb]; rfl
  have b1 : (w1.alloc (.cells #[.int .i32 (gch s p1), .int .i64 p1] 106)).cell? ⟨w1.heap.size, 1, none⟩ = some (.int .i64 p1) := by unfold World.cell?; rw [hfb]; rfl
  have hfz : w1.heap.size < (w1.alloc (.cells #[.int .i32 (gch s p1), .int .i64 p1] 106)).heap.size := by simp
  have HFB := hide hfb
  have hrw : w.heap.size ≤ w.heap.size := Nat.le_refl _
  have hrf : w.heap.size < w1.heap.size := by simp at hz1; omega
  clear hb2 hx2 hfb HS1 HX1 HG1 HX0 CS d0 d1 d2 hz1
  generalize w1.alloc (.cells #[.int .i32 (gch s p1), .int .i64 p1] 106) = w2 at *
  generalize w1.heap.size = fb at *
  obtain ⟨rb, hrbe⟩ : ∃ rb, w.heap.size = rb := ⟨_, rfl⟩
  rw [hrbe] at HX2 hpb hrf
  simp only [hrbe]
  have hrw : w.heap.size ≤ rb := by omega
  clear hrbe
  have CL := hide (fun wx => isLower_any (gch s p1) wx)
  have CU := hide (fun wx => isUpper_any (gch s p1) wx)
  by_cases hlt : p1 < s.size
  · have HTK : Hid (nextGo s f p = tokAt s p1) := hide (by rw [HN1.out, if_pos hlt])
    obtain ⟨hgap, h37⟩ := hn3 hlt
    have hsm := small_gch s p1 hlt
    have hlg := large_gch s p1 hlt
    rw [hsm] at CL
    rw [hlg] at CU
    by_cases hlet : (smallB (byteD s p1) || largeB (byteD s p1)) = true
    · have hin := tok_word hlet
      have htw := tokAt_word hlet
      by_cases hsl : smallB (byteD s p1) = true
      · have hll : largeB (byteD s p1 : Int) = false := by simp only [smallB, Bool.and_eq_true, decide_eq_true_eq] at hsl; simp only [largeB, Bool.and_eq_false_iff, decide_eq_false_iff_not]; omega
        rw [hll] at htw
        rw [hsl] at CL
        obtain ⟨K, Q, T, hKQ, hCX⟩ : ∃ (K : Int) (Q : Nat) (T : ByteArray), (∀ w', w.grownBy w' (some pb) → (∃ j m c, ScIn B w' pb s Q g j m c k a wd vC vP vM) → NextR B pb s p f g k a wd vC vP vM w (.returned (tokenV K p1 T)) w') ∧ Calls Try.prog 48 #[.pointer (some ⟨pb, 0, none⟩), .int .i32 97] w2 fun e w' => e = .returned (.agg #[.int .i32 K, .int .i64 p1, .string T]) ∧ w2.grownBy w' (some pb) ∧ ∃ j m c, ScIn B w' pb s Q g j m c k a wd vC vP vM := by
          by_cases h20 : runP s p1 - p1 > 20
          · refine ⟨-2, p1, ⟨#[]⟩, fun w' hg hS => ⟨hg, by rw [HTK.out, htw, if_pos h20]; exact ⟨rfl, hS⟩⟩, (sWord_any 97 HS2.out hs hlt hin).mono ?_⟩
            rintro e w' ⟨hg, hr⟩
            rw [if_pos h20] at hr
            exact ⟨hr.1, hg, _, _, _, hr.2⟩
          · refine ⟨97, runP s p1, s.extract p1 (runP s p1), fun w' hg hS => ⟨hg, by rw [HTK.out, htw, if_neg h20]; exact ⟨rfl, hS⟩⟩, (sWord_any 97 HS2.out hs hlt hin).mono ?_⟩
            rintro e w' ⟨hg, hr⟩
            rw [if_neg h20] at hr
            exact ⟨hr.1, hg, hr.2⟩
        have HFIN := hide hKQ
        have CX := hide hCX
        clear hKQ hCX hsm hlg htw
        generalize gch s p1 = cc at *
        go_wp2_with (first
          | (go_at_call 47; refine (unhide CL _).mono ?_; rintro e wq ⟨rfl, rfl⟩)
          | (go_at_call 48; refine (unhide CX).mono ?_; rintro e w3 ⟨rfl, hg3, j3, m3, c3, hS3⟩; have hx3 := (hg3.block rb (by omega) (by simp; omega)).trans HX2.out; have HS3 := hide hS3; have HG3 := hide hg3; have HX3 := hide hx3; have t0 : w3.cell? ⟨rb, 0, none⟩ = some (.int .i32 0) := (by simp [World.cell?, hx3]); have t1 : w3.cell? ⟨rb, 1, none⟩ = some (.int .i64 0) := (by simp [World.cell?, hx3]); have t2 : w3.cell? ⟨rb, 2, none⟩ = some (.string ⟨#[]⟩) := (by simp [World.cell?, hx3]); have tt0 := fun v => cell_again (v := v) t0; have t3 : ∀ i, w3.frozen? ⟨rb, i, none⟩ = false := (fun i => by simp [World.frozen?, hx3]); clear hg3 hS3 hx3)
          | go_in)
        refine bodyPost_ret (by simp [results, Try.results36, go_sem, tt0, t1, t2]; try rfl) rfl ?_
        exact HFIN.out _ (grown_far (grown_far (grown_far (HG2.out.trans HG3.out) hrw _) hrw _) hrw _) ⟨_, _, _, HS3.out.setTok3 HX3.out _ _ _⟩
      · have hsf : smallB (byteD s p1 : Int) = false := by simpa using hsl
        have hll : largeB (byteD s p1 : Int) = true := by rw [hsf] at hlet; simpa using hlet
        rw [hll] at htw CU
        rw [hsf] at CL
        obtain ⟨K, Q, T, hKQ, hCX⟩ : ∃ (K : Int) (Q : Nat) (T : ByteArray), (∀ w', w.grownBy w' (some pb) → (∃ j m c, ScIn B w' pb s Q g j m c k a wd vC vP vM) → NextR B pb s p f g k a wd vC vP vM w (.returned (tokenV K p1 T)) w') ∧ Calls Try.prog 48 #[.pointer (some ⟨pb, 0, none⟩), .int .i32 65] w2 fun e w' => e = .returned (.agg #[.int .i32 K, .int .i64 p1, .string T]) ∧ w2.grownBy w' (some pb) ∧ ∃ j m c, ScIn B w' pb s Q g j m c k a wd vC vP vM := by
          by_cases h20 : runP s p1 - p1 > 20
          · refine ⟨-2, p1, ⟨#[]⟩, fun w' hg hS => ⟨hg, by rw [HTK.out, htw, if_pos h20]; exact ⟨rfl, hS⟩⟩, (sWord_any 65 HS2.out hs hlt hin).mono ?_⟩
            rintro e w' ⟨hg, hr⟩
            rw [if_pos h20] at hr
            exact ⟨hr.1, hg, _, _, _, hr.2⟩
          · refine ⟨65, runP s p1, s.extract p1 (runP s p1), fun w' hg hS => ⟨hg, by rw [HTK.out, htw, if_neg h20]; exact ⟨rfl, hS⟩⟩, (sWord_any 65 HS2.out hs hlt hin).mono ?_⟩
            rintro e w' ⟨hg, hr⟩
            rw [if_neg h20] at hr
            exact ⟨hr.1, hg, hr.2⟩
        have HFIN := hide hKQ
        have CX := hide hCX
        clear hKQ hCX hsm hlg htw
        generalize gch s p1 = cc at *
        go_wp2_with (first
          | (go_at_call 47; refine (unhide CL _).mono ?_; rintro e wq ⟨rfl, rfl⟩)
          | (go_at_call 49; refine (unhide CU _).mono ?_; rintro e wq ⟨rfl, rfl⟩)
          | (go_at_call 48; refine (unhide CX).mono ?_; rintro e w3 ⟨rfl, hg3, j3, m3, c3, hS3⟩; have hx3 := (hg3.block rb (by omega) (by simp; omega)).trans HX2.out; have HS3 := hide hS3; have HG3 := hide hg3; have HX3 := hide hx3; have t0 : w3.cell? ⟨rb, 0, none⟩ = some (.int .i32 0) := (by simp [World.cell?, hx3]); have t1 : w3.cell? ⟨rb, 1, none⟩ = some (.int .i64 0) := (by simp [World.cell?, hx3]); have t2 : w3.cell? ⟨rb, 2, none⟩ = some (.string ⟨#[]⟩) := (by simp [World.cell?, hx3]); have tt0 := fun v => cell_again (v := v) t0; have t3 : ∀ i, w3.frozen? ⟨rb, i, none⟩ = false := (fun i => by simp [World.frozen?, hx3]); clear hg3 hS3 hx3)
          | go_in)
        refine bodyPost_ret (by simp [results, Try.results36, go_sem, tt0, t1, t2]; try rfl) rfl ?_
        exact HFIN.out _ (grown_far (grown_far (grown_far (HG2.out.trans HG3.out) hrw _) hrw _) hrw _) ⟨_, _, _, HS3.out.setTok3 HX3.out _ _ _⟩
    · have hsf : smallB (byteD s p1 : Int) = false := by simp at hlet; exact hlet.1
      have hlf : largeB (byteD s p1 : Int) = false := by simp at hlet; exact hlet.2
      have hlet' : (smallB (byteD s p1) || largeB (byteD s p1)) = false := by rw [hsf, hlf]; rfl
      rw [hsf] at CL
      rw [hlf] at CU
      by_cases h39 : byteD s p1 = 39
      · have hg39 := (gch_iff s p1 hlt 39 (by omega)).2 h39
        have htq := tokAt_quo hlet' h39
        obtain ⟨K, Q, T, hKQ, hCX⟩ : ∃ (K : Int) (Q : Nat) (T : ByteArray), (∀ w', w.grownBy w' (some pb) → (∃ j m c, ScIn B w' pb s Q g j m c k a wd vC vP vM) → NextR B pb s p f g k a wd vC vP vM w (.returned (tokenV K p1 T)) w') ∧ Calls Try.prog 50 #[.pointer (some ⟨pb, 0, none⟩)] w2 fun e w' => e = .returned (.agg #[.int .i32 K, .int .i64 p1, .string T]) ∧ w2.grownBy w' (some pb) ∧ ∃ j m c, ScIn B w' pb s Q g j m c k a wd vC vP vM := by
          cases hq : quoP s p1 with
          | none =>
            rw [hq] at htq
            refine ⟨-2, p1, ⟨#[]⟩, fun w' hg hS => ⟨hg, by rw [HTK.out, htq]; exact ⟨rfl, hS⟩⟩, (sQuoted_any HS2.out hs hg39).mono ?_⟩
            rintro e w' ⟨hg, hr⟩
            rw [hq] at hr
            exact ⟨hr.1, hg, _, _, _, hr.2⟩
          | some r =>
            obtain ⟨n, q⟩ := r
            rw [hq] at htq
            refine ⟨97, q, n, fun w' hg hS => ⟨hg, by rw [HTK.out, htq]; exact ⟨rfl, hS⟩⟩, (sQuoted_any HS2.out hs hg39).mono ?_⟩
            rintro e w' ⟨hg, hr⟩
            rw [hq] at hr
            exact ⟨hr.1, hg, hr.2⟩
        have HFIN := hide hKQ
        have CX := hide hCX
        rw [hg39] at b0 CL CU
        clear hKQ hCX hsm hlg htq hg39
        go_wp2_with (first
          | (go_at_call 47; refine (unhide CL _).mono ?_; rintro e wq ⟨rfl, rfl⟩)
          | (go_at_call 49; refine (unhide CU _).mono ?_; rintro e wq ⟨rfl, rfl⟩)
          | (go_at_call 50; refine (unhide CX).mono ?_; rintro e w3 ⟨rfl, hg3, j3, m3, c3, hS3⟩; have hx3 := (hg3.block rb (by omega) (by simp; omega)).trans HX2.out; have HS3 := hide hS3; have HG3 := hide hg3; have HX3 := hide hx3; have t0 : w3.cell? ⟨rb, 0, none⟩ = some (.int .i32 0) := (by simp [World.cell?, hx3]); have t1 : w3.cell? ⟨rb, 1, none⟩ = some (.int .i64 0) := (by simp [World.cell?, hx3]); have t2 : w3.cell? ⟨rb, 2, none⟩ = some (.string ⟨#[]⟩) := (by simp [World.cell?, hx3]); have tt0 := fun v => cell_again (v := v) t0; have t3 : ∀ i, w3.frozen? ⟨rb, i, none⟩ = false := (fun i => by simp [World.frozen?, hx3]); clear hg3 hS3 hx3)
          | go_in)
        refine bodyPost_ret (by simp [results, Try.results36, go_sem, tt0, t1, t2]; try rfl) rfl ?_
        exact HFIN.out _ (grown_far (grown_far (grown_far (HG2.out.trans HG3.out) hrw _) hrw _) hrw _) ⟨_, _, _, HS3.out.setTok3 HX3.out _ _ _⟩
      · have hn39 : gch s p1 ≠ 39 := fun e => h39 ((gch_iff s p1 hlt 39 (by omega)).1 e)
        by_cases h36 : byteD s p1 = 36
        · have hg36 := (gch_iff s p1 hlt 36 (by omega)).2 h36
          have htq := tokAt_false hlet' h39 h36
          obtain ⟨K, Q, hKQ, hCX⟩ : ∃ (K : Int) (Q : Nat), (∀ w', w.grownBy w' (some pb) → (∃ j m c, ScIn B w' pb s Q g j m c k a wd vC vP vM) → NextR B pb s p f g k a wd vC vP vM w (.returned (tokenV K p1 ⟨#[]⟩)) w') ∧ Calls Try.prog 51 #[.pointer (some ⟨pb, 0, none⟩)] w2 fun e w' => e = .returned (.agg #[.int .i32 K, .int .i64 p1, .string ⟨#[]⟩]) ∧ w2.grownBy w' (some pb) ∧ ∃ j m c, ScIn B w' pb s Q g j m c k a wd vC vP vM := by
            by_cases hF : isF s p1
            · rw [if_pos (show p1 + 6 ≤ s.size ∧ s.extract p1 (p1 + 6) = ⟨#[36, 102, 97, 108, 115, 101]⟩ from hF)] at htq
              refine ⟨36, p1 + 6, fun w' hg hS => ⟨hg, by rw [HTK.out, htq]; exact ⟨rfl, hS⟩⟩, (sEmpty_any HS2.out).mono ?_⟩
              rintro e w' ⟨hg, hr | hr⟩
              · exact ⟨hr.2.1, hg, hr.2.2⟩
              · exact absurd hF hr.1
            · rw [if_neg (show ¬ (p1 + 6 ≤ s.size ∧ s.extract p1 (p1 + 6) = ⟨#[36, 102, 97, 108, 115, 101]⟩) from hF)] at htq
              refine ⟨-2, p1, fun w' hg hS => ⟨hg, by rw [HTK.out, htq]; exact ⟨rfl, hS⟩⟩, (sEmpty_any HS2.out).mono ?_⟩
              rintro e w' ⟨hg, hr | hr⟩
              · exact absurd hr.1 hF
              · exact ⟨hr.2.1, hg, _, _, _, hr.2.2⟩
          have HFIN := hide hKQ
          have CX := hide hCX
          rw [hg36] at b0 CL CU
          clear hKQ hCX hsm hlg htq hg36 hn39
          go_wp2_with (first
            | (go_at_call 47; refine (unhide CL _).mono ?_; rintro e wq ⟨rfl, rfl⟩)
            | (go_at_call 49; refine (unhide CU _).mono ?_; rintro e wq ⟨rfl, rfl⟩)
            | (go_at_call 51; refine (unhide CX).mono ?_; rintro e w3 ⟨rfl, hg3, j3, m3, c3, hS3⟩; have hx3 := (hg3.block rb (by omega) (by simp; omega)).trans HX2.out; have HS3 := hide hS3; have HG3 := hide hg3; have HX3 := hide hx3; have t0 : w3.cell? ⟨rb, 0, none⟩ = some (.int .i32 0) := (by simp [World.cell?, hx3]); have t1 : w3.cell? ⟨rb, 1, none⟩ = some (.int .i64 0) := (by simp [World.cell?, hx3]); have t2 : w3.cell? ⟨rb, 2, none⟩ = some (.string ⟨#[]⟩) := (by simp [World.cell?, hx3]); have tt0 := fun v => cell_again (v := v) t0; have t3 : ∀ i, w3.frozen? ⟨rb, i, none⟩ = false := (fun i => by simp [World.frozen?, hx3]); clear hg3 hS3 hx3)
            | go_in)
          refine bodyPost_ret (by simp [results, Try.results36, go_sem, tt0, t1, t2]; try rfl) rfl ?_
          exact HFIN.out _ (grown_far (grown_far (grown_far (HG2.out.trans HG3.out) hrw _) hrw _) hrw _) ⟨_, _, _, HS3.out.setTok3 HX3.out _ _ _⟩
        · have hn36 : gch s p1 ≠ 36 := fun e => h36 ((gch_iff s p1 hlt 36 (by omega)).1 e)
          have htm := tokAt_mark hlet' h39 h36
          have hmk := mark_gch s p1 hlt
          have CM := hide (isMark_any (gch s p1) w2 (gch_ok s p1))
          rw [hmk] at CM
          have hn1 := gch_ne_end s p1 hlt
          cases hm : markN (byteD s p1)
          · rw [hm] at CM htm
            have HFIN : Hid (∀ w', w.grownBy w' (some pb) → (∃ j m c, ScIn B w' pb s p1 g j m c k a wd vC vP vM) → NextR B pb s p f g k a wd vC vP vM w (.returned (tokenV (-2) p1 ⟨#[]⟩)) w') := hide fun w' hg hS => ⟨hg, by rw [HTK.out, htm]; exact ⟨rfl, hS⟩⟩
            clear hsm hlg htm hmk hm
            generalize gch s p1 = cc at *
            have q39 : (cc == 39) = false := by simpa using hn39
            have q36 : (cc == 36) = false := by simpa using hn36
            have qe : (cc == -1) = false := by simpa using hn1
            go_wp2_with (first
              | (go_at_call 47; refine (unhide CL _).mono ?_; rintro e wq ⟨rfl, rfl⟩)
              | (go_at_call 49; refine (unhide CU _).mono ?_; rintro e wq ⟨rfl, rfl⟩)
              | (go_at_call 52; refine (unhide CM).mono ?_; rintro e w4 ⟨rfl, hb4⟩; have HB4 := hide hb4; have hx4 := (hb4.block rb (by omega)).trans HX2.out; have HX4 := hide hx4; have hf4 := (hb4.block fb hfz).trans HFB.out; have q0 : w4.cell? ⟨fb, 0, none⟩ = some (.int .i32 (cc)) := (by unfold World.cell?; rw [hf4]; rfl); have q1 : w4.cell? ⟨fb, 1, none⟩ = some (.int .i64 p1) := (by unfold World.cell?; rw [hf4]; rfl); have hS4 := HS2.out.below hb4; have g0 := hS4.box.c0; have gf := hS4.box.soft 0; have HS4 := hide hS4; clear hb4 hx4 hf4 hS4)
              | (go_at_call 53; refine (sBad_any HS4.out).mono ?_; rintro e w3 ⟨rfl, hb3⟩; unfold tokenV; have hsz := HB4.out.size; have hx3 := (hb3.block rb (by omega)).trans HX4.out; have HS3 := hide (HS4.out.below hb3); have HG3 := hide ((below_grown HB4.out (some pb)).trans (below_grown hb3 (some pb))); have HX3 := hide hx3; have t0 : w3.cell? ⟨rb, 0, none⟩ = some (.int .i32 0) := (by simp [World.cell?, hx3]); have t1 : w3.cell? ⟨rb, 1, none⟩ = some (.int .i64 0) := (by simp [World.cell?, hx3]); have t2 : w3.cell? ⟨rb, 2, none⟩ = some (.string ⟨#[]⟩) := (by simp [World.cell?, hx3]); have tt0 := fun v => cell_again (v := v) t0; have t3 : ∀ i, w3.frozen? ⟨rb, i, none⟩ = false := (fun i => by simp [World.frozen?, hx3]); clear hb3 hx3)
              | go_in)
            refine bodyPost_ret (by simp [results, Try.results36, go_sem, tt0, t1, t2]; try rfl) rfl ?_
            exact HFIN.out _ (grown_far (grown_far (grown_far (HG2.out.trans HG3.out) hrw _) hrw _) hrw _) ⟨_, _, _, HS3.out.setTok3 HX3.out _ _ _⟩
          · rw [hm] at CM htm
            have hlow : byteD s p1 < 128 := by unfold markN at hm; simp at hm; omega
            obtain ⟨hgl, hw1⟩ := gch_low s p1 hlt hlow
            have hkp : kindP (byteD s p1) = gch s p1 := by
              rw [hgl]
              have hor : byteD s p1 = 124 ∨ byteD s p1 = 126 ∨ byteD s p1 = 40 ∨ byteD s p1 = 41 ∨ byteD s p1 = 44 ∨ byteD s p1 = 46 := by unfold markN at hm; simp at hm; omega
              generalize byteD s p1 = bb at hor ⊢
              rcases hor with rfl | rfl | rfl | rfl | rfl | rfl <;> rfl
            have HFIN : Hid (∀ w', w.grownBy w' (some pb) → (∃ j m c, ScIn B w' pb s (p1 + 1) g j m c k a wd vC vP vM) → NextR B pb s p f g k a wd vC vP vM w (.returned (tokenV (gch s p1) p1 ⟨#[]⟩)) w') := hide fun w' hg hS => ⟨hg, by rw [HTK.out, htm]; exact ⟨by rw [← hkp], hS⟩⟩
            obtain ⟨m', c', rfl, rfl⟩ := HS2.out.more hlt
            clear hsm hlg htm hmk hm hgl hkp
            generalize gch s p1 = cc at *
            have q39 : (cc == 39) = false := by simpa using hn39
            have q36 : (cc == 36) = false := by simpa using hn36
            go_wp2_with (first
              | (go_at_call 47; refine (unhide CL _).mono ?_; rintro e wq ⟨rfl, rfl⟩)
              | (go_at_call 49; refine (unhide CU _).mono ?_; rintro e wq ⟨rfl, rfl⟩)
              | (go_at_call 52; refine (unhide CM).mono ?_; rintro e w4 ⟨rfl, hb4⟩; have HB4 := hide hb4; have hx4 := (hb4.block rb (by omega)).trans HX2.out; have hf4 := (hb4.block fb hfz).trans HFB.out; have hS4 := HS2.out.below hb4; have g0 := hS4.box.c0; have gf := hS4.box.soft 0; have HS5 := hide (hS4.step hlt); have cY : ∀ u, (w4.setCell ⟨pb, 0, none⟩ u).heap[rb]? = some (.cells #[.int .i32 0, .int .i64 0, .string ⟨#[]⟩] 71) ∧ (w4.setCell ⟨pb, 0, none⟩ u).heap[fb]? = some (.cells #[.int .i32 cc, .int .i64 p1] 106) := (fun u => ⟨by rw [Below.heap_setCell _ _ _ _ (show rb ≠ pb by omega)]; exact hx4, by rw [Below.heap_setCell _ _ _ _ (show fb ≠ pb by omega)]; exact hf4⟩); have q0 : ∀ u, (w4.setCell ⟨pb, 0, none⟩ u).cell? ⟨fb, 0, none⟩ = some (.int .i32 cc) := (fun u => by unfold World.cell?; rw [(cY u).2]; rfl); have q1 : ∀ u, (w4.setCell ⟨pb, 0, none⟩ u).cell? ⟨fb, 1, none⟩ = some (.int .i64 p1) := (fun u => by unfold World.cell?; rw [(cY u).2]; rfl); have t0 : ∀ u, (w4.setCell ⟨pb, 0, none⟩ u).cell? ⟨rb, 0, none⟩ = some (.int .i32 0) := (fun u => by unfold World.cell?; rw [(cY u).1]; rfl); have t1 : ∀ u, (w4.setCell ⟨pb, 0, none⟩ u).cell? ⟨rb, 1, none⟩ = some (.int .i64 0) := (fun u => by unfold World.cell?; rw [(cY u).1]; rfl); have t2 : ∀ u, (w4.setCell ⟨pb, 0, none⟩ u).cell? ⟨rb, 2, none⟩ = some (.string ⟨#[]⟩) := (fun u => by unfold World.cell?; rw [(cY u).1]; rfl); have t3 : ∀ u i, (w4.setCell ⟨pb, 0, none⟩ u).frozen? ⟨rb, i, none⟩ = false := (fun u i => by simp [World.frozen?, (cY u).1]); have tt0 := fun u v => cell_again (v := v) (t0 u); have HCY := hide cY; clear hb4 hx4 hf4 hS4 cY)
              | go_in)
            refine bodyPost_ret (by simp [results, Try.results36, go_sem, tt0, t1, t2]; try rfl) rfl ?_
            have hg5 := grown_set (j := 0) (HG2.out.trans (below_grown HB4.out (some pb))) (.slice (some ⟨g, j1 * 2 + 2, none⟩) (m' + 1) (c' + 1))
            have hS5 := HS5.out
            rw [hw1] at hS5
            exact HFIN.out _ (grown_far (grown_far (grown_far hg5 hrw _) hrw _) hrw _) ⟨_, _, _, hS5.setTok3 (HCY.out _).1 _ _ _⟩
  · have hpe : p1 = s.size := by omega
    have hge := gch_end s p1 hlt
    have CM := hide (isMark_any (gch s p1) w2 (gch_ok s p1))
    rw [hge] at CM CL CU b0
    rw [show markI (-1) = false by decide] at CM
    rw [show smallB (-1) = false by decide] at CL
    rw [show largeB (-1) = false by decide] at CU
    rw [hge] at HFB
    have HFIN : Hid (∀ w', w.grownBy w' (some pb) → (∃ j m c, ScIn B w' pb s p1 g j m c k a wd vC vP vM) → NextR B pb s p f g k a wd vC vP vM w (.returned (tokenV (-1) p1 ⟨#[]⟩)) w') := hide fun w' hg hS => ⟨hg, by rw [HN1.out, if_neg hlt, ← hpe]; exact ⟨rfl, hS⟩⟩
    clear hge hpe
    go_wp2_with (first
      | (go_at_call 47; refine (unhide CL _).mono ?_; rintro e wq ⟨rfl, rfl⟩)
      | (go_at_call 49; refine (unhide CU _).mono ?_; rintro e wq ⟨rfl, rfl⟩)
      | (go_at_call 52; refine (unhide CM).mono ?_; rintro e w4 ⟨rfl, hb4⟩; have HB4 := hide hb4; have hx4 := (hb4.block rb (by omega)).trans HX2.out; have hf4 := (hb4.block fb hfz).trans HFB.out; have HX4 := hide hx4; have HS4 := hide (HS2.out.below hb4); have q0 : w4.cell? ⟨fb, 0, none⟩ = some (.int .i32 (-1)) := (by unfold World.cell?; rw [hf4]; rfl); have q1 : w4.cell? ⟨fb, 1, none⟩ = some (.int .i64 p1) := (by unfold World.cell?; rw [hf4]; rfl); have t0 : w4.cell? ⟨rb, 0, none⟩ = some (.int .i32 0) := (by simp [World.cell?, hx4]); have t1 : w4.cell? ⟨rb, 1, none⟩ = some (.int .i64 0) := (by simp [World.cell?, hx4]); have t2 : w4.cell? ⟨rb, 2, none⟩ = some (.string ⟨#[]⟩) := (by simp [World.cell?, hx4]); have tt0 := fun v => cell_again (v := v) t0; have t3 : ∀ i, w4.frozen? ⟨rb, i, none⟩ = false := (fun i => by simp [World.frozen?, hx4]); clear hb4 hx4 hf4)
      | go_in)
    refine bodyPost_ret (by simp [results, Try.results36, go_sem, tt0, t1, t2]; try rfl) rfl ?_
    exact HFIN.out _ (grown_far (grown_far (grown_far (HG2.out.trans (below_grown HB4.out (some pb))) hrw _) hrw _) hrw _) ⟨_, _, _, HS4.out.setTok3 HX4.out _ _ _⟩
end

end Go.Proofs.Ytcpdadppblbndaa
