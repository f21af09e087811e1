/- The program's scanner: a name between signs, walked. -/
import Derived.Test.YtcpdadppblbndaaGWordM
import Derived.Test.YtcpdadppblbndaaGWord2
namespace Go.Proofs.Ytcpdadppblbndaa
open Go.RowKit
set_option maxRecDepth 100000

/-- The characters in memory, from a place on. -/
structure GlIn (B : Nat) (w : World) (s : ByteArray) (p g j m c : Nat) : Prop where
  row : w.ownsRow B 106 2 (.slice (some ⟨g, 0, none⟩) (j + m + 1) (j + c + 1)) (j + m + 1) (glyCells (glyL s 0))
  len : (glyL s 0).length = j + m + 1
  drop : (glyL s 0).drop j = glyL s p
  le : p ≤ s.size
section
variable {B : Nat} {w w' : World} {pb : Nat} {s : ByteArray} {p g j m c : Nat} {k a : Int} {wd : ByteArray} {vC vP vM : Value}
theorem ScIn.gl (h : ScIn B w pb s p g j m c k a wd vC vP vM) : GlIn B w s p g j m c := ⟨h.row, h.len, h.drop, h.le⟩
theorem GlIn.below (h : GlIn B w s p g j m c) (q : Below w.heap.size w w') : GlIn B w' s p g j m c := ⟨own_below h.row q (Nat.le_refl _), h.len, h.drop, h.le⟩
theorem GlIn.at0 (h : GlIn B w s p g j m c) : w.cell? ⟨g, j * 2, none⟩ = some (.int .i32 (gch s p)) ∧ w.cell? ⟨g, j * 2 + 1, none⟩ = some (.int .i64 p) := by
  obtain ⟨r, hr⟩ := glyL_first s p h.le
  have hj : j < (glyL s 0).length := by have := h.len; omega
  have he : (glyL s 0)[j] = (gch s p, p) := by
    have h1 : ((glyL s 0).drop j)[0]? = some (gch s p, p) := by rw [h.drop, hr]; rfl
    rw [List.getElem?_drop, List.getElem?_eq_getElem (by omega)] at h1
    simpa using h1
  obtain ⟨q1, q2⟩ := glyCells_at (glyL s 0) j hj
  rw [he] at q1 q2
  exact ⟨by rw [h.row.cellAt _ (by omega), q1], by rw [h.row.cellAt _ (by omega), q2]⟩
theorem GlIn.more (h : GlIn B w s p g j m c) (hp : p < s.size) : ∃ m' c', m = m' + 1 ∧ c = c' + 1 ∧ GlIn B w s (p + gwd s p) g (j + 1) m' c' := by
  have hl := h.len
  have hd := congrArg List.length h.drop
  rw [List.length_drop, glyL_on hp, List.length_cons] at hd
  have h1 := (glyL_len s _ (p + (Utf8.decode s p).2) (Nat.le_refl _)).1
  obtain ⟨_, hr⟩ := h.row
  rcases hr with ⟨e, _⟩ | ⟨g', cap, cur, e, _, _, hc, _⟩
  · simp at e
  · simp at e
    obtain ⟨_, rfl⟩ := e
    have hrow := h.row
    obtain ⟨m', rfl⟩ : ∃ m', m = m' + 1 := ⟨m - 1, by omega⟩
    obtain ⟨c', rfl⟩ : ∃ c', c = c' + 1 := ⟨c - 1, by omega⟩
    refine ⟨m', c', rfl, rfl, ?_, by omega, ?_, gwd_in s p hp⟩
    · rw [show j + 1 + m' + 1 = j + (m' + 1) + 1 by omega, show j + 1 + c' + 1 = j + (c' + 1) + 1 by omega]
      exact hrow
    · have e1 : (glyL s 0).drop (j + 1) = ((glyL s 0).drop j).drop 1 := by rw [List.drop_drop]
      rw [e1, h.drop, glyL_on hp]
      rfl
/-- The scanner goes to a place. -/
theorem ScIn.put (h : ScIn B w pb s p g j m c k a wd vC vP vM) {p' j' m' c' : Nat} (hg : GlIn B w s p' g j' m' c') : ScIn B (w.setCell ⟨pb, 0, none⟩ (.slice (some ⟨g, j' * 2, none⟩) (m' + 1) (c' + 1))) pb s p' g j' m' c' k a wd vC vP vM :=
  ⟨h.box.set0 _, h.high, h.box.row hg.row (by decide) _ _, hg.len, hg.drop, hg.le⟩
end
/-- While the characters of a name are gathered. -/
structure Qlp (B : Nat) (w w1 : World) (s : ByteArray) (p g : Nat) (v rest : Value) (f q j m c : Nat) (rs : List Int) (wr : World) : Prop where
  gl : GlIn B w s q g j m c
  rst : rest = .slice (some ⟨g, j * 2, none⟩) (m + 1) (c + 1)
  row : wr.ownsRow w1.heap.size 21 1 v rs.length (rs.map (Value.int .i32))
  far : Below w1.heap.size w1 wr
  quo : quoP s p = quoGo s f (runesBytes rs) q
  fuel : s.size ≤ q + f
  ok : NmOk rs
  few : rs.length ≤ q
theorem conv_name {W : World} {B : Nat} {g2 vc : Nat} {rs : List Int} (hr : W.ownsRow B 21 1 (.slice (some ⟨g2, 0, none⟩) rs.length vc) rs.length (rs.map (Value.int .i32))) :
    (convert 113 9 (.slice (some ⟨g2, 0, none⟩) rs.length vc)).run Try.prog W = .ok (.string (runesBytes rs)) W := by
  have h := run_convert_runes (P := Try.prog) W 113 9 21 ⟨g2, 0, none⟩ rs.length vc rs (by omega) Try.underlying113 (by kernel_rfl) (by kernel_rfl) (fun i hi => by
    have := hr.cellAt i (by omega)
    rw [List.getElem?_map, List.getElem?_eq_getElem hi, Option.map_some] at this
    rw [show (⟨g2, 0, none⟩ : Addr).add i = ⟨g2, i, none⟩ by simp [Addr.add]; omega, this]
    simp [List.getD, hi])
  rw [h, List.take_of_length_le (by omega)]
/-- What quoted answers. -/
def QuotR (B pb : Nat) (s : ByteArray) (p g j m c : Nat) (k a : Int) (wd : ByteArray) (vC vP vM : Value) (w : World) (e : Ending) (w' : World) : Prop :=
  w.grownBy w' (some pb) ∧
    match quoP s p with
    | none => e = .returned (tokenV (-2) p ⟨#[]⟩) ∧ ScIn B w' pb s p g j m c k a wd vC vP vM
    | some (n, e') => e = .returned (tokenV 97 p n) ∧ ∃ j' m' c', ScIn B w' pb s e' g j' m' c' k a wd vC vP vM
theorem QuotR.bad {B pb : Nat} {s : ByteArray} {p g j m c : Nat} {k a : Int} {wd : ByteArray} {vC vP vM : Value} {w w' : World} (h : ScIn B w pb s p g j m c k a wd vC vP vM) (hb : Below w.heap.size w w') (hq : quoP s p = none) : QuotR B pb s p g j m c k a wd vC vP vM w (.returned (tokenV (-2) p ⟨#[]⟩)) w' := by
  refine ⟨below_grown hb _, ?_⟩
  rw [hq]
  exact ⟨rfl, h.below hb⟩
section
variable {B : Nat} {pb : Nat} {s : ByteArray} {p g j m c : Nat} {k a : Int} {wd : ByteArray} {vC vP vM : Value}
set_option maxHeartbeats 3000000 in
theorem sQuoted_any {w : World} (h : ScIn B w pb s p g j m c k a wd vC vP vM) (hs : s.size ≤ 3000) (h39 : gch s p = 39) :
    Calls Try.prog 50 #[.pointer (some ⟨pb, 0, none⟩)] w fun e w' => QuotR B pb s p g j m c k a wd vC vP vM w e w' := by
  have hp0 : p < s.size := Classical.byContradiction fun hn => by rw [gch_end s p hn] at h39; omega
  have hw1 : gwd s p = 1 := (gch_low s p hp0 (by have := (gch_iff s p hp0 39 (by omega)).1 h39; omega)).2
  obtain ⟨iR, hR, hR0, hR1, hR2⟩ := info_parts infoRune
  obtain ⟨m0, c0, rfl, rfl, hG0⟩ := h.gl.more hp0
  rw [hw1] at hG0
  have d0 := h.box.c0
  have e0 : ∀ o, (w.alloc o).cell? ⟨pb, 0, none⟩ = some (.slice (some ⟨g, j * 2, none⟩) (m0 + 1 + 1) (c0 + 1 + 1)) := fun o => Below.at' ((Below.refl _ w).alloc (Nat.le_refl _) o) (Nat.le_refl _) d0
  have HB0 : Hid (∀ o, Below w.heap.size w (w.alloc o)) := hide fun o => (Below.refl _ _).alloc (Nat.le_refl _) o
  have HX0 : Hid (∀ o, (w.alloc o).heap[w.heap.size]? = some o ∧ (w.alloc o).heap.size = w.heap.size + 1) := hide fun o => ⟨by show (w.heap.push _)[w.heap.size]? = _; simp, by simp⟩
  have HS := hide h
  have hpb := h.box.lt
  have HG0 := hide hG0
  clear h d0 hG0
  go_enter Try.func50, Try.ntmps50
  go_wp2
  have hb1 := HB0.out (.cells #[.int .i32 0, .int .i64 0, .string ⟨#[]⟩] 71)
  have HS1 := hide (HS.out.below hb1)
  obtain ⟨hx1, hz1⟩ := HX0.out (.cells #[.int .i32 0, .int .i64 0, .string ⟨#[]⟩] 71)
  have HB1 := hide hb1
  have HX1 := hide hx1
  clear hb1 hx1 HB0 HX0
  generalize w.alloc (.cells #[.int .i32 0, .int .i64 0, .string ⟨#[]⟩] 71) = w1 at *
  have hrb : w.heap.size < w1.heap.size := by omega
  obtain ⟨rb, hrbe⟩ : ∃ rb, w.heap.size = rb := ⟨_, rfl⟩
  rw [hrbe] at hrb HX1 hpb
  simp only [hrbe]
  have HRB := hide hrbe
  clear hrbe hz1 e0
  go_loopg [3, 4] s.size (fun f v rest wr => ∃ q j' m' c' rs, Qlp B w w1 s p g v rest f q j' m' c' rs wr)
  case atStart => exact ⟨p + 1, j + 1, m0, c0, [], HG0.out, by rw [show (j + 1) * 2 = j * 2 + 2 by omega], World.ownsRow_nil _ _ _ _, Below.refl _ _, rfl, by omega, NmOk.nil, by simp⟩
  case round =>
    obtain ⟨q, jq, mq, cq, rs, hL⟩ := hrel
    have hrst := hL.rst
    subst hrst
    have hGr := (hL.gl.below HB1.out).below hL.far
    have a0 := hGr.at0.1
    have hqle := hL.gl.le
    have hfuel := hL.fuel
    have hfew := hL.few
    have hfs := hL.far.size
    have HL := hide hL
    have HBW : Hid (Below w.heap.size w wr) := hide (HB1.out.trans (hL.far.mono HB1.out.size))
    have HXR : Hid (wr.heap[rb]? = some (.cells #[.int .i32 0, .int .i64 0, .string ⟨#[]⟩] 71)) := hide ((hL.far.block rb hrb).trans HX1.out)
    have HSR := hide (HS1.out.below hL.far)
    by_cases c39 : gch s q = 39
    · obtain ⟨hlt, hqe⟩ := quo_end (rs := rs) hfuel c39
      have hname := hL.ok.name
      rw [c39] at a0
      by_cases hn : 1 ≤ rs.length ∧ rs.length ≤ 20
      · have HYES : Hid (quoP s p = some (runesBytes rs, q + 1)) := hide (by rw [hL.quo, hqe, hname, decide_eq_true hn.1, decide_eq_true hn.2]; rfl)
        obtain ⟨m2, c2, rfl, rfl, hG2⟩ := hL.gl.more hlt
        have hw1q : gwd s q = 1 := (gch_low s q hlt (by have := (gch_iff s q hlt 39 (by omega)).1 c39; omega)).2
        rw [hw1q] at hG2
        obtain ⟨g2, vc2, rfl⟩ := own_at hL.row (by omega)
        have hn0 : ((rs.length : Int) == 0) = false := by rw [beq_eq_false_iff_ne]; omega
        have hn20 : decide ((20 : Int) < (rs.length : Int)) = false := by simp; omega
        have v0 := HSR.out.box.c0
        have v1 := HSR.out.at0.2
        have v0A : ∀ o, (wr.alloc o).cell? ⟨pb, 0, none⟩ = some (.slice (some ⟨g, j * 2, none⟩) (m0 + 1 + 1) (c0 + 1 + 1)) := fun o => Below.at' ((Below.refl wr.heap.size wr).alloc (Nat.le_refl _) o) (Nat.le_refl _) v0
        have v1A : ∀ o, (wr.alloc o).cell? ⟨g, j * 2 + 1, none⟩ = some (.int .i64 p) := fun o => Below.at' ((Below.refl wr.heap.size wr).alloc (Nat.le_refl _) o) (Nat.le_refl _) v1
        have hcv := conv_name (W := wr.drew) hL.row
        have hcvA := fun o => conv_name (W := (wr.alloc o).drew) (World.ownsRow.alloc (w := wr) hL.row o)
        have hpos : (0 : Int) < (m0 : Int) + 1 + 1 := by omega
        have HG2 := hide hG2
        have hzz : rb < wr.heap.size := by omega
        clear hL hGr hG2 hqe hname
        go_upto_region 18 with (fail)
        go_region
        have hz9 : Below wr.heap.size wr (wr.alloc (.cells #[.int .i32 97, .int .i64 p, .string (runesBytes rs)] 71)).drew := ((Below.refl wr.heap.size wr).alloc (Nat.le_refl _) _).trans ((below_drawn (w1 := (wr.alloc (.cells #[.int .i32 97, .int .i64 p, .string (runesBytes rs)] 71)).drew) ⟨1, rfl⟩).mono (by simp))
        have hS9 := HSR.out.below hz9
        have hX9 := (hz9.block rb hzz).trans HXR.out
        have hT9 : (wr.alloc (.cells #[.int .i32 97, .int .i64 p, .string (runesBytes rs)] 71)).drew.heap[wr.heap.size]? = some (.cells #[.int .i32 97, .int .i64 p, .string (runesBytes rs)] 71) := by show (wr.heap.push _)[wr.heap.size]? = _; simp
        have hb9 := HBW.out.trans (hz9.mono HBW.out.size)
        generalize (wr.alloc (.cells #[.int .i32 97, .int .i64 p, .string (runesBytes rs)] 71)).drew = Y at *
        generalize wr.heap.size = tb at *
        have y0 := hS9.box.c0
        have yf := hS9.box.soft 0
        have HB9 := hide hb9
        have hrt : rb ≠ tb := by omega
        have hpr : pb ≠ rb := by omega
        have hpt : pb ≠ tb := by omega
        have cY : ∀ u, (Y.setCell ⟨pb, 0, none⟩ u).heap[rb]? = some (.cells #[.int .i32 0, .int .i64 0, .string ⟨#[]⟩] 71) ∧ (Y.setCell ⟨pb, 0, none⟩ u).heap[tb]? = some (.cells #[.int .i32 97, .int .i64 p, .string (runesBytes rs)] 71) := fun u => ⟨by rw [Below.heap_setCell _ _ _ _ hpr.symm]; exact hX9, by rw [Below.heap_setCell _ _ _ _ hpt.symm]; exact hT9⟩
        have z0 : ∀ u, (Y.setCell ⟨pb, 0, none⟩ u).cell? ⟨rb, 0, none⟩ = some (.int .i32 0) := fun u => by simp [World.cell?, (cY u).1]
        have z1 : ∀ u, (Y.setCell ⟨pb, 0, none⟩ u).cell? ⟨rb, 1, none⟩ = some (.int .i64 0) := fun u => by simp [World.cell?, (cY u).1]
        have z2 : ∀ u, (Y.setCell ⟨pb, 0, none⟩ u).cell? ⟨rb, 2, none⟩ = some (.string ⟨#[]⟩) := fun u => by simp [World.cell?, (cY u).1]
        have z3 : ∀ u i, (Y.setCell ⟨pb, 0, none⟩ u).frozen? ⟨rb, i, none⟩ = false := fun u i => by simp [World.frozen?, (cY u).1]
        have z4 : ∀ u, (Y.setCell ⟨pb, 0, none⟩ u).cell? ⟨tb, 0, none⟩ = some (.int .i32 97) := fun u => by simp [World.cell?, (cY u).2]
        have z5 : ∀ u, (Y.setCell ⟨pb, 0, none⟩ u).cell? ⟨tb, 1, none⟩ = some (.int .i64 p) := fun u => by simp [World.cell?, (cY u).2]
        have z6 : ∀ u, (Y.setCell ⟨pb, 0, none⟩ u).cell? ⟨tb, 2, none⟩ = some (.string (runesBytes rs)) := fun u => by simp [World.cell?, (cY u).2]
        clear cY hS9 hX9 hT9 hb9
        have zz0 := fun u => cell_again (v := .int .i32 97) (z0 u)
        go_wp2
        refine bodyPost_ret (by simp [results, Try.results50, go_sem, zz0, z1, z2]; try rfl) rfl ?_
        have hP := HS.out.put HG2.out
        rw [show (jq + 1) * 2 = jq * 2 + 2 by omega] at hP
        have hY : Below (w.setCell ⟨pb, 0, none⟩ (.slice (some ⟨g, jq * 2 + 2, none⟩) (m2 + 1) (c2 + 1))).heap.size (w.setCell ⟨pb, 0, none⟩ (.slice (some ⟨g, jq * 2 + 2, none⟩) (m2 + 1) (c2 + 1))) (Y.setCell ⟨pb, 0, none⟩ (.slice (some ⟨g, jq * 2 + 2, none⟩) (m2 + 1) (c2 + 1))) := below_setBoth HB9.out (HS.out.box.lt) _
        have hrw : (w.setCell ⟨pb, 0, none⟩ (.slice (some ⟨g, jq * 2 + 2, none⟩) (m2 + 1) (c2 + 1))).heap.size ≤ rb := by rw [← HRB.out]; simp [World.setCell]
        have hf2 := below_set (below_set (below_set hY (p := ⟨rb, 0, none⟩) hrw (.int .i32 97)) (p := ⟨rb, 1, none⟩) hrw (.int .i64 p)) (p := ⟨rb, 2, none⟩) hrw (.string (runesBytes rs))
        have hg0 : w.grownBy (w.setCell ⟨pb, 0, none⟩ (.slice (some ⟨g, jq * 2 + 2, none⟩) (m2 + 1) (c2 + 1))) (some pb) := grown_setCell _ _ _
        refine ⟨hg0.trans (below_grown hf2 _), ?_⟩
        rw [HYES.out]
        exact ⟨rfl, _, _, _, hP.below hf2⟩
      · have HNO : Hid (quoP s p = none) := hide (by
          rw [hL.quo, hqe, hname, if_neg]
          intro e
          simp only [Bool.and_eq_true, decide_eq_true_eq] at e
          exact hn e)
        have CB := hide (sBad_any HSR.out)
        unfold tokenV at CB
        obtain ⟨va, vc, rfl⟩ := own_shape hL.row
        clear hL hGr hqe hname
        by_cases hz : rs.length = 0
        · have hn0 : ((rs.length : Int) == 0) = true := by rw [hz]; rfl
          go_wp2_with (first
            | (go_at_call 53; refine (unhide CB).mono ?_; rintro e w3 ⟨rfl, hb3⟩; have hx3 := (hb3.block rb (by omega)).trans HXR.out; have HB3 := hide hb3; have t0 : w3.cell? ⟨rb, 0, none⟩ = some (.int .i32 0) := (by simp [World.cell?, hx3]); have t1 : w3.cell? ⟨rb, 1, none⟩ = some (.int .i64 0) := (by simp [World.cell?, hx3]); have t2 : w3.cell? ⟨rb, 2, none⟩ = some (.string ⟨#[]⟩) := (by simp [World.cell?, hx3]); have tt0 := cell_again (v := .int .i32 (-2)) t0; have t3 : ∀ i, w3.frozen? ⟨rb, i, none⟩ = false := (fun i => by simp [World.frozen?, hx3]); clear hb3 hx3)
            | go_in)
          refine bodyPost_ret (by simp [results, Try.results50, go_sem, tt0, t1, t2]; try rfl) rfl ?_
          have hfin : Below w.heap.size w w3 := HBW.out.trans (HB3.out.mono HBW.out.size)
          have hrw : w.heap.size ≤ rb := by rw [HRB.out]; exact Nat.le_refl _
          have hf2 := below_set (below_set (below_set hfin (p := ⟨rb, 0, none⟩) hrw (.int .i32 (-2))) (p := ⟨rb, 1, none⟩) hrw (.int .i64 p)) (p := ⟨rb, 2, none⟩) hrw (.string ⟨#[]⟩)
          exact QuotR.bad HS.out hf2 HNO.out
        · have hn0 : ((rs.length : Int) == 0) = false := by rw [beq_eq_false_iff_ne]; omega
          have hn20 : (20 : Int) < (rs.length : Int) := by omega
          go_wp2_with (first
            | (go_at_call 53; refine (unhide CB).mono ?_; rintro e w3 ⟨rfl, hb3⟩; have hx3 := (hb3.block rb (by omega)).trans HXR.out; have HB3 := hide hb3; have t0 : w3.cell? ⟨rb, 0, none⟩ = some (.int .i32 0) := (by simp [World.cell?, hx3]); have t1 : w3.cell? ⟨rb, 1, none⟩ = some (.int .i64 0) := (by simp [World.cell?, hx3]); have t2 : w3.cell? ⟨rb, 2, none⟩ = some (.string ⟨#[]⟩) := (by simp [World.cell?, hx3]); have tt0 := cell_again (v := .int .i32 (-2)) t0; have t3 : ∀ i, w3.frozen? ⟨rb, i, none⟩ = false := (fun i => by simp [World.frozen?, hx3]); clear hb3 hx3)
            | go_in)
          refine bodyPost_ret (by simp [results, Try.results50, go_sem, tt0, t1, t2]; try rfl) rfl ?_
          have hfin : Below w.heap.size w w3 := HBW.out.trans (HB3.out.mono HBW.out.size)
          have hrw : w.heap.size ≤ rb := by rw [HRB.out]; exact Nat.le_refl _
          have hf2 := below_set (below_set (below_set hfin (p := ⟨rb, 0, none⟩) hrw (.int .i32 (-2))) (p := ⟨rb, 1, none⟩) hrw (.int .i64 p)) (p := ⟨rb, 2, none⟩) hrw (.string ⟨#[]⟩)
          exact QuotR.bad HS.out hf2 HNO.out
    · by_cases c92 : gch s q = 92
      · have hlt : q < s.size := Classical.byContradiction fun hn => by rw [gch_end s q hn] at c92; omega
        obtain ⟨m2, c2, rfl, rfl, hG2⟩ := hL.gl.more hlt
        obtain ⟨f', rfl⟩ : ∃ f', gk = f' + 1 := ⟨gk - 1, by omega⟩
        have hw1q : gwd s q = 1 := (gch_low s q hlt (by have := (gch_iff s q hlt 92 (by omega)).1 c92; omega)).2
        rw [hw1q] at hG2
        have HQ := hide (quo_esc (rs := rs) (f := f') hlt c92)
        have a1 := ((hG2.below HB1.out).below hL.far).at0.1
        rw [show (jq + 1) * 2 = jq * 2 + 2 by omega] at a1
        have CE := hide (fun wx => isEscaped_any (gch s (q + 1)) wx)
        rw [c92] at a0
        cases hesc : escI (gch s (q + 1))
        · rw [hesc] at CE HQ
          have HNO : Hid (quoP s p = none) := hide (by rw [hL.quo, HQ.out]; rfl)
          have CB := hide (sBad_any HSR.out)
          unfold tokenV at CB
          clear hL hGr hG2 c39 c92 hesc
          generalize gch s (q + 1) = cc at *
          go_wp2_with (first
            | (go_at_call 65; refine (unhide CE _).mono ?_; rintro e w2 ⟨rfl, rfl⟩)
            | (go_at_call 53; refine (unhide CB).mono ?_; rintro e w3 ⟨rfl, hb3⟩; have hx3 := (hb3.block rb (by omega)).trans HXR.out; have HB3 := hide hb3; have t0 : w3.cell? ⟨rb, 0, none⟩ = some (.int .i32 0) := (by simp [World.cell?, hx3]); have t1 : w3.cell? ⟨rb, 1, none⟩ = some (.int .i64 0) := (by simp [World.cell?, hx3]); have t2 : w3.cell? ⟨rb, 2, none⟩ = some (.string ⟨#[]⟩) := (by simp [World.cell?, hx3]); have tt0 := cell_again (v := .int .i32 (-2)) t0; have t3 : ∀ i, w3.frozen? ⟨rb, i, none⟩ = false := (fun i => by simp [World.frozen?, hx3]); clear hb3 hx3)
            | go_in)
          refine bodyPost_ret (by simp [results, Try.results50, go_sem, tt0, t1, t2]; try rfl) rfl ?_
          have hfin : Below w.heap.size w w3 := HBW.out.trans (HB3.out.mono HBW.out.size)
          have hrw : w.heap.size ≤ rb := by rw [HRB.out]; exact Nat.le_refl _
          have hf2 := below_set (below_set (below_set hfin (p := ⟨rb, 0, none⟩) hrw (.int .i32 (-2))) (p := ⟨rb, 1, none⟩) hrw (.int .i64 p)) (p := ⟨rb, 2, none⟩) hrw (.string ⟨#[]⟩)
          exact QuotR.bad HS.out hf2 HNO.out
        · rw [hesc] at CE HQ
          have h3992 : gch s (q + 1) = 39 ∨ gch s (q + 1) = 92 := by unfold escI at hesc; simpa using hesc
          have hlt1 : q + 1 < s.size := Classical.byContradiction fun hn => by rw [gch_end s (q + 1) hn] at h3992; omega
          obtain ⟨m3, c3, rfl, rfl, hG3⟩ := hG2.more hlt1
          have hw2q : gwd s (q + 1) = 1 := (gch_low s (q + 1) hlt1 (by have e1 := gch_iff s (q + 1) hlt1 39 (by omega); have e2 := gch_iff s (q + 1) hlt1 92 (by omega); rcases h3992 with e | e; have := e1.1 e; omega; have := e2.1 e; omega)).2
          rw [hw2q] at hG3
          have HOK := hide (hL.ok.more hlt1 (by omega) (by omega))
          obtain ⟨va, vc, rfl⟩ := own_shape hL.row
          have HR := hide hL.row
          have HG3 := hide hG3
          clear hL hGr hG2 hG3 c39 c92 hesc
          generalize gch s (q + 1) = cc at *
          have b10 : (cc == 10) = false := by rw [beq_eq_false_iff_ne]; omega
          have b2 : (cc == -2) = false := by rw [beq_eq_false_iff_ne]; omega
          have b1 : (cc == -1) = false := by rw [beq_eq_false_iff_ne]; omega
          go_wp2_with (first
            | (go_at_call 65; refine (unhide CE _).mono ?_; rintro e w2 ⟨rfl, rfl⟩)
            | (at_builtin; refine wpList_append_own _ rfl (.tmp 37) (.tmp 39) 113 rfl w1.heap.size 21 iR (.int .i32 0) 1 4 Try.underlying113 hR hR0 hR1 hR2 rfl (by decide) _ _ _ rfl (HR.out.alloc _) ⟨_, 0, none⟩ 1 1 [.int .i32 cc] rfl rfl (new1 _ _ _ _ rfl) (one32 _) (by unfold maxLen; omega) (by omega) (by simp; omega) ?_; intro v3 w3 ho3 hg3 _; have HO3 := hide ho3; have HGW := hide hg3; obtain ⟨va3, vc3, rfl⟩ := own_shape ho3; clear ho3 hg3)
            | go_in)
          go_roundg f'
          case measure => omega
          case rel => exact ⟨q + 1 + 1, jq + 1 + 1, m3, c3, rs ++ [cc], HG3.out, by rw [show (jq + 1 + 1) * 2 = jq * 2 + 2 + 2 by omega], by rw [List.map_append, List.length_append]; exact HO3.out, (HL.out.far.alloc HL.out.far.size _).grown HGW.out (Nat.le_trans HL.out.far.size (by simp)) (fun k e => (own_lt HR.out k e).1), by rw [HL.out.quo, HQ.out]; rfl, by omega, HOK.out, by simp; omega⟩
      · by_cases cb : gch s q = 10 ∨ gch s q = -2 ∨ gch s q = -1
        · have HNO : Hid (quoP s p = none) := hide (by rw [hL.quo, quo_none hfuel c39 c92 cb])
          have CB := hide (sBad_any HSR.out)
          unfold tokenV at CB
          clear hL hGr
          rcases cb with e | e | e
          all_goals
            rw [e] at a0
            clear e c39 c92
            go_wp2_with (first
              | (go_at_call 53; refine (unhide CB).mono ?_; rintro e w3 ⟨rfl, hb3⟩; have hx3 := (hb3.block rb (by omega)).trans HXR.out; have HB3 := hide hb3; have t0 : w3.cell? ⟨rb, 0, none⟩ = some (.int .i32 0) := (by simp [World.cell?, hx3]); have t1 : w3.cell? ⟨rb, 1, none⟩ = some (.int .i64 0) := (by simp [World.cell?, hx3]); have t2 : w3.cell? ⟨rb, 2, none⟩ = some (.string ⟨#[]⟩) := (by simp [World.cell?, hx3]); have tt0 := cell_again (v := .int .i32 (-2)) t0; have t3 : ∀ i, w3.frozen? ⟨rb, i, none⟩ = false := (fun i => by simp [World.frozen?, hx3]); clear hb3 hx3)
              | go_in)
            refine bodyPost_ret (by simp [results, Try.results50, go_sem, tt0, t1, t2]; try rfl) rfl ?_
            have hfin : Below w.heap.size w w3 := HBW.out.trans (HB3.out.mono HBW.out.size)
            have hrw : w.heap.size ≤ rb := by rw [HRB.out]; exact Nat.le_refl _
            have hf2 := below_set (below_set (below_set hfin (p := ⟨rb, 0, none⟩) hrw (.int .i32 (-2))) (p := ⟨rb, 1, none⟩) hrw (.int .i64 p)) (p := ⟨rb, 2, none⟩) hrw (.string ⟨#[]⟩)
            exact QuotR.bad HS.out hf2 HNO.out
        · have hlt : q < s.size := Classical.byContradiction fun hn => cb (Or.inr (Or.inr (gch_end s q hn)))
          obtain ⟨m2, c2, rfl, rfl, hG2⟩ := hL.gl.more hlt
          obtain ⟨f', rfl⟩ : ∃ f', gk = f' + 1 := ⟨gk - 1, by omega⟩
          have hn10 : gch s q ≠ 10 := fun e => cb (Or.inl e)
          have hn2 : gch s q ≠ -2 := fun e => cb (Or.inr (Or.inl e))
          have hn1 : gch s q ≠ -1 := fun e => cb (Or.inr (Or.inr e))
          have HQ := hide (quo_char (rs := rs) (f := f') hlt c39 c92 hn10 hn2)
          have HOK := hide (hL.ok.more hlt hn2 hn10)
          have hwp := gwd_pos s q
          obtain ⟨va, vc, rfl⟩ := own_shape hL.row
          have HR := hide hL.row
          have HG2 := hide hG2
          clear hL hGr hG2 cb
          generalize gch s q = cc at *
          have b39 : (cc != 39) = true := by simpa using c39
          have b92 : (cc == 92) = false := by simpa using c92
          have b10 : (cc == 10) = false := by simpa using hn10
          have b2 : (cc == -2) = false := by simpa using hn2
          have b1 : (cc == -1) = false := by simpa using hn1
          go_wp2_with (first
            | (at_builtin; refine wpList_append_own _ rfl (.tmp 37) (.tmp 39) 113 rfl w1.heap.size 21 iR (.int .i32 0) 1 4 Try.underlying113 hR hR0 hR1 hR2 rfl (by decide) _ _ _ rfl (HR.out.alloc _) ⟨_, 0, none⟩ 1 1 [.int .i32 cc] rfl rfl (new1 _ _ _ _ rfl) (one32 _) (by unfold maxLen; omega) (by omega) (by simp; omega) ?_; intro v3 w3 ho3 hg3 _; have HO3 := hide ho3; have HG3 := hide hg3; obtain ⟨va3, vc3, rfl⟩ := own_shape ho3; clear ho3 hg3)
            | go_in)
          go_roundg f'
          case measure => omega
          case rel => exact ⟨q + gwd s q, jq + 1, m2, c2, rs ++ [cc], HG2.out, by rw [show (jq + 1) * 2 = jq * 2 + 2 by omega], by rw [List.map_append, List.length_append]; exact HO3.out, (HL.out.far.alloc HL.out.far.size _).grown HG3.out (Nat.le_trans HL.out.far.size (by simp)) (fun k e => (own_lt HR.out k e).1), by rw [HL.out.quo, HQ.out], by omega, HOK.out, by simp; omega⟩
end

end Go.Proofs.Ytcpdadppblbndaa
