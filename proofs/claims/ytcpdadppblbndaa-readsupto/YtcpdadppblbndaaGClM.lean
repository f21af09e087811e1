/- The program's parser: a clause. The program's parser: a text. -/
import Derived.Test.YtcpdadppblbndaaGCl0M
import Derived.Test.YtcpdadppblbndaaLMemM
import Derived.Deep.DeepCutAuto
namespace Go.Proofs.Ytcpdadppblbndaa
open Go.RowKit Go.WideMaps
set_option maxRecDepth 100000

/-- What clause answers. -/
def ClauseQ (B pb : Nat) (w : World) (s : ByteArray) (T : List Tk) (g : Nat) (CV : List Pc) (a : Nat) (r : Except Nat (PSt × List Lt)) (e : Ending) (w' : World) : Prop :=
  Below B w w' ∧
    match r with
    | .ok (s1, c) => ∃ vC vP P vl, e = .returned (.bool true) ∧ TxIn B w' pb s T s1 g vC vP (CV ++ [((a, P), vl)]) ∧ P.map Prod.fst = c
    | .error p => ∃ i vC vP vM, e = .returned (.bool false) ∧ PPx B w' pb s T i g vC vP vM ∧ (tkA T i).pos = p
section
variable {B pb : Nat} {s : ByteArray} {T : List Tk} {g : Nat} {vC vP : Value} {st : PSt} {w : World} {CV : List Pc}
theorem onePc (b : Int) (a : Option Addr) (n c : Nat) : ∀ u ∈ [Value.int .i64 b, Value.slice a n c], u.oneCell' = true := by
  intro u hu
  simp at hu
  rcases hu with rfl | rfl <;> rfl
theorem infoParsed : (Try.prog.info? 100).map (fun i => (i.zero, i.size, i.bytes)) = some (some (.agg #[.int .i64 0, .slice none 0 0]), 2, 32) := by kernel_rfl

/-- The point behind a clause. -/
theorem cl_end {w5 w6 : World} {s2 : PSt} {b46 : Bool} {v5 vP2 vl : Value} {mg tp : Nat} {P : List (Lt × Value)} {e : Ending} (hBw : B ≤ w.heap.size) (hpg : pBodyG T st = .ok (s2, P.map Prod.fst)) (hb46 : decide ((tkA T s2.i).kind = 46) = b46) (hq : QIn B w5 pb s T s2 g v5 vP2 mg) (hc : CsIn B w5 v5 (CV ++ [((tp, P), vl)])) (hb : Below B w w5) (hg : w5.grownBy w6 (some pb)) (hp : PPx B w6 pb s T (if (tkA T s2.i).kind = 46 then s2.i + 1 else s2.i) g v5 vP2 (.map (some mg))) (he : e = .returned (.bool b46)) :
    ClauseQ B pb w s T g CV tp (pClauseG T st) e w6 := by
  obtain ⟨left, hbx, hBp⟩ := hq.pp.box
  have hz := hb.size
  refine ⟨hb.grown hg (by omega) (by simpa using hBp), ?_⟩
  unfold pClauseG
  rw [hpg]
  simp only
  by_cases h46 : (tkA T s2.i).kind = 46
  · rw [if_pos h46] at hp ⊢
    rw [decide_eq_true h46] at hb46
    subst hb46
    exact ⟨v5, vP2, P, vl, he, ⟨⟨_, hp⟩, hq.places.kept hg (hbx.apart hq.places (by decide)), hc.take hbx hg⟩, rfl⟩
  · rw [if_neg h46] at hp ⊢
    rw [decide_eq_false h46] at hb46
    subst hb46
    exact ⟨_, _, _, _, he, hp, rfl⟩

/-- What stays when the first token was looked at. -/
structure ClM (B pb : Nat) (w w1 : World) (s : ByteArray) (T : List Tk) (st : PSt) (g : Nat) (vC vP : Value) (mg : Nat) (CV : List Pc) (lb tp : Nat) (v : Value) : Prop where
  q : QIn B w1 pb s T st g vC vP mg
  cs : CsIn B w1 vC CV
  low : Below B w w1
  box : w1.heap[lb]? = some (.cells #[.int .i64 tp, v] 100)
  size : B ≤ w1.heap.size
theorem cl_first {W w1 : World} {mg lb tp : Nat} {v : Value} {s1 : PSt} (hq : QIn B W pb s T s1 g vC vP mg) (hc : CsIn B W vC CV) (hb : Below B w W) (hBw : B ≤ w.heap.size) (hx : W.heap[lb]? = some (.cells #[.int .i64 tp, v] 100)) {i' : Nat} (hg : W.grownBy w1 (some pb)) (hp : PPx B w1 pb s T i' g vC vP (.map (some mg))) : ClM B pb w w1 s T ⟨i', s1.vars, s1.places⟩ g vC vP mg CV lb tp v := by
  obtain ⟨left, hbx, hBp⟩ := hq.pp.box
  have hz := hb.size
  have hz1 := hg.size
  refine ⟨hq.take hg hp, hc.take hbx hg, hb.grown hg (by omega) (by simpa using hBp), ?_, by omega⟩
  rw [hg.block lb (Array.getElem?_eq_some_iff.1 hx).1 ?_]
  · exact hx
  · intro e
    simp at e
    subst e
    unfold ParBox at hbx
    rw [hx] at hbx
    simp at hbx
theorem ClM.boxKept {w1 w3 : World} {mg lb tp : Nat} {v : Value} {s1 : PSt} (h : ClM B pb w w1 s T s1 g vC vP mg CV lb tp v) (hk : KeptQ B w1.heap.size mg w1 w3) : w3.heap[lb]? = some (.cells #[.int .i64 tp, v] 100) := by
  rw [hk.block lb (Array.getElem?_eq_some_iff.1 h.box).1 (Or.inr ⟨?_, fun cs t fr hx => ?_⟩)]
  · exact h.box
  · rintro rfl
    obtain ⟨D, ⟨es, cl, hh, _⟩, _⟩ := h.q.map
    have := h.box
    rw [hh] at this
    cases this
  · rw [h.box] at hx
    simp at hx
    obtain ⟨_, rfl, _⟩ := hx
    exact ⟨by decide, by decide, fun e => absurd e (by decide)⟩
/-- The literals were none. -/
theorem ClM.err {w1 w3 : World} {mg lb tp : Nat} {v : Value} {s1 : PSt} (h : ClM B pb w w1 s T s1 g vC vP mg CV lb tp v) (hBw : B ≤ w.heap.size) (hlb : B ≤ lb) (hk : KeptQ B w1.heap.size mg w1 w3) {i : Nat} {vP3 vM3 : Value} (hp : PPx B w3 pb s T i g vC vP3 vM3) (u : Value) :
    w3.cell? ⟨lb, 1, none⟩ = some v ∧ w3.frozen? ⟨lb, 1, none⟩ = false ∧ Below B w (w3.setCell ⟨lb, 1, none⟩ u) ∧ PPx B (w3.setCell ⟨lb, 1, none⟩ u) pb s T i g vC vP3 vM3 := by
  have hx := h.boxKept hk
  obtain ⟨left, hbx, hBp⟩ := hp.box
  obtain ⟨cs, fr, hgl⟩ := hp.glyph
  have hlow := h.low.trans (hk.below h.size)
  have hz := hlow.size
  refine ⟨by unfold World.cell?; rw [hx]; rfl, by unfold World.frozen?; rw [hx]; rfl, hlow.grown (grown_setCell _ _ _) (by omega) (by simpa using hlb), hp.far (grown_setCell _ _ _) ?_ ?_⟩
  · intro e
    simp at e
    subst e
    unfold ParBox at hbx
    rw [hx] at hbx
    simp at hbx
  · intro e
    simp at e
    subst e
    rw [hx] at hgl
    simp at hgl
/-- The literals were read. -/
theorem ClM.ok {w1 w3 : World} {mg lb tp : Nat} {v : Value} {s1 s2 : PSt} (h : ClM B pb w w1 s T s1 g vC vP mg CV lb tp v) (hBw : B ≤ w.heap.size) (hlb : B ≤ lb) (hne : vC.ownBlock ≠ some lb) (hk : KeptQ B w1.heap.size mg w1 w3) {vP3 vc : Value} {P : List (Lt × Value)} (hq : QIn B w3 pb s T s2 g vC vP3 mg) (hr : w3.ownsRow w1.heap.size 49 2 vc P.length (litCells P)) (ha : ∀ q ∈ P, w3.ownsRow w1.heap.size 46 2 q.2 q.1.2.length (nodeCells q.1.2)) :
    w3.cell? ⟨lb, 1, none⟩ = some v ∧ w3.frozen? ⟨lb, 1, none⟩ = false ∧ ClM B pb w (w3.setCell ⟨lb, 1, none⟩ vc) s T s2 g vC vP3 mg CV lb tp vc ∧ ClR (w3.setCell ⟨lb, 1, none⟩ vc) B (P, vc) := by
  have hx := h.boxKept hk
  obtain ⟨D, hm, _⟩ := h.q.map
  have hlow := h.low.trans (hk.below h.size)
  have hz := hlow.size
  have hg := grown_setCell w3 ⟨lb, 1, none⟩ vc
  have hs1 := h.size
  refine ⟨by unfold World.cell?; rw [hx]; rfl, by unfold World.frozen?; rw [hx]; rfl, ⟨hq.other hx hg, (h.cs.kept hm hk).other hx hne hg, hlow.grown hg (by omega) (by simpa using hlb), heap_setCell_same w3 lb 1 _ _ _ hx, by have := hg.size; omega⟩, (own_mono hr hs1).kept hg (Or.inr (own_no hr hx (by decide))), fun q hq' => (own_mono (ha q hq') hs1).kept hg (Or.inr (own_no (ha q hq') hx (by decide)))⟩

set_option maxHeartbeats 4000000 in
theorem clause_any (hT : ∀ i, (tkA T i).kind ∈ kdL) (hx : ∀ i, (tkA T i).txt.size ≤ 1000000) (hs : s.size ≤ 3000) (hTl : T.length ≤ 1000000) (h : TxIn B w pb s T st g vC vP CV) (hBw : B ≤ w.heap.size) (hp1 : st.places.length ≤ st.i) (hc1 : CV.length ≤ st.i) :
    Calls Try.prog 37 #[.pointer (some ⟨pb, 0, none⟩)] w fun e w' => ClauseQ B pb w s T g CV (tkA T st.i).pos (pClauseG T st) e w' := by
  have hmm := @run_makeMap Try.prog
  obtain ⟨vM, hpp⟩ := h.pp
  have hlt := hpp.lt
  obtain ⟨left, hb, _⟩ := hpp.box
  have d2 := hb.c2
  have d2A : ∀ o, (w.alloc o).cell? ⟨pb, 2, none⟩ = some (.int .i64 (tkA T st.i).pos) := fun o => Below.at' ((Below.refl w.heap.size w).alloc (Nat.le_refl _) o) (Nat.le_refl _) d2
  have d6 := hb.c6
  have f6 := hb.soft 6
  have hpl := hb.lt
  obtain ⟨va, vac, rfl⟩ := own_shape h.cs.row
  have HH := hide h
  have HT := hide hT
  have HX := hide hx
  clear h hb hpp hT hx
  obtain ⟨tp, htp⟩ : ∃ tp, (tkA T st.i).pos = tp := ⟨_, rfl⟩
  rw [htp] at d2
  simp only [htp] at d2A ⊢
  have HTP := hide htp
  clear htp
  go_enter Try.func37, Try.ntmps37
  go_upto_region 3 with (fail)
  have hW : ((w.setCell ⟨pb, 6, none⟩ (.map (some (w.heap.size + 1)))).alloc (.cells #[.int .i64 tp, .slice none 0 0] 100)).alloc (.map #[] 0) = ((w.alloc (.cells #[.int .i64 tp, .slice none 0 0] 100)).alloc (.map #[] 0)).setCell ⟨pb, 6, none⟩ (.map (some (w.heap.size + 1))) := by
    rw [World.setCell_alloc_past _ _ _ _ (by simp; omega), World.setCell_alloc_past _ _ _ _ hpl]
  have hst := cl_start HH.out hBw #[.int .i64 tp, .slice none 0 0] hW
  have hwz : w.heap.size < (((w.setCell ⟨pb, 6, none⟩ (.map (some (w.heap.size + 1)))).alloc (.cells #[.int .i64 tp, .slice none 0 0] 100)).alloc (.map #[] 0)).heap.size := by simp [World.setCell]; omega
  generalize ((w.setCell ⟨pb, 6, none⟩ (.map (some (w.heap.size + 1)))).alloc (.cells #[.int .i64 tp, .slice none 0 0] 100)).alloc (.map #[] 0) = W at *
  have hne := own_lt' HH.out.cs.row
  generalize w.heap.size + 1 = mg at *
  have hBw' := hBw
  obtain ⟨lb, hlb⟩ : ∃ lb, w.heap.size = lb := ⟨_, rfl⟩
  rw [hlb] at hwz hne hst hBw hpl
  simp only [hlb]
  obtain ⟨hQ, hC, hB, hX⟩ := hst
  clear hW d2 d2A d6 f6
  have HQ := hide hQ
  have HC := hide hC
  have HB := hide hB
  have HXB := hide hX
  clear hQ hC hB hX
  have C36 := hide (pTake_any 102 (by decide) (by decide) (by decide) HT.out hs HQ.out.pp)
  rw [show kindP 102 = 36 from rfl] at C36
  by_cases h102 : (tkA T st.i).kind = 102
  · rw [if_pos h102, decide_eq_true h102] at C36
    go_upto_region 8 with (first
      | (go_at_call 54; refine (unhide C36).mono ?_; rintro e w2 ⟨rfl, hg1, hp1⟩; have HG1 := hide hg1; have HP1 := hide hp1; clear hg1 hp1)
      | go_in)
    have hq1 := HQ.out.take HG1.out HP1.out
    obtain ⟨leftW, hbW, hBpW⟩ := HQ.out.pp.box
    have hc1' := HC.out.take hbW HG1.out
    have hb1 : Below B w w2 := HB.out.grown HG1.out (by have := HB.out.size; omega) (by simpa using hBpW)
    have hx1 : w2.heap[lb]? = some (.cells #[.int .i64 tp, .slice none 0 0] 100) := by rw [HG1.out.block lb hwz (by simp; omega)]; exact HXB.out
    have HQ2 := hide hq1
    have HC2 := hide hc1'
    have HB2 := hide hb1
    have HX2 := hide hx1
    have HPG : Hid (pBodyG T st = .ok (⟨st.i + 1, [], st.places⟩, [])) := hide (by rw [pBodyG, if_pos h102])
    clear hq1 hbW hc1' hb1 hx1 HQ HC HB HXB HG1 HP1 C36
    obtain ⟨left2, hb2, hBp⟩ := HQ2.out.pp.box
    have p4 := hb2.c4
    have t0 : w2.cell? ⟨lb, 0, none⟩ = some (.int .i64 tp) := by unfold World.cell?; rw [HX2.out]; rfl
    have t1 : w2.cell? ⟨lb, 1, none⟩ = some (.slice none 0 0) := by unfold World.cell?; rw [HX2.out]; rfl
    have p4A : ∀ o, (w2.alloc o).cell? ⟨pb, 4, none⟩ = some (.slice va CV.length vac) := fun o => Below.at' ((Below.refl w2.heap.size w2).alloc (Nat.le_refl _) o) (Nat.le_refl _) p4
    have hz2 := HB2.out.size
    clear hb2
    go_cut [] (fun wx => ∃ v5, QIn B wx pb s T ⟨st.i + 1, [], st.places⟩ g v5 vP mg ∧ CsIn B wx v5 (CV ++ [((tp, []), .slice none 0 0)]) ∧ Below B w wx)
    case first =>
      refine pcalm ?_
      have hq2d := hide (HQ2.out.below (below_drawn (w1 := w2.drew) ⟨1, rfl⟩))
      have hc2d := hide (HC2.out.below (below_drawn (w1 := w2.drew) ⟨1, rfl⟩))
      have hb2d : Hid (Below B w w2.drew) := hide ⟨HB2.out.os, HB2.out.tape, HB2.out.output, HB2.out.size, HB2.out.block⟩
      have hr2d : Hid (ClR w2.drew B ([], .slice none 0 0)) := hide ⟨World.ownsRow_nil _ _ _ _, fun q hq => by simp at hq⟩
      go_region_law (refine step_append_one ?g1 (.tmp 30) (.tmp 32) 75 100 ?g2 (.agg #[.int .i64 0, .slice none 0 0]) 2 32 Try.underlying75 infoParsed ?g3 ?g4 ?g5 B _ CV.length (pcCells CV) ?g6 (hc2d.out.row.alloc _) ?g7 ?g8 w2.heap.size 1 [.int .i64 tp, .slice none 0 0] ?g9 ?g10 (new2 w2.drew _ _ 100 w2.heap.size rfl) (onePc _ _ _ _) ?_; (case g1 => rfl); (case g2 => rfl); (case g3 => rfl); (case g4 => decide); (case g5 => decide); (case g6 => rfl); (case g7 => omega); (case g8 => (simp; omega)); (case g9 => rfl); (case g10 => rfl); intro v3 w3 ho3 hg3; obtain ⟨c4, f4, hp3⟩ := cl_put hq2d.out hc2d.out hb2d.out hBw' hr2d.out ho3 hg3; have HP3 := hide hp3; obtain ⟨va3, vc3, rfl⟩ := own_shape ho3; clear ho3 hg3 hp3)
      all_goals
        refine unpcalm ?_
        go_wp2_with fail
        go_meet
        case rel => exact ⟨_, HP3.out⟩
    case rest =>
      obtain ⟨v5, hQ5, hC5, hB5⟩ := hcut
      have C46 := hide (pTake_any 46 (by decide) (by decide) (by decide) HT.out hs hQ5.pp)
      rw [show kindP 46 = 46 from rfl] at C46
      have HQ5 := hide hQ5
      have HC5 := hide hC5
      have HB5 := hide hB5
      clear hQ5 hC5 hB5 HQ2 HC2 HB2 HX2 p4 p4A t0 t1
      obtain ⟨b46, hb46⟩ : ∃ b, decide ((tkA T (⟨st.i + 1, [], st.places⟩ : PSt).i).kind = 46) = b := ⟨_, rfl⟩
      rw [hb46] at C46
      go_wp2_with (first
        | (go_at_call 54; refine (unhide C46).mono ?_; rintro e w6 ⟨rfl, hg6, hp6⟩; have HG6 := hide hg6; have HP6 := hide hp6; clear hg6 hp6)
        | go_in)
      go_ret
      exact cl_end hBw' HPG.out hb46 HQ5.out HC5.out HB5.out HG6.out HP6.out rfl
  · rw [if_neg h102, decide_eq_false h102] at C36
    have HPB : Hid (pBodyG T st = pLitsG T (T.length + 1) ⟨st.i, [], st.places⟩ []) := hide (by rw [pBodyG, if_neg h102])
    have CL := hide (fun w1 (hq1 : QIn B w1 pb s T ⟨st.i, [], st.places⟩ g (.slice va CV.length vac) vP mg) (hB1 : B ≤ w1.heap.size) => lits_any HT.out HX.out hs hTl hq1 hB1 hp1 (Nat.zero_le _))
    have HZ0 := hide (fun w1 (hg1 : W.grownBy w1 (some pb)) (hp1 : PPx B w1 pb s T st.i g (.slice va CV.length vac) vP (.map (some mg))) => cl_first HQ.out HC.out HB.out hBw' HXB.out hg1 hp1)
    cases hq : pLitsG T (T.length + 1) ⟨st.i, [], st.places⟩ [] with
    | error p =>
      rw [hq] at CL
      have HPG : Hid (pClauseG T st = .error p) := hide (by rw [pClauseG, HPB.out, hq])
      clear hq HPB HQ HC HB HXB
      go_wp2_with (first
        | (go_at_call 54; refine (unhide C36).mono ?_; rintro e w1 ⟨rfl, hg1, hp1⟩; have HZ1 := hide (HZ0.out w1 hg1 hp1); clear hg1 hp1)
        | (go_at_call 55; refine (CL.out _ HZ1.out.q HZ1.out.size).mono ?_; rintro e w3 ⟨hk3, a3, n3, c3, i3, vP3, vM3, rfl, hp3, hpos⟩; obtain ⟨t1, f1, hz3⟩ := HZ1.out.err hBw' hBw hk3 hp3 (.slice a3 n3 c3); have HZ3 := hide hz3; have HPO := hide hpos; clear hk3 hp3 hpos hz3)
        | go_in)
      go_ret
      refine ⟨HZ3.out.1, ?_⟩
      rw [HPG.out]
      exact ⟨_, _, _, _, rfl, HZ3.out.2, HPO.out⟩
    | ok y =>
      obtain ⟨s2, c⟩ := y
      rw [hq] at CL
      have HPG0 : Hid (pBodyG T st = .ok (s2, c)) := hide (by rw [HPB.out, hq])
      clear hq HPB HQ HC HB HXB
      go_upto_region 8 with (first
        | (go_at_call 54; refine (unhide C36).mono ?_; rintro e w1 ⟨rfl, hg1, hp1⟩; have HZ1 := hide (HZ0.out w1 hg1 hp1); clear hg1 hp1)
        | (go_at_call 55; refine (CL.out _ HZ1.out.q HZ1.out.size).mono ?_; rintro e w3 ⟨hk3, P, vcl, vP2, rfl, hq3, hr3, ha3, hPc⟩; obtain ⟨la, lac, rfl⟩ := own_shape hr3; obtain ⟨t1, f1, hz3, hcl3⟩ := HZ1.out.ok hBw' hBw hne hk3 hq3 hr3 ha3; have HZ3 := hide hz3; have HCL := hide hcl3; have HPC := hide hPc; clear hk3 hq3 hr3 ha3 hz3 hPc hcl3)
        | go_in)
      have HPG : Hid (pBodyG T st = .ok (s2, P.map Prod.fst)) := hide (by rw [HPG0.out, HPC.out])
      clear HZ0 CL C36 HZ1 HPG0 HPC t1 f1
      generalize w3.setCell ⟨lb, 1, none⟩ (.slice la P.length lac) = w2 at *
      have HQ2 := hide HZ3.out.q
      have HC2 := hide HZ3.out.cs
      have HB2 := hide HZ3.out.low
      have HX2 := hide HZ3.out.box
      have HR2 := hide HCL.out
      clear HZ3 HCL
      obtain ⟨left2, hb2, hBp⟩ := HQ2.out.pp.box
      have p4 := hb2.c4
      have t0 : w2.cell? ⟨lb, 0, none⟩ = some (.int .i64 tp) := by unfold World.cell?; rw [HX2.out]; rfl
      have t1 : w2.cell? ⟨lb, 1, none⟩ = some (.slice la P.length lac) := by unfold World.cell?; rw [HX2.out]; rfl
      have p4A : ∀ o, (w2.alloc o).cell? ⟨pb, 4, none⟩ = some (.slice va CV.length vac) := fun o => Below.at' ((Below.refl w2.heap.size w2).alloc (Nat.le_refl _) o) (Nat.le_refl _) p4
      have hz2 := HB2.out.size
      clear hb2
      go_cut [] (fun wx => ∃ v5, QIn B wx pb s T s2 g v5 vP2 mg ∧ CsIn B wx v5 (CV ++ [((tp, P), .slice la P.length lac)]) ∧ Below B w wx)
      case first =>
        refine pcalm ?_
        have hq2d := hide (HQ2.out.below (below_drawn (w1 := w2.drew) ⟨1, rfl⟩))
        have hc2d := hide (HC2.out.below (below_drawn (w1 := w2.drew) ⟨1, rfl⟩))
        have hb2d : Hid (Below B w w2.drew) := hide ⟨HB2.out.os, HB2.out.tape, HB2.out.output, HB2.out.size, HB2.out.block⟩
        have hr2d : Hid (ClR w2.drew B (P, .slice la P.length lac)) := hide HR2.out
        go_region_law (refine step_append_one ?g1 (.tmp 30) (.tmp 32) 75 100 ?g2 (.agg #[.int .i64 0, .slice none 0 0]) 2 32 Try.underlying75 infoParsed ?g3 ?g4 ?g5 B _ CV.length (pcCells CV) ?g6 (hc2d.out.row.alloc _) ?g7 ?g8 w2.heap.size 1 [.int .i64 tp, .slice la P.length lac] ?g9 ?g10 (new2 w2.drew _ _ 100 w2.heap.size rfl) (onePc _ _ _ _) ?_; (case g1 => rfl); (case g2 => rfl); (case g3 => rfl); (case g4 => decide); (case g5 => decide); (case g6 => rfl); (case g7 => omega); (case g8 => (simp; omega)); (case g9 => rfl); (case g10 => rfl); intro v3 w3 ho3 hg3; obtain ⟨c4, f4, hp3⟩ := cl_put hq2d.out hc2d.out hb2d.out hBw' hr2d.out ho3 hg3; have HP3 := hide hp3; obtain ⟨va3, vc3, rfl⟩ := own_shape ho3; clear ho3 hg3 hp3)
        all_goals
          refine unpcalm ?_
          go_wp2_with fail
          go_meet
          case rel => exact ⟨_, HP3.out⟩
      case rest =>
        obtain ⟨v5, hQ5, hC5, hB5⟩ := hcut
        have C46 := hide (pTake_any 46 (by decide) (by decide) (by decide) HT.out hs hQ5.pp)
        rw [show kindP 46 = 46 from rfl] at C46
        have HQ5 := hide hQ5
        have HC5 := hide hC5
        have HB5 := hide hB5
        clear hQ5 hC5 hB5 HQ2 HC2 HB2 HX2 p4 p4A t0 t1
        obtain ⟨b46, hb46⟩ : ∃ b, decide ((tkA T (s2 : PSt).i).kind = 46) = b := ⟨_, rfl⟩
        rw [hb46] at C46
        go_wp2_with (first
          | (go_at_call 54; refine (unhide C46).mono ?_; rintro e w6 ⟨rfl, hg6, hp6⟩; have HG6 := hide hg6; have HP6 := hide hp6; clear hg6 hp6)
          | go_in)
        go_ret
        exact cl_end hBw' HPG.out hb46 HQ5.out HC5.out HB5.out HG6.out HP6.out rfl
end

end Go.Proofs.Ytcpdadppblbndaa

namespace Go.Proofs.Ytcpdadppblbndaa
open Go.RowKit Go.WideMaps
set_option maxRecDepth 100000

/-- What text answers. -/
def TextQ (B pb : Nat) (w : World) (s : ByteArray) (T : List Tk) (g : Nat) (r : Except Nat (PSt × List (Nat × List Lt))) (e : Ending) (w' : World) : Prop :=
  Below B w w' ∧
    match r with
    | .ok (s1, cs) => ∃ vC vP CV, e = .returned (.bool true) ∧ TxIn B w' pb s T s1 g vC vP CV ∧ CV.map pcOf = cs
    | .error p => ∃ i vC vP vM, e = .returned (.bool false) ∧ PPx B w' pb s T i g vC vP vM ∧ (tkA T i).pos = p
/-- While the clauses are read. -/
structure TLq (B pb : Nat) (w : World) (s : ByteArray) (T : List Tk) (g : Nat) (r : Except Nat (PSt × List (Nat × List Lt))) (k : Nat) (wr : World) (st : PSt) (vC vP : Value) (CV : List Pc) : Prop where
  t : TxIn B wr pb s T st g vC vP CV
  low : Below B w wr
  eq : r = pTextG T k st (CV.map pcOf)
  fuel : T.length < st.i + k
  pl : st.places.length ≤ st.i
  few : CV.length ≤ st.i

set_option maxHeartbeats 4000000 in
theorem text_any {B pb : Nat} {w : World} {s : ByteArray} {T : List Tk} {g : Nat} {vC vP : Value} {CV : List Pc} {st : PSt} (hT : ∀ i, (tkA T i).kind ∈ kdL) (hx : ∀ i, (tkA T i).txt.size ≤ 1000000) (hs : s.size ≤ 3000) (hTl : T.length ≤ 1000000) (hC : ∀ st st' c, pClauseG T st = .ok (st', c) → st.i < T.length → st.i < st'.i ∧ st'.places.length ≤ st.places.length + (st'.i - st.i)) (h : TxIn B w pb s T st g vC vP CV) (hBw : B ≤ w.heap.size) (hp1 : st.places.length ≤ st.i) (hc1 : CV.length ≤ st.i) :
    Calls Try.prog 23 #[.pointer (some ⟨pb, 0, none⟩)] w fun e w' => TextQ B pb w s T g (pTextG T (T.length + 1) st (CV.map pcOf)) e w' := by
  have H0 : Hid (TLq B pb w s T g (pTextG T (T.length + 1) st (CV.map pcOf)) (T.length + 1) w st vC vP CV) := hide ⟨h, Below.refl _ _, rfl, by omega, hp1, hc1⟩
  obtain ⟨R, hR⟩ : ∃ R, pTextG T (T.length + 1) st (CV.map pcOf) = R := ⟨_, rfl⟩
  rw [hR] at H0
  simp only [hR]
  have HT := hide hT
  have HX := hide hx
  have HC := hide hC
  clear h hR hT hx hp1 hc1 hC
  go_enter Try.func23, Try.ntmps23
  go_wp2
  go_loopg [] (T.length + 1) (fun k wr => ∃ st' vC' vP' CV', TLq B pb w s T g R k wr st' vC' vP' CV')
  case atStart => exact ⟨st, vC, vP, CV, H0.out⟩
  case round =>
    clear H0
    obtain ⟨st', vC', vP', CV', hL⟩ := hrel
    obtain ⟨vM, hpp⟩ := hL.t.pp
    have hlt := hpp.lt
    obtain ⟨left, hb, hBp⟩ := hpp.box
    have hfu := hL.fuel
    have hpl := hL.pl
    have hfew := hL.few
    have hz := hL.low.size
    have d1 := hb.c1
    obtain ⟨k', rfl⟩ : ∃ k', gk = k' + 1 := ⟨gk - 1, by omega⟩
    by_cases h101 : (tkA T st'.i).kind = 101
    · rw [h101, show kindP 101 = -1 from rfl] at d1
      have HR : Hid (R = .ok (st', CV'.map pcOf)) := hide (by rw [hL.eq, pTextG, if_pos h101])
      have HL := hide hL
      clear hL hb hpp
      go_wp2_with fail
      go_ret
      refine ⟨HL.out.low, ?_⟩
      rw [HR.out]
      exact ⟨_, _, _, rfl, HL.out.t, rfl⟩
    · have hne : (kindP (tkA T st'.i).kind != -1) = true := by
        simp only [bne_iff_ne]
        intro e
        exact h101 (kindP_inj _ (HT.out st'.i) 101 (by decide) (by rw [e]; rfl))
      have CC := hide (clause_any HT.out HX.out hs hTl hL.t (Nat.le_trans hBw hz) hpl hfew)
      have HEQ := hide hL.eq
      have HL := hide hL
      clear hL hb hpp
      obtain ⟨kk, hkk⟩ : ∃ kk, kindP (tkA T st'.i).kind = kk := ⟨_, rfl⟩
      rw [hkk] at d1 hne
      clear hkk
      cases hq : pClauseG T st' with
      | error p =>
        rw [hq] at CC
        have HR : Hid (R = .error p) := hide (by rw [HEQ.out, pTextG, if_neg h101, hq])
        clear hq HEQ
        go_wp2_with (first
          | (go_at_call 37; refine (unhide CC).mono ?_; rintro e w1 ⟨hb1, i1, vC1, vP1, vM1, rfl, hp1, hpos⟩; have HB1 := hide hb1; have HP1 := hide hp1; have HPO := hide hpos; clear hb1 hp1 hpos)
          | go_in)
        go_ret
        refine ⟨HL.out.low.trans HB1.out, ?_⟩
        rw [HR.out]
        exact ⟨_, _, _, _, rfl, HP1.out, HPO.out⟩
      | ok y =>
        obtain ⟨s2, c⟩ := y
        have hon := HC.out _ _ _ hq hlt
        rw [hq] at CC
        have HR : Hid (R = pTextG T k' s2 (CV'.map pcOf ++ [((tkA T st'.i).pos, c)])) := hide (by rw [HEQ.out, pTextG, if_neg h101, hq])
        clear hq HEQ
        go_wp2_with (first
          | (go_at_call 37; refine (unhide CC).mono ?_; rintro e w1 ⟨hb1, vC1, vP1, P, vl, rfl, ht1, hPc⟩; have HB1 := hide hb1; have HT1 := hide ht1; have HPC := hide hPc; clear hb1 ht1 hPc)
          | go_in)
        go_roundg k'
        case measure => omega
        case rel => exact ⟨s2, vC1, vP1, _, HT1.out, HL.out.low.trans HB1.out, by rw [HR.out, List.map_append, List.map_singleton, pcOf, HPC.out], by omega, by omega, by simp; omega⟩

end Go.Proofs.Ytcpdadppblbndaa
