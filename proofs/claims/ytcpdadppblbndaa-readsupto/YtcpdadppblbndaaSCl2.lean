/- The document's parser: a clause. -/
import Derived.Test.YtcpdadppblbndaaSCl0M
import Derived.Deep.DeepCutAuto
import Derived.Shelf.Abstract
namespace Go.Proofs.Ytcpdadppblbndaa
open Go.RowKit
set_option maxRecDepth 100000

/-- A call of a function whose contract is known, within a statement that draws its order. -/
theorem pstep_call {ops : Array Oper} {o : Oper} {a : Act} {w : World} {K : Act → World → Prop} {Q : Exit → Act → World → Prop} {E : Prop} (hgd : o.guard = none) (f : Nat) (ops' : Array Operand) (ts : Array TypeId)
    (ho : o.op = .call { callee := .value (.func f), args := ops', argTypes := ts }) (he : ∀ args w, (callFunc f args).run Try.prog w = .ok (.enter f args) w) (vals : Array Value) (hv : ops'.toList.map a.eval = vals.toList) {R : Ending → World → Prop} (hc : Calls Try.prog f vals w R)
    (h : ∀ e w', R e w' → ∃ v, e = .returned v ∧ K (a.put o.dst v) w') :
    if Region.wanted o (yielded ops a.tmps) = true then Oper.wp Try.prog o a w K Q else E := by
  have hw : Region.wanted o (yielded ops a.tmps) = true := by simp [Region.wanted, hgd]
  rw [if_pos hw]
  have hr : (execOp a.eval o).run Try.prog w = .ok (.enter f vals) w := by
    have hv : ops'.map a.eval = vals := by apply Array.ext'; rw [Array.toList_map]; exact hv
    subst hv
    simp [execOp, ho, resolve, invoke, he, Act.eval, Deferred.ofValue]
  unfold Oper.wp
  rw [hr, Oper.upon_enter]
  exact hc.mono fun e w' hR => by
    obtain ⟨v, rfl, hk⟩ := h e w' hR
    exact hk
/-- The place of the token at hand is put behind the beginnings. -/
theorem begin_in {B pa : Nat} {w w1 w2 : World} {L : List Tk} {st : PSt} {bad : Int} {vL vP vC vB vV v : Value} {CV : List (List (Lt × Value) × Value)} {bg : List Nat} {x : Nat} {X : Obj} (hP : PIn B w pa L st bad vL vP vC vB vV) (hD : DRest B w vC vB CV bg) (hB : B ≤ w.heap.size) (hb : Below w.heap.size w w1)
    (ho : w2.ownsRow B 3 1 v (bg.length + 1) ((bg.map fun k : Nat => Value.int .i64 (k : Int)) ++ [.int .i64 x])) (hg : (w1.alloc X).grownBy w2 vB.ownBlock) :
    w2.frozen? ⟨pa, 5, none⟩ = false ∧ w2.cell? ⟨pa, 5, none⟩ = some vB ∧ PIn B (w2.setCell ⟨pa, 5, none⟩ v) pa L st bad vL vP vC v vV ∧ DRest B (w2.setCell ⟨pa, 5, none⟩ v) vC v CV (bg ++ [x]) ∧ Below B w (w2.setCell ⟨pa, 5, none⟩ v) ∧ w.heap.size ≤ (w2.setCell ⟨pa, 5, none⟩ v).heap.size := by
  have hX := hb.alloc hb.size X
  have hP1 := hP.below hX
  have hD1 := hD.below hX
  have hb2 := hP1.box.far hD1.begins (by decide) hg
  have hD2 := hD1.begin ho hg
  have hs := hg.size
  refine ⟨hb2.soft 5, hb2.c5, ⟨hP.high, hb2.set5 v, ?_, ?_, ?_⟩, ?_, ?_, ?_⟩
  · exact hb2.row (hP1.toks.kept hg (own_apart hP1.toks hD1.begins (by decide))) (by decide) _ _
  · exact hb2.row (hP1.places.kept hg (own_apart hP1.places hD1.begins (by decide))) (by decide) _ _
  · exact hb2.row (hP1.vars.kept hg (own_apart hP1.vars hD1.begins (by decide))) (by decide) _ _
  · exact ⟨hb2.row hD2.cl (by decide) _ _, fun p hp => ⟨hb2.row (hD2.each p hp).1 (by decide) _ _, fun q hq => hb2.row ((hD2.each p hp).2 q hq) (by decide) _ _⟩, hb2.row hD2.begins (by decide) _ _⟩
  · refine below_set ((hX.mono hB).grown hg ?_ ?_) hP.high _
    · have := hb.size; simp; omega
    · exact fun k e => (own_lt hD1.begins k e).1
  · have := hb.size
    simp [World.setCell] at hs ⊢
    omega
/-- What clause answers. -/
def ClauseR (B pa : Nat) (w : World) (L T : List Tk) (st : PSt) (vL : Value) (CV : List (List (Lt × Value) × Value)) (bg : List Nat) (e : Ending) (w' : World) : Prop :=
  e = .returned (.tuple #[]) ∧ Below B w w' ∧ w.heap.size ≤ w'.heap.size ∧
    match pClauseG T st with
    | .ok (st', c) => ∃ vP' vC' vB' vV' Q v, PIn B w' pa L st' (-1) vL vP' vC' vB' vV' ∧ DRest B w' vC' vB' (CV ++ [(Q, v)]) (bg ++ [(tkA T st.i).pos]) ∧ Q.map Prod.fst = ordL c
    | .error p => ∃ i' vP' vC' vB' vV', PBox w' pa vL i' (p : Int) vP' vC' vB' vV'
/-- Behind the literals of a clause. -/
def CEnd (B pa : Nat) (w0 : World) (L T : List Tk) (vL vC vB : Value) (st : PSt) (vc : Value) (wr : World) : Prop :=
  ∃ st' bad vP vV P, CLoop B pa w0 L vL vC vB wr st' bad vP vV vc P ∧ st'.i ≤ 3000010 ∧
    match pBodyG T st with
    | .ok (s1, c) => bad = -1 ∧ s1 = st' ∧ c = P.map Prod.fst ∧ st'.i < T.length ∧ st'.places.length ≤ st'.i ∧ P.length ≤ 1000003 ∧ countL (P.map Prod.fst) ≤ 1000000 ∧ (∀ q ∈ P, ShortN q.1.2)
    | .error p => bad = (p : Int)

/-- While the literals are read. -/
def LRel (B pa : Nat) (w0 : World) (L T : List Tk) (vL vC vB : Value) (s0 : PSt) (k : Nat) (vc : Value) (m : Bool) (wr : World) : Prop :=
  ∃ st bad vP vV P, k + P.length = T.length + 1 ∧ CLoop B pa w0 L vL vC vB wr st bad vP vV vc P ∧ st.i ≤ 3000000 ∧
    ((bad = -1 ∧ st.i < T.length ∧ st.places.length ≤ st.i ∧ st.vars.length ≤ st.i ∧ P.length ≤ st.i ∧ countL (P.map Prod.fst) ≤ st.i ∧ (∀ q ∈ P, ShortN q.1.2) ∧
        (m = true → ∃ g, T.length < st.i + g ∧ pLitsG T (T.length + 1) s0 [] = pLitsG T g st (P.map Prod.fst)) ∧ (m = false → pLitsG T (T.length + 1) s0 [] = .ok (st, P.map Prod.fst))) ∨
      ∃ p : Nat, bad = (p : Int) ∧ pLitsG T (T.length + 1) s0 [] = .error p)
/-- Where a literal's atom begins. -/
def sgn (T : List Tk) (st : PSt) : PSt := ⟨if (tkA T st.i).kind = 126 then st.i + 1 else st.i, st.vars, st.places⟩
theorem lits_err {T : List Tk} {g p : Nat} {st : PSt} {c : List Lt} (h : pTermG T (T.length + 1) true (sgn T st) [] = .error p) : pLitsG T (g + 1) st c = .error p := by
  unfold sgn at h
  rw [pLitsG, h]
theorem lits_more {T : List Tk} {g : Nat} {st s' : PSt} {a : List Nd} {c : List Lt} (h : pTermG T (T.length + 1) true (sgn T st) [] = .ok (s', a)) (hk : (tkA T s'.i).kind = 124) : pLitsG T (g + 1) st c = pLitsG T g ⟨s'.i + 1, s'.vars, s'.places⟩ (c ++ [(decide ((tkA T st.i).kind = 126), a)]) := by
  unfold sgn at h
  rw [pLitsG, h]
  simp only
  rw [if_pos hk]
theorem lits_stop {T : List Tk} {g : Nat} {st s' : PSt} {a : List Nd} {c : List Lt} (h : pTermG T (T.length + 1) true (sgn T st) [] = .ok (s', a)) (hk : (tkA T s'.i).kind ≠ 124) : pLitsG T (g + 1) st c = .ok (s', c ++ [(decide ((tkA T st.i).kind = 126), a)]) := by
  unfold sgn at h
  rw [pLitsG, h]
  simp only
  rw [if_neg hk]
theorem sgn_i (T : List Tk) (st : PSt) : st.i ≤ (sgn T st).i ∧ (sgn T st).i ≤ st.i + 1 ∧ (sgn T st).vars = st.vars ∧ (sgn T st).places = st.places := by
  unfold sgn
  simp only
  split <;> simp
theorem sgn_in {L T : List Tk} {brk : Int} (ht : TL L T brk) {st : PSt} (h : st.i < T.length) : (sgn T st).i < T.length := by
  unfold sgn
  simp only
  split
  · rename_i hk; exact ht.more _ h (by rw [hk]; decide) (by rw [hk]; decide)
  · exact h
section
variable {B pa : Nat} {w0 wr : World} {L T : List Tk} {brk : Int} {vL vC vB vP vV vc : Value} {s0 st : PSt} {k g : Nat} {P : List (Lt × Value)} {s2 : PSt} {bad2 : Int} {vl : Value} {l2 : List Nd}
/-- A literal is read, and one more is to come. -/
theorem LRel.more (ht : TL L T brk) (hx : TLx L T) (hk : k + P.length = T.length + 1) (hn : P.length ≤ st.i) (hc : countL (P.map Prod.fst) ≤ st.i) (hs : ∀ q ∈ P, ShortN q.1.2) (hi : st.i < T.length) (hp : st.places.length ≤ st.i) (hv : st.vars.length ≤ st.i) (hg : T.length < st.i + (g + 1)) (he : pLitsG T (T.length + 1) s0 [] = pLitsG T (g + 1) st (P.map Prod.fst)) (hT : T.length ≤ 1000002)
    (hr : pTermG T (T.length + 1) true (sgn T st) [] = .ok (s2, l2)) (h124 : (tkA T s2.i).kind = 124) (hC : CLoop B pa w0 L vL vC vB wr ⟨s2.i + 1, s2.vars, s2.places⟩ (-1) vP vV vc (P ++ [((decide ((tkA T st.i).kind = 126), l2), vl)])) :
    LRel B pa w0 L T vL vC vB s0 (k - 1) vc true wr := by
  obtain ⟨q1, q2, q3, q4⟩ := sgn_i T st
  have hon := (pTermG_on T (T.length + 1)).1 _ _ _ _ _ hr
  have hin := (pTermG_in ht (T.length + 1)).1 _ _ _ _ _ hr (sgn_in ht hi)
  have hsh := (pTermG_short hx (T.length + 1)).1 _ _ _ _ _ hr (by intro x hx; simp at hx)
  rw [q3, q4] at hon
  simp only [List.length_nil] at hon
  have h1 := ht.more _ hin (by rw [h124]; decide) (by rw [h124]; decide)
  refine ⟨_, -1, vP, vV, _, by simp; omega, hC, by simp; omega, Or.inl ⟨rfl, h1, by simp; omega, by simp; omega, by simp; omega, ?_, ?_, fun _ => ⟨g, by simp; omega, ?_⟩, fun h => by cases h⟩⟩
  · rw [List.map_append, List.map_singleton, countL_snoc]; simp only; omega
  · intro q hq
    rcases List.mem_append.1 hq with hq | hq
    · exact hs q hq
    · simp at hq; subst hq; exact hsh
  · rw [he, lits_more hr h124, List.map_append, List.map_singleton]
theorem LRel.stop (ht : TL L T brk) (hx : TLx L T) (hk : k + P.length = T.length + 1) (hn : P.length ≤ st.i) (hc : countL (P.map Prod.fst) ≤ st.i) (hs : ∀ q ∈ P, ShortN q.1.2) (hi : st.i < T.length) (hp : st.places.length ≤ st.i) (hv : st.vars.length ≤ st.i) (he : pLitsG T (T.length + 1) s0 [] = pLitsG T (g + 1) st (P.map Prod.fst)) (hT : T.length ≤ 1000002)
    (hr : pTermG T (T.length + 1) true (sgn T st) [] = .ok (s2, l2)) (h124 : (tkA T s2.i).kind ≠ 124) (hC : CLoop B pa w0 L vL vC vB wr s2 (-1) vP vV vc (P ++ [((decide ((tkA T st.i).kind = 126), l2), vl)])) :
    LRel B pa w0 L T vL vC vB s0 (k - 1) vc false wr := by
  obtain ⟨q1, q2, q3, q4⟩ := sgn_i T st
  have hon := (pTermG_on T (T.length + 1)).1 _ _ _ _ _ hr
  have hin := (pTermG_in ht (T.length + 1)).1 _ _ _ _ _ hr (sgn_in ht hi)
  have hsh := (pTermG_short hx (T.length + 1)).1 _ _ _ _ _ hr (by intro x hx; simp at hx)
  rw [q3, q4] at hon
  simp only [List.length_nil] at hon
  refine ⟨_, -1, vP, vV, _, by simp; omega, hC, by omega, Or.inl ⟨rfl, hin, by omega, by omega, by simp; omega, ?_, ?_, (fun h => by cases h), fun _ => ?_⟩⟩
  · rw [List.map_append, List.map_singleton, countL_snoc]; simp only; omega
  · intro q hq
    rcases List.mem_append.1 hq with hq | hq
    · exact hs q hq
    · simp at hq; subst hq; exact hsh
  · rw [he, lits_stop hr h124, List.map_append, List.map_singleton]
theorem LRel.err {p : Nat} {b : Bool} {m : Bool} (hk : k + P.length = T.length + 1) (hk1 : 1 ≤ k) (he : pLitsG T (T.length + 1) s0 [] = pLitsG T (g + 1) st (P.map Prod.fst))
    (hr : pTermG T (T.length + 1) true (sgn T st) [] = .error p) (hb : bad2 = (p : Int)) (hi : s2.i ≤ 3000000) (hC : CLoop B pa w0 L vL vC vB wr s2 bad2 vP vV vc (P ++ [((b, l2), vl)])) :
    LRel B pa w0 L T vL vC vB s0 (k - 1) vc m wr :=
  ⟨_, bad2, vP, vV, _, by simp; omega, hC, hi, Or.inr ⟨p, hb, by rw [he, lits_err hr]⟩⟩
end

set_option maxHeartbeats 3000000 in
theorem rpclause_any (B pa : Nat) (brk : Int) (st : PSt) (vL vP vC vB vV : Value) (L T : List Tk) (CV : List (List (Lt × Value) × Value)) (bg : List Nat) (w : World) (ht : TL L T brk) (hx : TLx L T) (hC : ∀ vC vB f, TermC B pa brk L T vL vC vB f) (h : PIn B w pa L st (-1) vL vP vC vB vV) (hD : DRest B w vC vB CV bg) (hBw : B ≤ w.heap.size) (hi : st.i < L.length) (hp : st.places.length ≤ st.i) (hT : T.length ≤ 1000000) (hbg : bg.length ≤ st.i) (hcv : CV.length ≤ st.i) :
    Calls Try.prog 17 #[.pointer (some ⟨pa, 0, none⟩), .int .i64 brk] w fun e w' => ClauseR B pa w L T st vL CV bg e w' := by
  obtain ⟨h63, hiT⟩ := hx.low _ hi
  have hpos := ht.pos _ h63
  obtain ⟨va, vac, rfl⟩ := own_shape hD.begins
  obtain ⟨ca, cac, rfl⟩ := own_shape hD.cl
  obtain ⟨iL, hL, hL0, hL1, hL2⟩ := info_parts infoLit
  obtain ⟨iM, hM, hM0, hM1, hM2⟩ := info_parts infoLits
  have htk := tok_kind
  have hta := tok_at
  have CH := hide (rhere_any B pa st.i (-1) vL vP _ _ vV L w.drew (h.drawn 1).box (h.drawn 1).toks)
  have HC := hide hC
  clear hC
  unfold tkV at CH
  rw [hpos] at CH
  obtain ⟨kk, hkk⟩ : ∃ kk, (tkA L st.i).kind = kk := ⟨_, rfl⟩
  obtain ⟨tx, htx⟩ : ∃ tx, (tkA L st.i).txt = tx := ⟨_, rfl⟩
  obtain ⟨tp, htp⟩ : ∃ tp, (tkA T st.i).pos = tp := ⟨_, rfl⟩
  rw [hkk, htx, htp] at CH
  have HKK := hide hkk
  have HTP := hide htp
  have HP := hide h
  have HD := hide hD
  have e5 := h.box.c5
  clear h hD hkk htx htp hpos
  go_enter Try.func17, Try.ntmps17
  go_upto_region 0 with (fail)
  go_cut [] (fun wx => ∃ vB', PIn B wx pa L st (-1) vL vP (.slice ca CV.length cac) vB' vV ∧ DRest B wx (.slice ca CV.length cac) vB' CV (bg ++ [tp]) ∧ Below B w wx ∧ w.heap.size ≤ wx.heap.size)
  case first =>
    refine pcalm ?_
    go_region_law (first
      | (refine pstep_call (by rfl) 15 _ _ (by rfl) (enters_of Try.func15 (by kernel_rfl) rfl) _ (by rfl) (unhide CH) ?_; rintro e w1 ⟨rfl, hb1⟩; refine ⟨_, rfl, ?_⟩; have HB1 : Hid (Below w.heap.size w w1) := hide ((below_drawn (w1 := w.drew) ⟨1, rfl⟩).trans hb1); have hw1 := HB1.out.size; have e51 := Below.at' HB1.out (Nat.le_refl _) e5; have e5A := (fun o => Below.at' ((Below.refl w1.heap.size w1).alloc (Nat.le_refl _) o) (Nat.le_refl _) e51); have HR1 := hide (own_below HD.out.begins HB1.out (Nat.le_refl _)); clear hb1)
      | (refine step_append_one ?g1 (.tmp 13) (.tmp 17) 25 3 ?g2 (.int .i64 0) 1 8 Try.underlying25 infoInt ?g3 ?g4 ?g5 B _ bg.length (bg.map fun k : Nat => Value.int .i64 (k : Int)) ?g6 (HR1.out.alloc _) ?g7 ?g8 w1.heap.size 1 [.int .i64 tp] ?g9 ?g10 (new1 w1 (.int .i64 tp) 3 w1.heap.size rfl) (one1 tp) ?_; (case g1 => rfl); (case g2 => rfl); (case g3 => rfl); (case g4 => decide); (case g5 => decide); (case g6 => rfl); (case g7 => omega); (case g8 => simp; omega); (case g9 => rfl); (case g10 => rfl); intro v3 w3 ho3 hg3; obtain ⟨s5, c5, hP3, hD3, hb3, hs3⟩ := begin_in HP.out HD.out hBw HB1.out ho3 hg3; have HP3 := hide hP3; have HD3 := hide hD3; have HB3 := hide hb3; have HS3 := hide hs3; obtain ⟨va3, vac3, rfl⟩ := own_shape ho3; clear ho3 hg3 hP3 hD3 hb3 hs3))
    all_goals
      refine unpcalm ?_
      go_wp2_with fail
      go_meet
      case rel => exact ⟨_, HP3.out, HD3.out, HB3.out, HS3.out⟩
  case rest =>
    obtain ⟨vB', hP0, hD0, hb0, hs0⟩ := hcut
    obtain ⟨hP1, hD1, hb1, hz1⟩ := vars_in hP0 hD0
    have c6 := hP0.box.c6
    have f6 := hP0.box.soft 6
    go_upto_region 3 with (fail)
    generalize wc.setCell ⟨pa, 6, none⟩ (.slice none 0 0) = w0 at *
    have HB0 := hide (hb0.trans hb1)
    have hBw0 : B ≤ w0.heap.size := by omega
    have hww0 : w.heap.size ≤ w0.heap.size := by omega
    have CH1 := hide (rhere_any B pa st.i (-1) vL vP _ vB' (.slice none 0 0) L w0 hP1.box hP1.toks)
    unfold tkV at CH1
    obtain ⟨k1, hk1⟩ : ∃ k1, (tkA L st.i).kind = k1 := ⟨_, rfl⟩
    rw [hk1] at CH1
    have HK1 := hide hk1
    have HC0 : Hid (CLoop B pa w0 L vL (.slice ca CV.length cac) vB' w0 ⟨st.i, [], st.places⟩ (-1) vP (.slice none 0 0) (.slice none 0 0) []) := hide ⟨hP1, KeptP.refl _ _ _, World.ownsRow_nil _ _ _ _, fun q hq => by simp at hq⟩
    have HD1 := hide hD1
    clear hP0 hD0 hb0 hs0 hP1 hD1 hb1 hz1 c6 f6 hk1 HP HD CH e5
    go_upto_if 27 with (first
      | (go_at_call 15; refine (unhide CH1).mono ?_; rintro e w1 ⟨rfl, hb5⟩; have HC1 := hide (HC0.out.below hb5); have d1 := HC1.out.pin.box.c1; have f1 := HC1.out.pin.box.soft 1; clear hb5)
      | go_in)
    clear HC0 CH1
    obtain ⟨b27, hb27⟩ : ∃ b, ((k1 : Int) == 102) = b := ⟨_, rfl⟩
    rw [hb27]
    go_cut [4] (fun c wx => CEnd B pa w0 L T vL (.slice ca CV.length cac) vB' st c wx)
    case first =>
      cases b27
      case true =>
        have hkT : (tkA T st.i).kind = 102 := by rw [← ht.kind, HK1.out]; simp at hb27; omega
        have hm := ht.more _ hiT (by rw [hkT]; decide) (by rw [hkT]; decide)
        have HR : Hid (∀ wx, CLoop B pa w0 L vL (.slice ca CV.length cac) vB' wx ⟨st.i + 1, [], st.places⟩ (-1) vP (.slice none 0 0) (.slice none 0 0) [] → CEnd B pa w0 L T vL (.slice ca CV.length cac) vB' st (.slice none 0 0) wx) := hide fun wx h => ⟨_, -1, _, _, [], h, by simp; omega, by
          rw [pBodyG, if_pos hkT]
          exact ⟨rfl, rfl, rfl, hm, by simp; omega, by simp, by simp [countL], fun q hq => by simp at hq⟩⟩
        clear hkT hb27
        go_wp2_with fail
        go_meet
        case rel => exact HR.out _ HC1.out.setI
      case false =>
        have hkT : (tkA T st.i).kind ≠ 102 := by rw [← ht.kind, HK1.out]; rw [beq_eq_false_iff_ne] at hb27; omega
        have HBO : Hid (pBodyG T st = pLitsG T (T.length + 1) ⟨st.i, [], st.places⟩ []) := hide (by rw [pBodyG, if_neg hkT])
        have HR0 : Hid (LRel B pa w0 L T vL (.slice ca CV.length cac) vB' ⟨st.i, [], st.places⟩ (T.length + 1) (.slice none 0 0) true w1) := hide ⟨_, -1, _, _, [], by simp, HC1.out, by simp; omega, Or.inl ⟨rfl, hiT, by simpa using hp, by simp, by simp, by simp [countL], (fun q hq => by simp at hq), fun _ => ⟨T.length + 1, by simp; omega, rfl⟩, fun h => by cases h⟩⟩
        clear hkT HC1 d1 f1 hb27
        go_wp2_with fail
        go_loopg [4, 5] (T.length + 1) (fun k c more wr => ∃ m : Bool, more = .bool m ∧ LRel B pa w0 L T vL (.slice ca CV.length cac) vB' ⟨st.i, [], st.places⟩ k c m wr)
        case atStart => exact ⟨true, rfl, HR0.out⟩
        case round =>
          clear HR0
          obtain ⟨m, rfl, s1, bad, vP1, vV1, P, hkP, hCL, hi3, hcs⟩ := hrel
          have d1 := hCL.pin.box.c1
          have d2 := hCL.pin.box.c2
          have f1 := hCL.pin.box.soft 1
          have HCL := hide hCL
          rcases hcs with ⟨rfl, hi1, hp1, hv1, hn1, hc1, hsh1, hm1, hm2⟩ | ⟨p, rfl, he⟩
          · cases m with
            | false =>
              have HR : Hid (CEnd B pa w0 L T vL (.slice ca CV.length cac) vB' st _ wr) := hide ⟨s1, -1, vP1, vV1, P, hCL, by omega, by
                rw [HBO.out, hm2 rfl]
                exact ⟨rfl, rfl, rfl, hi1, hp1, by omega, by omega, hsh1⟩⟩
              clear hCL hm1 hm2 hsh1
              go_wp2_with fail
              go_meet
              case rel => exact HR.out
            | true =>
              obtain ⟨g, hg, he⟩ := hm1 rfl
              obtain ⟨g, rfl⟩ : ∃ g', g = g' + 1 := ⟨g - 1, by omega⟩
              have HE := hide he
              have HSH := hide hsh1
              have CH := hide (rhere_any B pa s1.i (-1) vL vP1 _ vB' vV1 L wr hCL.pin.box hCL.pin.toks)
              unfold tkV at CH
              obtain ⟨k2, hk2⟩ : ∃ k2, (tkA L s1.i).kind = k2 := ⟨_, rfl⟩
              rw [hk2] at CH
              rw [ht.kind] at hk2
              have HK2 := hide hk2
              clear hCL hm1 hm2 hsh1 he hk2
              go_upto_if 47 with (first
                | (go_at_call 15; refine (unhide CH).mono ?_; rintro e w2 ⟨rfl, hb2⟩; have HC2 := hide (HCL.out.below hb2); have d21 := HC2.out.pin.box.c1; have f21 := HC2.out.pin.box.soft 1; clear hb2)
                | go_in)
              clear CH HCL d1 d2 f1
              go_cut [6] (fun nt wx => nt = .bool (decide ((tkA T s1.i).kind = 126)) ∧ CLoop B pa w0 L vL (.slice ca CV.length cac) vB' wx (sgn T s1) (-1) vP1 vV1 _ P)
              case first =>
                by_cases h126 : k2 = 126
                · subst h126
                  have HSG : Hid (sgn T s1 = ⟨s1.i + 1, s1.vars, s1.places⟩) := hide (by unfold sgn; rw [if_pos HK2.out])
                  go_wp2_with fail
                  go_meet
                  case rel => exact ⟨by rw [HK2.out]; rfl, by rw [HSG.out]; exact HC2.out.setI⟩
                · have HSG : Hid (sgn T s1 = s1) := hide (by unfold sgn; rw [if_neg (by rw [HK2.out]; exact h126)])
                  have hk126 : ((k2 : Int) == 126) = false := by rw [beq_eq_false_iff_ne]; omega
                  go_wp2_with fail
                  go_meet
                  case rel => exact ⟨by rw [HK2.out]; simp [h126]; omega, by rw [HSG.out]; exact HC2.out⟩
              case rest =>
                clear HC2 d21 f21
                obtain ⟨rfl, hC3⟩ := hcut
                obtain ⟨ra, rc, rfl⟩ := own_shape hC3.row
                obtain ⟨q1, q2, q3, q4⟩ := sgn_i T s1
                have hBc : B ≤ wc.heap.size := Nat.le_trans hBw0 hC3.kept.size
                have CT := hide (HC.out (.slice ca CV.length cac) vB' (T.length + 1) wc.heap.size true (sgn T s1) vP1 vV1 (.slice none 0 0) [] wc hC3.pin (World.ownsRow_nil _ _ _ _) hBc (Nat.le_refl _) (sgn_in ht hi1) (by omega) (by omega) (by simp) (by rw [q4]; omega) (by rw [q3]; omega))
                have HC3 := hide hC3
                clear hC3
                go_wp2_with (first
                  | (go_at_call 31; refine (unhide CT).mono ?_; rintro e w3 ⟨vl3, vP3, vV3, s3, bad3, l3, rfl, hp3, hl3, hk3, hbd3, hr3⟩; obtain ⟨la, lac, rfl⟩ := own_shape hl3; obtain ⟨hC4, hl4⟩ := HC3.out.atom hp3 hk3 hl3; have HC4 := hide hC4; have HL4 := hide hl4; have HR3 := hide hr3; have hi4 := hbd3.2.1; have hz4 := hC4.kept.size; clear hC4 hl4 hr3 hp3 hl3 hk3 hbd3)
                  | (at_builtin; refine wpList_append_own _ rfl (.tmp 58) (.tmp 62) 42 rfl w0.heap.size 49 iL (.agg #[.bool false, .slice none 0 0]) 2 32 Try.underlying42 hL hL0 hL1 hL2 rfl (by decide) _ _ _ rfl (HC4.out.row.alloc _) ⟨_, 0, none⟩ 1 1 [.bool (decide ((tkA T s1.i).kind = 126)), .slice la l3.length lac] rfl rfl ?c1 ?c2 ?c3 ?c4 ?c5 ?_)
                  | go_in)
                try case c1 => exact new2 _ _ _ _ _ rfl
                try case c2 => exact oneLit _ _ _ _
                case c3 => unfold maxLen; omega
                case c4 => omega
                case c5 => simp; omega
                intro v5 w5 ho5 hg5 _
                have hC5 := (HC4.out.below ((Below.refl _ _).alloc (Nat.le_refl _) _)).lit (x := (decide ((tkA T s1.i).kind = 126), l3)) (HL4.out.alloc _) ho5 hg5
                obtain ⟨va5, vc5, rfl⟩ := own_shape ho5
                have HC5 := hide hC5
                have g1 := hC5.pin.box.c1
                have g2 := hC5.pin.box.c2
                have h1 := hC5.pin.box.soft 1
                clear hC5 ho5 hg5 HC4 HL4 CT HC3
                have hr3 := HR3.out
                clear HR3
                cases hq : pTermG T (T.length + 1) true (sgn T s1) [] with
                | error p =>
                  rw [hq] at hr3
                  simp only at hr3
                  subst hr3
                  have HQ := hide hq
                  clear hq
                  have hb0 : decide ((p : Int) < 0) = false := by simp
                  go_wp2_with fail
                  go_roundg (gk - 1)
                  case measure => omega
                  case rel => exact ⟨false, rfl, LRel.err hkP (by omega) HE.out HQ.out rfl (by omega) HC5.out⟩
                | ok r =>
                  obtain ⟨s4, l4⟩ := r
                  rw [hq] at hr3
                  simp only at hr3
                  obtain ⟨rfl, rfl, rfl⟩ := hr3
                  have HQ := hide hq
                  clear hq
                  have CH5 := hide (rhere_any B pa s3.i (-1) vL vP3 _ vB' vV3 L w5 HC5.out.pin.box HC5.out.pin.toks)
                  unfold tkV at CH5
                  obtain ⟨k5, hk5⟩ : ∃ k5, (tkA L s3.i).kind = k5 := ⟨_, rfl⟩
                  rw [hk5] at CH5
                  rw [ht.kind] at hk5
                  have HK5 := hide hk5
                  clear hk5
                  by_cases h124 : k5 = 124
                  · subst h124
                    go_wp2_with (first
                      | (go_at_call 15; refine (unhide CH5).mono ?_; rintro e w6 ⟨rfl, hb6⟩; have HC6 := hide (HC5.out.below hb6); have g61 := HC6.out.pin.box.c1; have h61 := HC6.out.pin.box.soft 1; clear hb6)
                      | go_in)
                    go_roundg (gk - 1)
                    case measure => omega
                    case rel => exact ⟨true, rfl, LRel.more ht hx hkP hn1 hc1 HSH.out hi1 hp1 hv1 hg HE.out (by omega) HQ.out HK5.out HC6.out.setI⟩
                  · have hk124 : ((k5 : Int) == 124) = false := by rw [beq_eq_false_iff_ne]; omega
                    go_wp2_with (first
                      | (go_at_call 15; refine (unhide CH5).mono ?_; rintro e w6 ⟨rfl, hb6⟩; have HC6 := hide (HC5.out.below hb6); clear hb6)
                      | go_in)
                    go_roundg (gk - 1)
                    case measure => omega
                    case rel => exact ⟨false, rfl, LRel.stop ht hx hkP hn1 hc1 HSH.out hi1 hp1 hv1 HE.out (by omega) HQ.out (by rw [HK5.out]; exact h124) HC6.out⟩
          · have HR : Hid (CEnd B pa w0 L T vL (.slice ca CV.length cac) vB' st _ wr) := hide ⟨s1, _, vP1, vV1, P, hCL, by omega, by
              rw [HBO.out, he]⟩
            have hb0 : decide ((p : Int) < 0) = false := by simp
            clear hCL he
            cases m with
            | true =>
              go_wp2_with fail
              go_meet
              case rel => exact HR.out
            | false =>
              go_wp2_with fail
              go_meet
              case rel => exact HR.out
    case rest =>
      clear HC1 d1 f1 hb27
      obtain ⟨s9, bad9, vP9, vV9, P, hC9, hi9, hr9⟩ := hcut
      have HC9 := hide hC9
      have d1 := hC9.pin.box.c1
      have d2 := hC9.pin.box.c2
      have f1 := hC9.pin.box.soft 1
      have HBL : Hid (∀ wx, KeptP B w0.heap.size w0 wx → Below B w wx ∧ w.heap.size ≤ wx.heap.size) := hide fun wx h => ⟨HB0.out.trans (h.below hBw0), Nat.le_trans hww0 h.size⟩
      cases hq : pBodyG T st with
      | error p =>
        rw [hq] at hr9
        simp only at hr9
        subst hr9
        have HPC : Hid (pClauseG T st = .error p) := hide (by rw [pClauseG, hq])
        have hb9 : decide ((p : Int) < 0) = false := by simp
        clear hC9 hq
        go_wp2_with fail
        go_returns
        have hS := HC9.out.setI
        refine ⟨rfl, (HBL.out _ hS.kept).1, (HBL.out _ hS.kept).2, ?_⟩
        rw [HPC.out]
        exact ⟨_, _, _, _, _, hS.pin.box⟩
      | ok r =>
        obtain ⟨s1, c⟩ := r
        rw [hq] at hr9
        simp only at hr9
        obtain ⟨rfl, rfl, rfl, hin, hp9, hn9, hc9, hsh9⟩ := hr9
        have CH9 := hide (rhere_any B pa s1.i (-1) vL vP9 _ vB' vV9 L wc hC9.pin.box hC9.pin.toks)
        unfold tkV at CH9
        obtain ⟨k9, hk9⟩ : ∃ k9, (tkA L s1.i).kind = k9 := ⟨_, rfl⟩
        rw [hk9] at CH9
        rw [ht.kind] at hk9
        clear hC9
        by_cases h46 : k9 = 46
        · subst h46
          have HPC : Hid (pClauseG T st = .ok (⟨s1.i + 1, s1.vars, s1.places⟩, P.map Prod.fst)) := hide (by rw [pClauseG, hq]; simp only; rw [if_pos hk9])
          clear hq hk9
          go_wp2_with (first
            | (go_at_call 15; refine (unhide CH9).mono ?_; rintro e w3 ⟨rfl, hb3⟩; have hC3 := (HC9.out.below hb3); have e1 := hC3.pin.box.c1; have e3 := hC3.pin.box.soft 1; have hC4 := hC3.setI; have e2 := hC4.pin.box.c2; obtain ⟨ra, rc, rfl, hlits⟩ := lits_in hC4.row hC4.atoms hsh9 hc9 (by omega); have CO := hide (ordered_any ra rc _ _ hlits hc9); rw [List.length_map] at CO; have HC4 := hide hC4; clear hb3 hC3 hC4 hlits)
            | (go_at_call 32; refine (unhide CO).mono ?_; rintro e w5 ⟨vo, Q, rfl, hQ, hrow5, hat5, hb5⟩; have hs5 : B ≤ (w3.setCell ⟨pa, 1, none⟩ (.int .i64 ((s1.i : Int) + 1))).heap.size := Nat.le_trans hBw0 HC4.out.kept.size; have HD5 := hide ((HD1.out.keptP HC4.out.kept (Nat.le_refl _)).below hb5); have HP5 := hide (HC4.out.pin.below hb5); have HCL5 : Hid (ClR w5 B (Q, vo)) := hide ⟨own_mono hrow5 hs5, fun q hq => own_mono (hat5 q hq) hs5⟩; have HK5 := hide (HC4.out.kept.trans (.of_below hb5)); have e4 := HP5.out.box.c4; have hB5 : B ≤ w5.heap.size := Nat.le_trans hs5 hb5.size; have HQ := hide hQ; obtain ⟨oa, oc, rfl⟩ := own_shape hrow5; clear hrow5 hat5 hb5 hQ hs5)
            | (at_builtin; refine wpList_append_own _ rfl (.tmp 115) (.tmp 117) 26 rfl B 42 iM (.slice none 0 0) 1 24 Try.underlying26 hM hM0 hM1 hM2 rfl (by decide) _ _ _ rfl (HD5.out.cl.alloc _) ⟨_, 0, none⟩ 1 1 [.slice oa Q.length oc] rfl rfl ?c1 ?c2 ?c3 ?c4 ?c5 ?_)
            | go_in)
          try case c1 => exact new1 _ _ _ _ rfl
          try case c2 => intro u hu; simp at hu; subst hu; rfl
          case c3 => unfold maxLen; omega
          case c4 => omega
          case c5 => simp; omega
          intro v6 w6 ho6 hg6 _
          obtain ⟨va6, vc6, rfl⟩ := own_shape ho6
          obtain ⟨s6, g6, hP6, hD6, hb6, hz6⟩ := clause_in HP5.out HD5.out HCL5.out hB5 ho6 hg6
          have HP6 := hide hP6
          have HD6 := hide hD6
          have HB6 := hide hb6
          have HZ6 := hide hz6
          clear hP6 hD6 hb6 hz6 ho6 hg6
          go_wp2_with fail
          go_returns
          refine ⟨rfl, (HBL.out _ HK5.out).1.trans HB6.out, Nat.le_trans (HBL.out _ HK5.out).2 HZ6.out, ?_⟩
          rw [HPC.out, HTP.out]
          exact ⟨_, _, _, _, Q, _, HP6.out, HD6.out, HQ.out⟩
        · have hk46 : ((k9 : Int) != 46) = true := by simp; omega
          have HPC : Hid (pClauseG T st = .error (tkA T s1.i).pos) := hide (by rw [pClauseG, hq]; simp only; rw [if_neg (by rw [hk9]; exact h46)])
          have hbd := ht.bad _ hin
          clear hq hk9
          go_wp2_with (first
            | (go_at_call 15; refine (unhide CH9).mono ?_; rintro e w3 ⟨rfl, hb3⟩; have hC3 := HC9.out.below hb3; have CW3 := hide (rwrong_any B pa s1.i brk vL vP9 _ vB' vV9 L w3 hC3.pin.box hC3.pin.toks); have HC3 := hide hC3; clear hb3 hC3)
            | (go_at_call 16; refine (unhide CW3).mono ?_; rintro e w4 ⟨rfl, hb4, hg4⟩; rw [hbd] at hb4; have HC4 := hide (HC3.out.wrong hb4 hg4); have e1 := hb4.c1; have e2 := hb4.c2; have e3 := hb4.soft 1; clear hb4 hg4)
            | go_in)
          go_returns
          have hS := HC4.out.setI
          refine ⟨rfl, (HBL.out _ hS.kept).1, (HBL.out _ hS.kept).2, ?_⟩
          rw [HPC.out]
          exact ⟨_, _, _, _, _, hS.pin.box⟩

end Go.Proofs.Ytcpdadppblbndaa
