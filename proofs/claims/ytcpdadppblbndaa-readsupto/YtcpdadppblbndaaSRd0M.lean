/- Pure: what the document's parser reads is small; what Read answers. The law reads a text twice and takes both lists into its book: what holds on the way. -/
import Derived.Test.YtcpdadppblbndaaSCl2
import Derived.Test.YtcpdadppblbndaaBLs2
namespace Go.Proofs.Ytcpdadppblbndaa
open Go.RowKit
set_option maxRecDepth 100000

theorem shortN_nil : ShortN [] := fun x hx => by simp at hx
/-- Literals: short names, and no more than so many tokens. -/
theorem pLitsG_ok {L T : List Tk} {brk : Int} (ht : TL L T brk) (hx : TLx L T) : ∀ f st c st' c', pLitsG T f st c = .ok (st', c') → st.i < T.length → (∀ x ∈ c, ShortN x.2) →
    (∀ x ∈ c', ShortN x.2) ∧ st.i < st'.i ∧ st'.i < T.length ∧ countL c' ≤ countL c + (st'.i - st.i) ∧ c'.length ≤ c.length + (st'.i - st.i) ∧ st.places.length ≤ st'.places.length ∧ st'.places.length ≤ st.places.length + (st'.i - st.i) := by
  intro f
  induction f with
  | zero => intro st c st' c' h; simp [pLitsG] at h
  | succ f ih =>
    intro st c st' c' h hi hs
    cases hq : pTermG T (T.length + 1) true (sgn T st) [] with
    | error p => rw [lits_err hq] at h; simp at h
    | ok r =>
      obtain ⟨s2, l2⟩ := r
      obtain ⟨q1, q2, q3, q4⟩ := sgn_i T st
      have hon := (pTermG_on T (T.length + 1)).1 _ _ _ _ _ hq
      have hin := (pTermG_in ht (T.length + 1)).1 _ _ _ _ _ hq (sgn_in ht hi)
      have hsh := (pTermG_short hx (T.length + 1)).1 _ _ _ _ _ hq shortN_nil
      rw [q3, q4] at hon
      simp only [List.length_nil] at hon
      have hs2 : ∀ x ∈ c ++ [(decide ((tkA T st.i).kind = 126), l2)], ShortN x.2 := by
        intro x hx
        rcases List.mem_append.1 hx with hx | hx
        · exact hs x hx
        · simp at hx; subst hx; exact hsh
      by_cases hk : (tkA T s2.i).kind = 124
      · rw [lits_more hq hk] at h
        have h1 := ht.more _ hin (by rw [hk]; decide) (by rw [hk]; decide)
        have r := ih _ _ _ _ h h1 hs2
        rw [countL_snoc] at r
        simp only [List.length_append, List.length_singleton] at r
        refine ⟨r.1, ?_⟩
        obtain ⟨_, r2, r3, r4, r5, r6, r7⟩ := r
        omega
      · rw [lits_stop hq hk] at h
        simp only [Except.ok.injEq, Prod.mk.injEq] at h
        obtain ⟨rfl, rfl⟩ := h
        refine ⟨hs2, ?_⟩
        rw [countL_snoc]
        simp only [List.length_append, List.length_singleton]
        omega
/-- A clause: the same. -/
theorem pClauseG_ok {L T : List Tk} {brk : Int} (ht : TL L T brk) (hx : TLx L T) {st st' : PSt} {c : List Lt} (h : pClauseG T st = .ok (st', c)) (hi : st.i < T.length) :
    (∀ x ∈ c, ShortN x.2) ∧ st.i < st'.i ∧ st'.i < T.length ∧ countL c ≤ T.length ∧ c.length ≤ T.length ∧ st.places.length ≤ st'.places.length ∧ st'.places.length ≤ st.places.length + (st'.i - st.i) := by
  unfold pClauseG at h
  cases hq : pBodyG T st with
  | error p => rw [hq] at h; simp at h
  | ok r =>
    obtain ⟨s1, c1⟩ := r
    rw [hq] at h
    simp only at h
    split at h
    · rename_i hk
      simp only [Except.ok.injEq, Prod.mk.injEq] at h
      obtain ⟨rfl, rfl⟩ := h
      unfold pBodyG at hq
      split at hq
      · rename_i h102
        have h1 := ht.more _ hi (by rw [h102]; decide) (by rw [h102]; decide)
        simp only [Except.ok.injEq, Prod.mk.injEq] at hq
        obtain ⟨rfl, rfl⟩ := hq
        have h2 := ht.more _ h1 (by rw [hk]; decide) (by rw [hk]; decide)
        refine ⟨fun x hx => by simp at hx, by simp; omega, h2, by simp [countL], by simp, by simp, by simp⟩
      · obtain ⟨r1, r2, r3, r4, r5, r6, r7⟩ := pLitsG_ok ht hx _ _ _ _ _ hq hi (fun x hx => by simp at hx)
        have h2 := ht.more _ r3 (by rw [hk]; decide) (by rw [hk]; decide)
        simp only [List.length_nil, countL, List.map_nil, List.sum_nil] at r2 r4 r5 r6 r7
        refine ⟨r1, by simp only; omega, h2, ?_, by omega, r6, by simp only; omega⟩
        unfold countL
        omega
    · simp at h
/-- A token that is none begins no clause. -/
theorem pClauseG_none {T : List Tk} {st : PSt} (h : (tkA T st.i).kind = 63) : pClauseG T st = .error (tkA T st.i).pos := by
  have h1 : sgn T ⟨st.i, [], st.places⟩ = ⟨st.i, [], st.places⟩ := by unfold sgn; rw [if_neg (by simp only; rw [h]; decide)]
  have h2 : pTermG T (T.length + 1) true (sgn T ⟨st.i, [], st.places⟩) [] = .error (tkA T st.i).pos := by
    rw [h1, pTermG, if_neg (by simp only; rw [h]; exact fun e => absurd e.1 (by decide)), if_pos (by simp only; rw [h]; decide)]
  have h3 : pBodyG T st = .error (tkA T st.i).pos := by
    rw [pBodyG, if_neg (by rw [h]; decide)]
    exact lits_err h2
  rw [pClauseG, h3]
/-- In order: no more, and the same names. -/
theorem renL_short (l : List Nd) : ∀ seen, ShortN l → ShortN (renL l seen).1 := by
  have key : ∀ (l : List Nd) (acc : List Nd × List Int), ShortN l → ShortN acc.1 → ShortN (l.foldl renStep acc).1 := by
    intro l
    induction l with
    | nil => intro acc _ h; exact h
    | cons x r ih =>
      intro acc hl ha
      refine ih _ (fun y hy => hl y (List.mem_cons_of_mem _ hy)) ?_
      have hxs := hl x (List.mem_cons_self ..)
      unfold renStep
      split
      · split
        · exact shortN_snoc ha (by first | exact hxs | (rw [size_e]; omega))
        · exact shortN_snoc ha (by first | exact hxs | (rw [size_e]; omega))
      · exact shortN_snoc ha hxs
  exact fun seen h => key l ([], seen) h shortN_nil
theorem litSt_short (c : List Lt) (h : ∀ x ∈ c, ShortN x.2) : ∀ x ∈ (litSt c).1, ShortN x.2 := by
  have key : ∀ (c : List Lt) (acc : List Lt × List Int), (∀ x ∈ c, ShortN x.2) → (∀ x ∈ acc.1, ShortN x.2) → ∀ x ∈ (c.foldl litStep acc).1, ShortN x.2 := by
    intro c
    induction c with
    | nil => intro acc _ h; exact h
    | cons y r ih =>
      intro acc hc ha
      refine ih _ (fun z hz => hc z (List.mem_cons_of_mem _ hz)) ?_
      intro x hx
      unfold litStep at hx
      simp only at hx
      rcases List.mem_append.1 hx with hx | hx
      · exact ha x hx
      · simp at hx
        subst hx
        exact renL_short _ _ (hc y (List.mem_cons_self ..))
  exact key c ([], []) h (fun x hx => by simp at hx)
theorem litSt_count (c : List Lt) : countL (litSt c).1 = countL c := by
  have key : ∀ (c : List Lt) (acc : List Lt × List Int), countL (c.foldl litStep acc).1 = countL acc.1 + countL c := by
    intro c
    induction c with
    | nil => intro acc; simp [countL]
    | cons y r ih =>
      intro acc
      rw [List.foldl_cons, ih]
      unfold litStep
      simp only
      rw [countL_snoc]
      simp only [countL, List.map_cons, List.sum_cons]
      have := (renL_bounds y.2 acc.2).1
      omega
  have := key c ([], [])
  simpa [litSt, countL] using this
theorem ordL_small (c : List Lt) (h : ∀ x ∈ c, ShortN x.2) : (∀ x ∈ ordL c, ShortN x.2) ∧ countL (ordL c) ≤ countL c ∧ (ordL c).length ≤ c.length := by
  obtain ⟨d1, d2, d3⟩ := dedL_bounds c
  refine ⟨litSt_short _ fun x hx => h x (d3 x hx), ?_, ?_⟩
  · unfold ordL
    rw [litSt_count]
    exact d2
  · unfold ordL
    rw [(litSt_bounds _).1]
    exact d1
/-- A clause cannot stand there: there are too many, or it is too great. -/
def badCl (cs : List (Nat × List Lt)) (i : Nat) (h : i < cs.length) : Prop := 40 ≤ i ∨ fitsL (ordL cs[i].2) = false
def ManyR (cs : List (Nat × List Lt)) (out : List (List Lt)) (at' er : Int) : Prop :=
  (∃ i h, badCl cs i h ∧ (∀ j hj, j < i → ¬ badCl cs j hj) ∧ out = [] ∧ at' = cs[i].1 ∧ er = 4) ∨ ((∀ i h, ¬ badCl cs i h) ∧ out = cs.map (fun p => ordL p.2) ∧ at' = 0 ∧ er = 0)
/-- What Read answers. -/
def RdSpec (s : ByteArray) (out : List (List Lt)) (at' er : Int) : Prop :=
  (3000 < s.size ∧ out = [] ∧ at' = 0 ∧ er = 1) ∨ (s.size ≤ 3000 ∧
    match pAll s with
    | .error p => out = [] ∧ at' = p ∧ er = 2
    | .ok (st, cs) => ∃ r, NamedR st.places r ∧ ((0 ≤ r ∧ out = [] ∧ at' = r ∧ er = 3) ∨ (r < 0 ∧ ManyR cs out at' er)))

end Go.Proofs.Ytcpdadppblbndaa

namespace Go.Proofs.Ytcpdadppblbndaa
open Go.RowKit Go.Shelf
set_option maxRecDepth 100000

/-- Few clauses, and short ones. -/
theorem RdSpec.few {s : ByteArray} {out : List (List Lt)} {a e : Int} (h : RdSpec s out a e) : out.length ≤ 40 ∧ ∀ c ∈ out, c.length ≤ 8 := by
  have hnil : ∀ {o : List (List Lt)}, o = [] → o.length ≤ 40 ∧ ∀ c ∈ o, c.length ≤ 8 := by
    rintro o rfl
    simp
  rcases h with ⟨_, h, _⟩ | ⟨_, h⟩
  · exact hnil h
  · cases hp : pAll s with
    | error p => rw [hp] at h; exact hnil h.1
    | ok y =>
      obtain ⟨st, cs⟩ := y
      rw [hp] at h
      obtain ⟨r, _, ⟨_, h, _⟩ | ⟨_, ⟨i, hi, _, _, h, _⟩ | ⟨h, rfl, _⟩⟩⟩ := h
      · exact hnil h
      · exact hnil h
      · refine ⟨?_, fun c hc => ?_⟩
        · rw [List.length_map]
          refine Nat.le_of_not_lt fun hl => ?_
          exact h 40 hl (Or.inl (Nat.le_refl _))
        · obtain ⟨i, hi, rfl⟩ := List.getElem_of_mem hc
          rw [List.length_map] at hi
          rw [List.getElem_map]
          have := h i hi
          unfold badCl at this
          have hf : fitsL (ordL cs[i].2) = true := by
            cases hf : fitsL (ordL cs[i].2) with
            | true => rfl
            | false => exact absurd (Or.inr hf) this
          unfold fitsL at hf
          simp at hf
          exact hf.1
section
variable {w w1 w4 w5 : World} {B bk : Nat} {nv mv xv yv nv' mv' xv' yv' v1 v2 v : Value} {E E1 : List (Value × Int)} {F F1 : List LTri} {G G1 : List GTri} {next next1 : Int} {QV QV1 QV2 : List (List (Lt × Value) × Value)}
theorem OrdMem.same (h : OrdMem B w v QV) (hs : ∀ k, B ≤ k → k < w.heap.size → w1.heap[k]? = w.heap[k]?) : OrdMem B w1 v QV := by
  have key : ∀ {e : TypeId} {s n : Nat} {u : Value} {xs : List Value}, w.ownsRow B e s u n xs → w1.ownsRow B e s u n xs := fun hu => own_same hu fun k hk => hs k (own_lt hu k hk).1 (own_lt hu k hk).2
  exact ⟨⟨key h.mem.1, fun p hp => ⟨⟨key (h.mem.2 p hp).1.1, fun q hq => key ((h.mem.2 p hp).1.2 q hq)⟩, (h.mem.2 p hp).2⟩⟩, h.once, h.atoms⟩
theorem OrdMem.low {B1 : Nat} (h : OrdMem B w v QV) (hB : B1 ≤ B) : OrdMem B1 w v QV :=
  ⟨⟨own_mono h.mem.1 hB, fun p hp => ⟨⟨own_mono (h.mem.2 p hp).1.1 hB, fun q hq => own_mono ((h.mem.2 p hp).1.2 q hq) hB⟩, (h.mem.2 p hp).2⟩⟩, h.once, h.atoms⟩
/-- The rows lie between. -/
theorem OrdMem.inner (h : OrdMem B w v QV) : ∀ u ∈ v :: inner QV, ∀ k, u.ownBlock = some k → B ≤ k ∧ k < w.heap.size := by
  intro u hu k hk
  rcases List.mem_cons.1 hu with rfl | hu
  · exact own_lt h.mem.1 k hk
  · obtain ⟨p, hp, rfl | ⟨q, hq, rfl⟩⟩ := inner_mem hu
    · exact own_lt (h.mem.2 p hp).1.1 k hk
    · exact own_lt ((h.mem.2 p hp).1.2 q hq) k hk
theorem Book2.rowsLt (h : Book2 w B bk nv mv xv yv E F G next) : ∀ u ∈ [nv, mv, xv, yv], ∀ k, u.ownBlock = some k → B ≤ k ∧ k < w.heap.size := by
  intro u hu k hk
  simp at hu
  rcases hu with rfl | rfl | rfl | rfl
  · exact own_lt h.base.rn k hk
  · exact own_lt h.base.rm k hk
  · exact own_lt h.rx k hk
  · exact own_lt h.ry k hk
/-- The first list may be taken. -/
theorem Takes.first (h : Book2 w B bk nv mv xv yv E F G next) (hm : OrdMem w.heap.size w4 v QV) (hf : QV.length ≤ 40) (hs : ∀ p ∈ QV, p.1.length ≤ 8) : Takes w4 B xv v E F G QV := by
  have hBw : B ≤ w.heap.size := Nat.le_trans h.base.high (Nat.le_of_lt h.base.lt)
  refine ⟨hm.low hBw, hf, hs, ?_, fun k hk => ⟨fun e => ?_, fun u hu e => ?_⟩⟩
  · cases hv : v.ownBlock with
    | none => exact Or.inl rfl
    | some k =>
      refine Or.inr fun e => ?_
      have a := (hm.inner v (List.mem_cons_self ..) k hv).1
      have b := (h.rowsLt xv (by simp) k e.symm).2
      omega
  · have a := (hm.inner v (List.mem_cons_self ..) k e).1
    have b := h.heldLt k hk
    omega
  · have a := (hm.inner u (List.mem_cons_of_mem _ hu) k e).1
    have b := h.heldLt k hk
    omega
/-- The second list may be taken behind the first. -/
theorem Takes.second (h : Book2 w B bk nv mv xv yv E F G next) (h14 : w.heap.size ≤ w1.heap.size ∧ w1.heap.size ≤ w4.heap.size) (m1 : OrdMem w.heap.size w1 v1 QV1) (m2 : OrdMem w1.heap.size w4 v2 QV2) (r : OlR w4 B bk nv mv xv yv v1 E F G next QV1 w5 nv' mv' xv' yv' E1 F1 G1 next1) (hf : QV2.length ≤ 40) (hs : ∀ p ∈ QV2, p.1.length ≤ 8) : Takes w5 B xv' v2 E1 F1 G1 QV2 := by
  have hBw : B ≤ w.heap.size := Nat.le_trans h.base.high (Nat.le_of_lt h.base.lt)
  have hbl := h.base.lt
  have hstay : ∀ k, w1.heap.size ≤ k → k < w4.heap.size → w5.heap[k]? = w4.heap[k]? := by
    intro k h1 h2
    refine r.far.block k h2 (by omega) (fun e => ?_) (fun e => ?_) (fun u hu e => ?_)
    · have := (h.rowsLt nv (by simp) k e).2; omega
    · have := (h.rowsLt mv (by simp) k e).2; omega
    · rcases List.mem_cons.1 hu with rfl | hu
      · have := (h.rowsLt _ (by simp) k e).2; omega
      · rcases List.mem_cons.1 hu with rfl | hu
        · have := (h.rowsLt _ (by simp) k e).2; omega
        · have := (m1.inner u hu k e).2; omega
  have hap : ∀ u ∈ v2 :: inner QV2, ∀ k ∈ held E1 F1 G1, u.ownBlock ≠ some k := by
    intro u hu k hk e
    have a := m2.inner u hu k e
    rcases r.held k hk with q | q | ⟨u', hu', q⟩ | q
    · have := h.heldLt k q; omega
    · have := (m1.inner v1 (List.mem_cons_self ..) k q).2; omega
    · have := (m1.inner u' (List.mem_cons_of_mem _ hu') k q).2; omega
    · omega
  refine ⟨(m2.same hstay).low (by omega), hf, hs, ?_, fun k hk => ⟨hap v2 (List.mem_cons_self ..) k hk, fun u hu => hap u (List.mem_cons_of_mem _ hu) k hk⟩⟩
  cases hv : v2.ownBlock with
  | none => exact Or.inl rfl
  | some k =>
    refine Or.inr fun e => ?_
    have a := m2.inner v2 (List.mem_cons_self ..) k hv
    rcases r.mx with q | ⟨g, q, hg⟩
    · have := (h.rowsLt xv (by simp) k (by rw [← q, e])).2; omega
    · rw [q] at e; simp at e; omega
theorem AFar.low {L : List Value} (h : AFar w w1 bk nv mv L) {C : Nat} (h1 : C ≤ bk) (h2 : ∀ u ∈ nv :: mv :: L, ∀ k, u.ownBlock = some k → C ≤ k) (hC : C ≤ w.heap.size) : Below C w w1 :=
  ⟨h.os, h.tape, h.output, h.size, fun k hk => h.block k (by omega) (by omega) (fun e => by have := h2 nv (by simp) k e; omega) (fun e => by have := h2 mv (by simp) k e; omega) (fun u hu e => by have := h2 u (by simp [hu]) k e; omega)⟩
/-- What a list taken leaves below. -/
theorem OlR.low (h : Book2 w B bk nv mv xv yv E F G next) (m : OrdMem B w v QV) (r : OlR w B bk nv mv xv yv v E F G next QV w5 nv' mv' xv' yv' E1 F1 G1 next1) : Below B w w5 := by
  refine r.far.low h.base.high (fun u hu k hk => ?_) (Nat.le_trans h.base.high (Nat.le_of_lt h.base.lt))
  rcases List.mem_cons.1 hu with rfl | hu
  · exact (h.rowsLt _ (by simp) k hk).1
  · rcases List.mem_cons.1 hu with rfl | hu
    · exact (h.rowsLt _ (by simp) k hk).1
    · rcases List.mem_cons.1 hu with rfl | hu
      · exact (h.rowsLt _ (by simp) k hk).1
      · rcases List.mem_cons.1 hu with rfl | hu
        · exact (h.rowsLt _ (by simp) k hk).1
        · exact (m.inner u hu k hk).1
end

end Go.Proofs.Ytcpdadppblbndaa
