/- Pure: the tokens' texts are short, and so are the names of what is read; what the document's parser holds of clauses in memory. The document's parser: its clauses in memory, and what stays while one is read. -/
import Derived.Test.YtcpdadppblbndaaSNam0M
namespace Go.Proofs.Ytcpdadppblbndaa
open Go.RowKit
set_option maxRecDepth 100000

theorem size_e : (⟨#[]⟩ : ByteArray).size = 0 := rfl
theorem extract_small (s : ByteArray) (a b : Nat) : (s.extract a b).size ≤ b - a := by
  rw [ByteArray.size_extract]
  omega
theorem quoGo_small (s : ByteArray) : ∀ f name p n e, quoGo s f name p = some (n, e) → n.size + p ≤ name.size + e ∧ e ≤ s.size := by
  intro f
  induction f with
  | zero => intro name p n e h; simp [quoGo] at h
  | succ f ih =>
    intro name p n e h
    rw [quoGo] at h
    split at h
    · split at h
      · split at h
        · simp at h
          obtain ⟨rfl, rfl⟩ := h
          omega
        · simp at h
      · split at h
        · split at h
          · have q := ih _ _ _ _ h
            have := extract_small s (p + 1) (p + 2)
            rw [ByteArray.size_append] at q
            omega
          · simp at h
        · split at h
          · simp at h
          · have q := ih _ _ _ _ h
            have := extract_small s p (p + charAt s p)
            rw [ByteArray.size_append] at q
            omega
    · simp at h
theorem tokAt_small {s : ByteArray} {k e : Nat} {t : Tk} (h : tokAt s k = .tok t e) : t.txt.size ≤ s.size := by
  unfold tokAt at h
  split at h
  · split at h
    · cases h
    · simp only [Nx.tok.injEq] at h
      rw [← h.1]
      simp only
      rw [ByteArray.size_extract]
      omega
  · split at h
    · split at h
      · rename_i n e' hq
        simp only [Nx.tok.injEq] at h
        rw [← h.1]
        have q := quoGo_small _ _ _ _ _ _ hq
        rw [size_e] at q
        show n.size ≤ s.size
        omega
      · cases h
    · split at h
      · split at h
        · simp only [Nx.tok.injEq] at h
          rw [← h.1]
          exact Nat.zero_le _
        · cases h
      · split at h
        · simp only [Nx.tok.injEq] at h
          rw [← h.1]
          exact Nat.zero_le _
        · cases h
theorem toksGo_small (s : ByteArray) : ∀ f k, ∀ t ∈ (toksGo s f k).1, t.txt.size ≤ s.size := by
  intro f
  induction f with
  | zero => intro k; simp [toksGo]
  | succ f ih =>
    intro k
    rw [toksGo]
    split
    · split
      · exact ih _
      · split
        · exact ih _
        · split
          · rename_i t e ht
            intro u hu
            rcases List.mem_cons.1 hu with rfl | hu
            · exact tokAt_small ht
            · exact ih _ u hu
          · simp
    · intro t ht
      simp at ht
      rw [ht]
      exact Nat.zero_le _
/-- More of how the two lists of tokens lie. -/
structure TLx (L T : List Tk) : Prop where
  small : ∀ i, (tkA T i).txt.size ≤ 1000000
  low : ∀ i, i < L.length → (tkA T i).kind ≠ 63 ∧ i < T.length
  rest : ∀ i, ¬ i < L.length → (tkA T i).kind = 63
theorem tlx_toks (s : ByteArray) (hs : s.size ≤ 1000000) : TLx (toksGo s (s.size + 1) 0).1 (tokT (toksGo s (s.size + 1) 0)) := by
  obtain ⟨_, _, _, k4⟩ := toksGo_kinds s (s.size + 1) 0
  have hsm := toksGo_small s (s.size + 1) 0
  generalize toksGo s (s.size + 1) 0 = r at *
  obtain ⟨L, b⟩ := r
  simp only at k4 hsm
  have key : ∀ i, (i < L.length ∧ tkA (tokT (L, b)) i ∈ L ∧ i < (tokT (L, b)).length) ∨ (¬ i < L.length ∧ (tkA (tokT (L, b)) i).kind = 63 ∧ (tkA (tokT (L, b)) i).txt = ⟨#[]⟩) := by
    intro i
    by_cases h : i < L.length
    · refine Or.inl ⟨h, ?_, by simp [tokT]; omega⟩
      have : tkA (tokT (L, b)) i = L[i] := by simp [tkA, tokT, List.getElem?_append_left h, h]
      rw [this]
      exact List.getElem_mem _
    · refine Or.inr ⟨h, ?_⟩
      cases b with
      | none =>
        have : tkA (tokT (L, none)) i = tk0 := by simp only [tkA, tokT, List.append_nil]; rw [List.getD_eq_getElem?_getD, List.getElem?_eq_none (by omega)]; rfl
        rw [this]; exact ⟨rfl, rfl⟩
      | some p =>
        by_cases he : i = L.length
        · subst he
          have : tkA (tokT (L, some p)) L.length = ⟨63, ⟨#[]⟩, p⟩ := by simp [tkA, tokT]
          rw [this]; exact ⟨rfl, rfl⟩
        · have : tkA (tokT (L, some p)) i = tk0 := by simp only [tkA, tokT]; rw [List.getD_eq_getElem?_getD, List.getElem?_eq_none (by simp; omega)]; rfl
          rw [this]; exact ⟨rfl, rfl⟩
  refine ⟨fun i => ?_, fun i hi => ?_, fun i hi => ?_⟩
  · rcases key i with ⟨_, h, _⟩ | ⟨_, _, h⟩
    · have := hsm _ h; omega
    · rw [h, size_e]; omega
  · rcases key i with ⟨_, h, h'⟩ | ⟨h, _⟩
    · exact ⟨k4 _ h, h'⟩
    · exact absurd hi h
  · rcases key i with ⟨h, _⟩ | ⟨_, h, _⟩
    · exact absurd h hi
    · exact h
/-- Names are short. -/
def ShortN (l : List Nd) : Prop := ∀ x ∈ l, x.1.size ≤ 1000000
theorem shortN_snoc {l : List Nd} {x : Nd} (h : ShortN l) (hx : x.1.size ≤ 1000000) : ShortN (l ++ [x]) := by
  intro y hy
  rcases List.mem_append.1 hy with hy | hy
  · exact h y hy
  · simp at hy; subst hy; exact hx
theorem shortN_set {l : List Nd} (h : ShortN l) (k n : Nat) : ShortN (setN l k n) := by
  intro y hy
  unfold setN at hy
  rw [List.mem_iff_getElem?] at hy
  obtain ⟨j, hj⟩ := hy
  rw [List.getElem?_modify] at hj
  cases hq : l[j]? with
  | none => rw [hq] at hj; simp at hj
  | some z =>
    rw [hq] at hj
    have hz := h z (List.mem_of_getElem? hq)
    simp at hj
    subst hj
    split <;> exact hz
theorem pTermG_short {L T : List Tk} (hx : TLx L T) : ∀ f, (∀ atom st l st' l', pTermG T f atom st l = .ok (st', l') → ShortN l → ShortN l') ∧ (∀ st l n st' l' n', pPartsG T f st l n = .ok (st', l', n') → ShortN l → ShortN l') := by
  intro f
  induction f with
  | zero => exact ⟨fun atom st l st' l' h => by simp [pTermG] at h, fun st l n st' l' n' h => by simp [pPartsG] at h⟩
  | succ f ih =>
    obtain ⟨ih1, ih2⟩ := ih
    constructor
    · intro atom st l st' l' h hl
      rw [pTermG] at h
      split at h
      · simp only [Except.ok.injEq, Prod.mk.injEq] at h
        obtain ⟨rfl, rfl⟩ := h
        exact shortN_snoc hl (by rw [size_e]; omega)
      · split at h
        · simp at h
        · have hl1 := shortN_snoc (x := ((tkA T st.i).txt, 0)) hl (hx.small _)
          split at h
          · split at h
            · simp at h
            · rename_i st1 l1 n1 hq
              simp only [Except.ok.injEq, Prod.mk.injEq] at h
              obtain ⟨rfl, rfl⟩ := h
              exact shortN_set (ih2 _ _ _ _ _ _ hq hl1) _ _
          · simp only [Except.ok.injEq, Prod.mk.injEq] at h
            obtain ⟨rfl, rfl⟩ := h
            exact hl1
    · intro st l n st' l' n' h hl
      rw [pPartsG] at h
      split at h
      · simp at h
      · rename_i st1 l1 hp
        have q := ih1 _ _ _ _ _ hp hl
        split at h
        · exact ih2 _ _ _ _ _ _ h q
        · split at h
          · simp only [Except.ok.injEq, Prod.mk.injEq] at h
            obtain ⟨rfl, rfl, rfl⟩ := h
            exact q
          · simp at h

end Go.Proofs.Ytcpdadppblbndaa

namespace Go.Proofs.Ytcpdadppblbndaa
open Go.RowKit
set_option maxRecDepth 100000

theorem KeptP.mono {B B1 B2 : Nat} {w w' : World} (h : KeptP B B2 w w') (hB : B1 ≤ B2) : KeptP B B1 w w' :=
  ⟨h.os, h.tape, h.output, h.size, fun k hk hc => h.block k hk (hc.imp id fun hc cs T fr he => by
    obtain ⟨h1, h2, h3, h4⟩ := hc cs T fr he
    exact ⟨h1, h2, h3, fun e => Nat.lt_of_lt_of_le (h4 e) hB⟩)⟩
/-- A row that stays. -/
theorem KeptP.own {B B' B0 : Nat} {w w' : World} {e : TypeId} {size : Nat} {v : Value} {n : Nat} {xs : List Value} (h : KeptP B B' w w') (ho : w.ownsRow B0 e size v n xs) (he : e ≠ 90 ∧ e ≠ 9 ∧ e ≠ 56) (hn : e = 46 → w.heap.size ≤ B') : w'.ownsRow B0 e size v n xs := by
  obtain ⟨h1, ⟨rfl, h2⟩ | ⟨g, cap, cur, rfl, hb, hh, hc, hm, hz, ht⟩⟩ := ho
  · exact ⟨h1, Or.inl ⟨rfl, h2⟩⟩
  · have hlt := (Array.getElem?_eq_some_iff.1 hh).1
    refine ⟨h1, Or.inr ⟨g, cap, cur, rfl, hb, ?_, hc, hm, hz, ht⟩⟩
    rw [h.block g hlt (Or.inr fun cs T fr hx => ?_)]
    · exact hh
    · rw [hh] at hx
      simp at hx
      obtain ⟨_, rfl, _⟩ := hx
      exact ⟨he.1, he.2.1, he.2.2, fun e' => by have := hn e'; omega⟩
/-- A new row is written. -/
theorem KeptP.fresh {B B' B0 : Nat} {a w w' : World} {e : TypeId} {size : Nat} {v : Value} {n : Nat} {xs : List Value} (h : KeptP B B' a w) (ho : w.ownsRow B0 e size v n xs) (hB : a.heap.size ≤ B0) (hg : w.grownBy w' v.ownBlock) : KeptP B B' a w' :=
  ⟨hg.os.trans h.os, hg.tape.trans h.tape, hg.output.trans h.output, Nat.le_trans h.size hg.size, fun k hk hc => by
    rw [hg.block k (Nat.lt_of_lt_of_le hk h.size) (fun e => by have := (own_lt ho k e.symm).1; omega), h.block k hk hc]⟩
/-- A clause in memory: its literals, each with its atom, and the slice of them. -/
def ClR (w : World) (B : Nat) (p : List (Lt × Value) × Value) : Prop := w.ownsRow B 49 2 p.2 p.1.length (litCells p.1) ∧ ∀ q ∈ p.1, w.ownsRow B 46 2 q.2 q.1.2.length (nodeCells q.1.2)
/-- The clauses so far, and where they begin. -/
structure DRest (B : Nat) (w : World) (vC vB : Value) (CV : List (List (Lt × Value) × Value)) (bg : List Nat) : Prop where
  cl : w.ownsRow B 42 1 vC CV.length (CV.map Prod.snd)
  each : ∀ p ∈ CV, ClR w B p
  begins : w.ownsRow B 3 1 vB bg.length (bg.map fun k : Nat => Value.int .i64 (k : Int))
section
variable {B : Nat} {w w' : World} {vC vB : Value} {CV : List (List (Lt × Value) × Value)} {bg : List Nat}
theorem DRest.keptP {B' : Nat} (h : DRest B w vC vB CV bg) (k : KeptP B B' w w') (hB : w.heap.size ≤ B') : DRest B w' vC vB CV bg :=
  ⟨k.own h.cl (by decide) (by intro e; exact absurd e (by decide)), fun p hp => ⟨k.own (h.each p hp).1 (by decide) (by intro e; exact absurd e (by decide)), fun q hq => k.own ((h.each p hp).2 q hq) (by decide) (fun _ => hB)⟩, k.own h.begins (by decide) (by intro e; exact absurd e (by decide))⟩
theorem DRest.below (h : DRest B w vC vB CV bg) (k : Below w.heap.size w w') : DRest B w' vC vB CV bg := h.keptP (.of_below k) (Nat.le_refl _)
/-- A beginning more. -/
theorem DRest.begin {v : Value} {x : Nat} (h : DRest B w vC vB CV bg) (ho : w'.ownsRow B 3 1 v (bg.length + 1) ((bg.map fun k : Nat => Value.int .i64 (k : Int)) ++ [.int .i64 x])) (hg : w.grownBy w' vB.ownBlock) : DRest B w' vC v CV (bg ++ [x]) :=
  ⟨h.cl.kept hg (own_apart h.cl h.begins (by decide)), fun p hp => ⟨(h.each p hp).1.kept hg (own_apart (h.each p hp).1 h.begins (by decide)), fun q hq => ((h.each p hp).2 q hq).kept hg (own_apart ((h.each p hp).2 q hq) h.begins (by decide))⟩, by rw [List.map_append, List.length_append]; exact ho⟩
/-- A clause more. -/
theorem DRest.more {v : Value} {p : List (Lt × Value) × Value} (h : DRest B w vC vB CV bg) (hp : ClR w B p) (ho : w'.ownsRow B 42 1 v (CV.length + 1) (CV.map Prod.snd ++ [p.2])) (hg : w.grownBy w' vC.ownBlock) : DRest B w' v vB (CV ++ [p]) bg := by
  have key : ∀ q, ClR w B q → ClR w' B q := fun q hq => ⟨hq.1.kept hg (own_apart hq.1 h.cl (by decide)), fun r hr => (hq.2 r hr).kept hg (own_apart (hq.2 r hr) h.cl (by decide))⟩
  refine ⟨by rw [List.map_append, List.length_append]; exact ho, fun q hq => ?_, h.begins.kept hg (own_apart h.begins h.cl (by decide))⟩
  rcases List.mem_append.1 hq with hq | hq
  · exact key q (h.each q hq)
  · simp at hq
    subst hq
    exact key q hp
end
/-- The box alone is written: a row of another type stays. -/
theorem PBox.apart {w : World} {pa i : Nat} {bad : Int} {vL vP vC vB vV : Value} (h : PBox w pa vL i bad vP vC vB vV) {B : Nat} {e : TypeId} {size : Nat} {v : Value} {n : Nat} {xs : List Value} (ho : w.ownsRow B e size v n xs) (he : e ≠ 56) : v.ownBlock = none ∨ v.ownBlock ≠ some pa := by
  obtain ⟨_, ⟨rfl, _⟩ | ⟨g, cap, cur, rfl, _, hh, _⟩⟩ := ho
  · exact Or.inl rfl
  · right
    intro hx
    simp [Value.ownBlock] at hx
    subst hx
    unfold PBox at h
    rw [hh] at h
    simp at h
    exact he h.2
/-- Another row is written: the box stays. -/
theorem PBox.far {w w' : World} {pa i : Nat} {bad : Int} {vL vP vC vB vV : Value} (h : PBox w pa vL i bad vP vC vB vV) {B : Nat} {e : TypeId} {size : Nat} {v : Value} {n : Nat} {xs : List Value} (ho : w.ownsRow B e size v n xs) (he : e ≠ 56) (hg : w.grownBy w' v.ownBlock) : PBox w' pa vL i bad vP vC vB vV := by
  have hlt := h.lt
  have ha := h.apart ho he
  unfold PBox at h ⊢
  rw [hg.block pa hlt ?_]
  · exact h
  · intro e'
    rcases ha with ha | ha
    · rw [ha] at e'; simp at e'
    · exact ha e'.symm
/-- While the literals of a clause are read. -/
structure CLoop (B pa : Nat) (w0 : World) (L : List Tk) (vL vC vB : Value) (wr : World) (st : PSt) (bad : Int) (vP vV vc : Value) (P : List (Lt × Value)) : Prop where
  pin : PIn B wr pa L st bad vL vP vC vB vV
  kept : KeptP B w0.heap.size w0 wr
  row : wr.ownsRow w0.heap.size 49 2 vc P.length (litCells P)
  atoms : ∀ q ∈ P, wr.ownsRow w0.heap.size 46 2 q.2 q.1.2.length (nodeCells q.1.2)
section
variable {B pa : Nat} {w0 wr w' : World} {L : List Tk} {vL vC vB vP vV vc : Value} {st : PSt} {bad : Int} {P : List (Lt × Value)}
theorem CLoop.below (h : CLoop B pa w0 L vL vC vB wr st bad vP vV vc P) (k : Below wr.heap.size wr w') : CLoop B pa w0 L vL vC vB w' st bad vP vV vc P :=
  ⟨h.pin.below k, h.kept.trans (.of_below k), own_below h.row k (Nat.le_refl _), fun q hq => own_below (h.atoms q hq) k (Nat.le_refl _)⟩
theorem CLoop.setI (h : CLoop B pa w0 L vL vC vB wr st bad vP vV vc P) : CLoop B pa w0 L vL vC vB (wr.setCell ⟨pa, 1, none⟩ (.int .i64 ((st.i : Int) + 1))) ⟨st.i + 1, st.vars, st.places⟩ bad vP vV vc P :=
  ⟨h.pin.setI (st.i + 1), h.kept.grownBox h.pin.box h.pin.high (grown_setCell _ _ _), h.pin.box.row h.row (by decide) _ _, fun q hq => h.pin.box.row (h.atoms q hq) (by decide) _ _⟩
theorem CLoop.wrong {bad' : Int} (h : CLoop B pa w0 L vL vC vB wr st bad vP vV vc P) (hb : PBox w' pa vL st.i bad' vP vC vB vV) (hg : wr.grownBy w' (some pa)) : CLoop B pa w0 L vL vC vB w' st bad' vP vV vc P :=
  ⟨h.pin.grownBox hg hb, h.kept.grownBox h.pin.box h.pin.high hg, h.row.kept hg (h.pin.box.apart h.row (by decide)), fun q hq => (h.atoms q hq).kept hg (h.pin.box.apart (h.atoms q hq) (by decide))⟩
/-- An atom is read. -/
theorem CLoop.atom {st' : PSt} {bad' : Int} {vP' vV' vl : Value} {l : List Nd} (h : CLoop B pa w0 L vL vC vB wr st bad vP vV vc P) (hP : PIn B w' pa L st' bad' vL vP' vC vB vV') (hk : KeptP B wr.heap.size wr w') (hl : w'.ownsRow wr.heap.size 46 2 vl l.length (nodeCells l)) :
    CLoop B pa w0 L vL vC vB w' st' bad' vP' vV' vc P ∧ w'.ownsRow w0.heap.size 46 2 vl l.length (nodeCells l) :=
  ⟨⟨hP, h.kept.trans (hk.mono h.kept.size), hk.own h.row (by decide) (by intro e; exact absurd e (by decide)), fun q hq => hk.own (h.atoms q hq) (by decide) (fun _ => Nat.le_refl _)⟩, own_mono hl h.kept.size⟩
/-- A literal is put behind. -/
theorem CLoop.lit {vl vc' : Value} {x : Lt} (h : CLoop B pa w0 L vL vC vB wr st bad vP vV vc P) (hl : wr.ownsRow w0.heap.size 46 2 vl x.2.length (nodeCells x.2)) (ho : w'.ownsRow w0.heap.size 49 2 vc' (P.length + 1) (litCells P ++ [.bool x.1, vl])) (hg : wr.grownBy w' vc.ownBlock) :
    CLoop B pa w0 L vL vC vB w' st bad vP vV vc' (P ++ [(x, vl)]) := by
  refine ⟨h.pin.far h.row (by decide) hg, h.kept.fresh h.row (Nat.le_refl _) hg, by rw [litCells_snoc, List.length_append]; exact ho, fun q hq => ?_⟩
  rcases List.mem_append.1 hq with hq | hq
  · exact (h.atoms q hq).kept hg (own_apart (h.atoms q hq) h.row (by decide))
  · simp at hq
    subst hq
    exact hl.kept hg (own_apart hl h.row (by decide))
end
/-- Literals whose names are short, read. -/
theorem lits_in {w : World} {B : Nat} {v : Value} {P : List (Lt × Value)} (h : w.ownsRow B 49 2 v P.length (litCells P)) (ha : ∀ q ∈ P, w.ownsRow B 46 2 q.2 q.1.2.length (nodeCells q.1.2)) (hs : ∀ q ∈ P, ShortN q.1.2) (hc : countL (P.map Prod.fst) ≤ 1000000) (hn : P.length ≤ 2000000) :
    ∃ a cap, v = .slice a P.length cap ∧ LitsIn w a (P.map Prod.fst) := by
  obtain ⟨a, cap, rfl, hk⟩ := own_lits h
  refine ⟨a, cap, rfl, ⟨by simp; omega, fun k hkl => ?_⟩⟩
  have hkl' : k < P.length := by simpa using hkl
  obtain ⟨g, rfl, h1, h2⟩ := hk k hkl'
  have hm : P[k] ∈ P := List.getElem_mem _
  have hcm := countL_mem (P.map Prod.fst) P[k].1 (List.mem_map.2 ⟨_, hm, rfl⟩)
  obtain ⟨aa, ac, hv, hN⟩ := own_nodes (ha _ hm) (by omega) (fun j hj => by have := hs _ hm _ (List.getElem_mem hj); omega)
  refine ⟨g, 0, aa, ac, rfl, ?_, ?_, ?_⟩
  · simpa using h1
  · rw [Nat.zero_add, h2, hv]; simp
  · simpa using hN

/-- The variables of a clause begin anew. -/
theorem vars_in {B pa : Nat} {w : World} {L : List Tk} {st : PSt} {bad : Int} {vL vP vC vB vV : Value} {CV : List (List (Lt × Value) × Value)} {bg : List Nat} (hP : PIn B w pa L st bad vL vP vC vB vV) (hD : DRest B w vC vB CV bg) :
    PIn B (w.setCell ⟨pa, 6, none⟩ (.slice none 0 0)) pa L ⟨st.i, [], st.places⟩ bad vL vP vC vB (.slice none 0 0) ∧ DRest B (w.setCell ⟨pa, 6, none⟩ (.slice none 0 0)) vC vB CV bg ∧ Below B w (w.setCell ⟨pa, 6, none⟩ (.slice none 0 0)) ∧ (w.setCell ⟨pa, 6, none⟩ (.slice none 0 0)).heap.size = w.heap.size :=
  ⟨⟨hP.high, hP.box.set6 _, hP.box.row hP.toks (by decide) _ _, hP.box.row hP.places (by decide) _ _, World.ownsRow_nil _ _ _ _⟩,
    ⟨hP.box.row hD.cl (by decide) _ _, fun p hp => ⟨hP.box.row (hD.each p hp).1 (by decide) _ _, fun q hq => hP.box.row ((hD.each p hp).2 q hq) (by decide) _ _⟩, hP.box.row hD.begins (by decide) _ _⟩,
    below_set (Below.refl _ _) hP.high _, by simp [World.setCell]⟩
/-- A clause more is put behind. -/
theorem clause_in {B pa : Nat} {w w2 : World} {L : List Tk} {st : PSt} {bad : Int} {vL vP vC vB vV v : Value} {CV : List (List (Lt × Value) × Value)} {bg : List Nat} {p : List (Lt × Value) × Value} {X : Obj} (hP : PIn B w pa L st bad vL vP vC vB vV) (hD : DRest B w vC vB CV bg) (hp : ClR w B p) (hB : B ≤ w.heap.size)
    (ho : w2.ownsRow B 42 1 v (CV.length + 1) (CV.map Prod.snd ++ [p.2])) (hg : (w.alloc X).grownBy w2 vC.ownBlock) :
    w2.frozen? ⟨pa, 4, none⟩ = false ∧ w2.cell? ⟨pa, 4, none⟩ = some vC ∧ PIn B (w2.setCell ⟨pa, 4, none⟩ v) pa L st bad vL vP v vB vV ∧ DRest B (w2.setCell ⟨pa, 4, none⟩ v) v vB (CV ++ [p]) bg ∧ Below B w (w2.setCell ⟨pa, 4, none⟩ v) ∧ w.heap.size ≤ (w2.setCell ⟨pa, 4, none⟩ v).heap.size := by
  have hX := (Below.refl w.heap.size w).alloc (Nat.le_refl _) X
  have hP1 := hP.below hX
  have hD1 := hD.below hX
  have hp1 : ClR (w.alloc X) B p := ⟨own_below hp.1 hX (Nat.le_refl _), fun q hq => own_below (hp.2 q hq) hX (Nat.le_refl _)⟩
  have hb2 := hP1.box.far hD1.cl (by decide) hg
  have hD2 := hD1.more hp1 ho hg
  have hs := hg.size
  refine ⟨hb2.soft 4, hb2.c4, ⟨hP.high, hb2.set4 v, ?_, ?_, ?_⟩, ?_, ?_, ?_⟩
  · exact hb2.row (hP1.toks.kept hg (own_apart hP1.toks hD1.cl (by decide))) (by decide) _ _
  · exact hb2.row (hP1.places.kept hg (own_apart hP1.places hD1.cl (by decide))) (by decide) _ _
  · exact hb2.row (hP1.vars.kept hg (own_apart hP1.vars hD1.cl (by decide))) (by decide) _ _
  · exact ⟨hb2.row hD2.cl (by decide) _ _, fun p hp => ⟨hb2.row (hD2.each p hp).1 (by decide) _ _, fun q hq => hb2.row ((hD2.each p hp).2 q hq) (by decide) _ _⟩, hb2.row hD2.begins (by decide) _ _⟩
  · refine below_set ((hX.mono hB).grown hg ?_ ?_) hP.high _
    · simp; omega
    · exact fun k e => (own_lt hD1.cl k e).1
  · simp [World.setCell] at hs ⊢
    omega
theorem infoLits : (Try.prog.info? 42).map (fun i => (i.zero, i.size, i.bytes)) = some (some (.slice none 0 0), 1, 24) := by kernel_rfl

end Go.Proofs.Ytcpdadppblbndaa
