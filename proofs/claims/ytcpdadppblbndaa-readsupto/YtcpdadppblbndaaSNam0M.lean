/- Pure: the number of a name's parts, written into the rows; the tokens and the broken one behind. The document's parser: a term that begins with a name. The document's parser: behind a name's parts their number is written; pure: a term ends ahead of a token. -/
import Derived.Test.YtcpdadppblbndaaSMemM
namespace Go.Proofs.Ytcpdadppblbndaa
open Go.RowKit
set_option maxRecDepth 100000

theorem nodeCells_cons (x : Nd) (r : List Nd) : nodeCells (x :: r) = .string x.1 :: .int .i64 x.2 :: nodeCells r := rfl
theorem placeCells_cons (x : Pl) (r : List Pl) : placeCells (x :: r) = .string x.1 :: .bool x.2.1 :: .int .i64 x.2.2.1 :: .int .i64 x.2.2.2 :: placeCells r := rfl
theorem nodeCells_setN (l : List Nd) : ∀ (k n : Nat), (nodeCells l).set (k * 2 + 1) (.int .i64 n) = nodeCells (setN l k n) := by
  induction l with
  | nil => intro k n; simp [nodeCells, setN]
  | cons x r ih =>
    intro k n
    cases k with
    | zero => rfl
    | succ k =>
      have := ih k n
      rw [show (k + 1) * 2 + 1 = k * 2 + 1 + 1 + 1 by omega, nodeCells_cons, List.set_cons_succ, List.set_cons_succ, this]
      rfl
theorem placeCells_setParts (l : List Pl) : ∀ (k n : Nat), (placeCells l).set (k * 4 + 2) (.int .i64 n) = placeCells (setParts l k n) := by
  induction l with
  | nil => intro k n; simp [placeCells, setParts]
  | cons x r ih =>
    intro k n
    cases k with
    | zero => rfl
    | succ k =>
      have := ih k n
      rw [show (k + 1) * 4 + 2 = k * 4 + 2 + 1 + 1 + 1 + 1 by omega, placeCells_cons, List.set_cons_succ, List.set_cons_succ, List.set_cons_succ, List.set_cons_succ, this]
      rfl
/-- The tokens of the document, and those with the broken one behind. -/
structure TL (L T : List Tk) (brk : Int) : Prop where
  kind : ∀ i, (tkA L i).kind = (tkA T i).kind
  txt : ∀ i, (tkA L i).txt = (tkA T i).txt
  pos : ∀ i, (tkA T i).kind ≠ 63 → (tkA L i).pos = (tkA T i).pos
  bad : ∀ i, i < T.length → badAt L brk i = (tkA T i).pos
  more : ∀ i, i < T.length → (tkA T i).kind ≠ 101 → (tkA T i).kind ≠ 63 → i + 1 < T.length
  few : T.length ≤ 1000002

/-- No token has the kind of the broken one or of the end, but for the last. -/
theorem tokAt_kind {s : ByteArray} {k e : Nat} {t : Tk} (h : tokAt s k = .tok t e) : t.kind ≠ 101 ∧ t.kind ≠ 63 := by
  unfold tokAt at h
  split at h
  · split at h
    · cases h
    · simp only [Nx.tok.injEq] at h
      rw [← h.1]
      simp only
      split <;> decide
  · split at h
    · split at h
      · simp only [Nx.tok.injEq] at h
        rw [← h.1]
        exact ⟨by simp, by simp⟩
      · cases h
    · split at h
      · split at h
        · simp only [Nx.tok.injEq] at h
          rw [← h.1]
          exact ⟨by simp, by simp⟩
        · cases h
      · split at h
        · rename_i hm
          simp only [Nx.tok.injEq] at h
          rw [← h.1]
          simp only
          unfold markN at hm
          simp at hm
          omega
        · cases h
/-- The tokens: the last alone is the end, and it is there if none is broken. -/
theorem toksGo_kinds (s : ByteArray) : ∀ f k, (∀ t ∈ (toksGo s f k).1.dropLast, t.kind ≠ 101 ∧ t.kind ≠ 63) ∧ ((toksGo s f k).2 = none → ∃ l t, (toksGo s f k).1 = l ++ [t] ∧ t.kind = 101) ∧ ((toksGo s f k).2 ≠ none → ∀ t ∈ (toksGo s f k).1, t.kind ≠ 101 ∧ t.kind ≠ 63) ∧ (∀ t ∈ (toksGo s f k).1, t.kind ≠ 63) := by
  intro f
  induction f with
  | zero => intro k; simp [toksGo]
  | succ f ih =>
    intro k
    rw [toksGo]
    split
    · split
      · exact ih _
      · split
        · exact ih _
        · split
          · rename_i t e ht
            have hk := tokAt_kind ht
            obtain ⟨i1, i2, i3, i4⟩ := ih e
            refine ⟨?_, ?_, ?_, ?_⟩
            · intro u hu
              simp only at hu
              cases hr : (toksGo s f e).1 with
              | nil => rw [hr] at hu; simp at hu
              | cons y r =>
                rw [hr] at hu i1
                rw [List.dropLast_cons_of_ne_nil (by simp)] at hu
                rcases List.mem_cons.1 hu with rfl | hu
                · exact hk
                · exact i1 u hu
            · intro hn
              obtain ⟨l, u, h1, h2⟩ := i2 hn
              exact ⟨t :: l, u, by simp only [h1, List.cons_append], h2⟩
            · intro hn u hu
              rcases List.mem_cons.1 hu with rfl | hu
              · exact hk
              · exact i3 hn u hu
            · intro u hu
              rcases List.mem_cons.1 hu with rfl | hu
              · exact hk.2
              · exact i4 u hu
          · simp
    · refine ⟨by simp, fun _ => ⟨[], _, rfl, rfl⟩, by simp, by simp⟩
theorem toksGo_length (s : ByteArray) : ∀ f k, (toksGo s f k).1.length ≤ f := by
  intro f
  induction f with
  | zero => intro k; simp [toksGo]
  | succ f ih =>
    intro k
    rw [toksGo]
    split
    · split
      · have := ih (k + 1); omega
      · split
        · have := ih (lineP s k); omega
        · split
          · rename_i t e ht
            have := ih e
            simp only [List.length_cons]
            omega
          · simp
    · simp
/-- So the two lists of tokens lie. -/
theorem tl_toks (s : ByteArray) (hs : s.size ≤ 1000000) : TL (toksGo s (s.size + 1) 0).1 (tokT (toksGo s (s.size + 1) 0)) (optI (toksGo s (s.size + 1) 0).2) := by
  obtain ⟨_, k2, k3, _⟩ := toksGo_kinds s (s.size + 1) 0
  have hlen := toksGo_length s (s.size + 1) 0
  generalize toksGo s (s.size + 1) 0 = r at *
  obtain ⟨L, b⟩ := r
  simp only at k2 k3 hlen
  cases b with
  | none =>
    have hT : tokT (L, none) = L := by simp [tokT]
    rw [hT]
    refine ⟨fun _ => rfl, fun _ => rfl, fun _ _ => rfl, fun i hi => by simp [badAt, tkA, hi], fun i hi h1 _ => ?_, by omega⟩
    obtain ⟨l, t, rfl, ht⟩ := k2 rfl
    by_cases he : i = l.length
    · subst he
      exact absurd (by simpa [tkA] using ht) h1
    · simp at hi ⊢
      omega
  | some p =>
    have hT : tokT (L, some p) = L ++ [⟨63, ⟨#[]⟩, p⟩] := by simp [tokT]
    rw [hT]
    have key : ∀ i, (i < L.length ∧ tkA (L ++ [⟨63, ⟨#[]⟩, p⟩]) i = tkA L i) ∨ (i = L.length ∧ tkA (L ++ [⟨63, ⟨#[]⟩, p⟩]) i = ⟨63, ⟨#[]⟩, p⟩ ∧ tkA L i = tk0) ∨ (L.length < i ∧ tkA (L ++ [⟨63, ⟨#[]⟩, p⟩]) i = tk0 ∧ tkA L i = tk0) := by
      intro i
      rcases Nat.lt_trichotomy i L.length with h | h | h
      · exact Or.inl ⟨h, by simp [tkA, List.getElem?_append_left h]⟩
      · subst h
        exact Or.inr (Or.inl ⟨rfl, by simp [tkA], by simp [tkA]⟩)
      · refine Or.inr (Or.inr ⟨h, ?_, ?_⟩)
        · unfold tkA
          rw [List.getD_eq_getElem?_getD, List.getElem?_eq_none (by simp; omega)]; rfl
        · unfold tkA
          rw [List.getD_eq_getElem?_getD, List.getElem?_eq_none (by omega)]; rfl
    refine ⟨fun i => ?_, fun i => ?_, fun i hi => ?_, fun i hi => ?_, fun i hi h1 h2 => ?_, by simp; omega⟩
    · rcases key i with ⟨_, h⟩ | ⟨_, h, h'⟩ | ⟨_, h, h'⟩
      · rw [h]
      · rw [h, h']; rfl
      · rw [h, h']
    · rcases key i with ⟨_, h⟩ | ⟨_, h, h'⟩ | ⟨_, h, h'⟩
      · rw [h]
      · rw [h, h']; rfl
      · rw [h, h']
    · rcases key i with ⟨_, h⟩ | ⟨_, h, h'⟩ | ⟨_, h, h'⟩
      · rw [h]
      · rw [h] at hi; exact absurd rfl hi
      · rw [h, h']
    · rcases key i with ⟨hl, h⟩ | ⟨hl, h, h'⟩ | ⟨hl, h, h'⟩
      · rw [h]; simp [badAt, tkA, hl]
      · rw [h]; simp [badAt, hl, optI]
      · simp at hi; omega
    · rcases key i with ⟨hl, h⟩ | ⟨hl, h, h'⟩ | ⟨hl, h, h'⟩
      · simp; omega
      · rw [h] at h2; exact absurd rfl h2
      · simp at hi; omega

end Go.Proofs.Ytcpdadppblbndaa

namespace Go.Proofs.Ytcpdadppblbndaa
open Go.RowKit
set_option maxRecDepth 100000

/-- What term answers. -/
def TermR (B B' pa : Nat) (w : World) (L T : List Tk) (f : Nat) (st : PSt) (l : List Nd) (vL vC vB : Value) (r : Except Nat (PSt × List Nd)) (e : Ending) (w' : World) : Prop :=
  ∃ vl' vP' vV' st' bad' l', e = .returned vl' ∧ PIn B w' pa L st' bad' vL vP' vC vB vV' ∧ w'.ownsRow B' 46 2 vl' l'.length (nodeCells l') ∧ KeptP B B' w w' ∧
    (st.i ≤ st'.i ∧ st'.i ≤ T.length + f ∧ l.length ≤ l'.length ∧ l'.length ≤ l.length + (st'.i - st.i) ∧ st.places.length ≤ st'.places.length ∧ st'.places.length ≤ st.places.length + (st'.i - st.i) ∧ st.vars.length ≤ st'.vars.length ∧ st'.vars.length ≤ st.vars.length + (st'.i - st.i)) ∧
    match r with
    | .ok (s1, l1) => bad' = -1 ∧ st' = s1 ∧ l' = l1
    | .error p => bad' = (p : Int)
/-- The contract of term at a fuel. -/
def TermC (B pa : Nat) (brk : Int) (L T : List Tk) (vL vC vB : Value) (f : Nat) : Prop :=
  ∀ (B' : Nat) (atom : Bool) (st : PSt) (vP vV vl : Value) (l : List Nd) (w : World), PIn B w pa L st (-1) vL vP vC vB vV → w.ownsRow B' 46 2 vl l.length (nodeCells l) → B ≤ B' → B' ≤ w.heap.size → st.i < T.length → T.length < st.i + f → f ≤ 2000000 →
    l.length ≤ st.i → st.places.length ≤ st.i → st.vars.length ≤ st.i →
    Calls Try.prog 31 #[.pointer (some ⟨pa, 0, none⟩), vl, .bool atom, .int .i64 brk] w fun e w' => TermR B B' pa w L T f st l vL vC vB (pTermG T f atom st l) e w'

/-- At a token that begins no term, or a variable. -/
theorem termC_other {B pa : Nat} {brk : Int} {L T : List Tk} {vL vC vB : Value} {f : Nat} (ht : TL L T brk) (B' : Nat) (atom : Bool) (st : PSt) (vP vV vl : Value) (l : List Nd) (w : World) (h : PIn B w pa L st (-1) vL vP vC vB vV) (hl : w.ownsRow B' 46 2 vl l.length (nodeCells l)) (hBB : B ≤ B') (hBw : B' ≤ w.heap.size)
    (hi : st.i < T.length) (hl1 : l.length ≤ st.i) (hv1 : st.vars.length ≤ st.i) (hk : (tkA T st.i).kind ≠ 110) :
    Calls Try.prog 31 #[.pointer (some ⟨pa, 0, none⟩), vl, .bool atom, .int .i64 brk] w fun e w' => TermR B B' pa w L T (f + 1) st l vL vC vB (pTermG T (f + 1) atom st l) e w' := by
  have hfew := ht.few
  by_cases hv : (tkA T st.i).kind = 118 ∧ atom = false
  · obtain ⟨h118, rfl⟩ := hv
    have c := rpterm_var B B' pa brk st vL vP vC vB vV vl L l w h hl hBB hBw (by rw [ht.kind]; exact h118) (by omega) (by omega) (by omega)
    refine c.mono ?_
    rintro e w' ⟨vl', vV', rfl, hp, ho, hkp⟩
    rw [pTermG, if_pos ⟨h118, rfl⟩]
    rw [ht.txt] at hp ho
    refine ⟨vl', vP, vV', _, -1, _, rfl, hp, by simpa using ho, hkp, ?_, rfl, rfl, rfl⟩
    simp only [addV, List.length_append, List.length_singleton]
    split <;> simp <;> omega
  · have c := rpterm_bad B B' pa brk atom st vL vP vC vB vV vl L l w h hl (by rw [ht.kind]; exact hk) (by rw [ht.kind]; rcases atom with _ | _; exact Or.inl (fun h => hv ⟨h, rfl⟩); exact Or.inr rfl)
    refine c.mono ?_
    rintro e w' ⟨rfl, hp, ho, hkp⟩
    rw [pTermG, if_neg hv, if_pos hk]
    exact ⟨vl, vP, vV, st, _, l, rfl, hp, ho, hkp, by omega, ht.bad st.i hi⟩
/-- A place more, and all that stays. -/
theorem place_more {B B' pa : Nat} {w0 w w3 : World} {L : List Tk} {st : PSt} {bad : Int} {vL vP vC vB vV vl v3 : Value} {l : List Nd} {x : Pl} (h : PIn B w pa L st bad vL vP vC vB vV) (hl : w.ownsRow B' 46 2 vl l.length (nodeCells l)) (hk : KeptP B B' w0 w) (X : Obj)
    (ho : w3.ownsRow B 90 4 v3 (st.places.length + 1) (placeCells st.places ++ [.string x.1, .bool x.2.1, .int .i64 x.2.2.1, .int .i64 x.2.2.2])) (hg : (w.alloc X).grownBy w3 vP.ownBlock) :
    w3.cell? ⟨pa, 3, none⟩ = some vP ∧ w3.frozen? ⟨pa, 3, none⟩ = false ∧ w.heap.size < w3.heap.size ∧
      PIn B (w3.setCell ⟨pa, 3, none⟩ v3) pa L ⟨st.i, st.vars, st.places ++ [x]⟩ bad vL v3 vC vB vV ∧ (w3.setCell ⟨pa, 3, none⟩ v3).ownsRow B' 46 2 vl l.length (nodeCells l) ∧ KeptP B B' w0 (w3.setCell ⟨pa, 3, none⟩ v3) := by
  have hX := h.alloc X
  obtain ⟨hb3, hP3⟩ := PIn.moreP hX ho hg
  have hs := hg.size
  have hap : vl.ownBlock = none ∨ vl.ownBlock ≠ vP.ownBlock := own_apart (hl.alloc X) hX.places (by decide)
  have hl3 := (hl.alloc X).kept hg hap
  have hk3 := (hk.alloc X).grownRow hX.places (Nat.le_refl _) (Or.inl rfl) hg
  exact ⟨hb3.c3, hb3.soft 3, by simp at hs; omega, hP3, hb3.row hl3 (by decide) _ _, hk3.grownBox hb3 h.high (grown_setCell _ _ _)⟩

end Go.Proofs.Ytcpdadppblbndaa

namespace Go.Proofs.Ytcpdadppblbndaa
open Go.RowKit
set_option maxRecDepth 100000

theorem own_at {w : World} {B : Nat} {e : TypeId} {size : Nat} {v : Value} {n : Nat} {xs : List Value} (h : w.ownsRow B e size v n xs) (hn : 0 < n) : ∃ g c, v = .slice (some ⟨g, 0, none⟩) n c := by
  obtain ⟨_, ⟨rfl, h2⟩ | ⟨g, cap, cur, rfl, _⟩⟩ := h
  · omega
  · exact ⟨g, cap, rfl⟩
theorem placeCells_at (l : List Pl) : ∀ k (h : k < l.length), (placeCells l)[k * 4 + 2]? = some (.int .i64 l[k].2.2.1) := by
  induction l with
  | nil => intro k h; simp at h
  | cons x r ih =>
    intro k h
    cases k with
    | zero => rfl
    | succ k =>
      have := ih k (by simpa using h)
      rw [placeCells_cons, show (k + 1) * 4 + 2 = k * 4 + 2 + 1 + 1 + 1 + 1 by omega]
      simpa using this
/-- The number of the parts is written. -/
theorem name_end {B B' pa : Nat} {w0 w : World} {L : List Tk} {st : PSt} {bad : Int} {vL vP vC vB vV vl : Value} {l : List Nd} (h : PIn B w pa L st bad vL vP vC vB vV) (hl : w.ownsRow B' 46 2 vl l.length (nodeCells l)) (hBB : B ≤ B') (hk : KeptP B B' w0 w) (k p n : Nat) (hkl : k < l.length) (hpl : p < st.places.length) :
    ∃ g c q qc, vl = .slice (some ⟨g, 0, none⟩) l.length c ∧ vP = .slice (some ⟨q, 0, none⟩) st.places.length qc ∧
      w.cell? ⟨g, k * 2 + 1, none⟩ = some (.int .i64 l[k].2) ∧ w.frozen? ⟨g, k * 2 + 1, none⟩ = false ∧
      (w.setCell ⟨g, k * 2 + 1, none⟩ (.int .i64 n)).cell? ⟨pa, 3, none⟩ = some vP ∧
      (w.setCell ⟨g, k * 2 + 1, none⟩ (.int .i64 n)).cell? ⟨q, p * 4 + 2, none⟩ = some (.int .i64 st.places[p].2.2.1) ∧
      (w.setCell ⟨g, k * 2 + 1, none⟩ (.int .i64 n)).frozen? ⟨q, p * 4 + 2, none⟩ = false ∧
      PIn B ((w.setCell ⟨g, k * 2 + 1, none⟩ (.int .i64 n)).setCell ⟨q, p * 4 + 2, none⟩ (.int .i64 n)) pa L ⟨st.i, st.vars, setParts st.places p n⟩ bad vL vP vC vB vV ∧
      ((w.setCell ⟨g, k * 2 + 1, none⟩ (.int .i64 n)).setCell ⟨q, p * 4 + 2, none⟩ (.int .i64 n)).ownsRow B' 46 2 vl (setN l k n).length (nodeCells (setN l k n)) ∧
      KeptP B B' w0 ((w.setCell ⟨g, k * 2 + 1, none⟩ (.int .i64 n)).setCell ⟨q, p * 4 + 2, none⟩ (.int .i64 n)) := by
  obtain ⟨g, c, rfl⟩ := own_at hl (by omega)
  obtain ⟨q, qc, rfl⟩ := own_at h.places (by omega)
  refine ⟨g, c, q, qc, rfl, rfl, ?_⟩
  have hg1 : w.grownBy (w.setCell ⟨g, k * 2 + 1, none⟩ (.int .i64 n)) (some g) := grown_setCell _ _ _
  have h1 := h.far hl (by decide) hg1
  have hl1 := (hl.stored (k * 2 + 1) (.int .i64 n)).1
  rw [nodeCells_setN] at hl1
  have hlen1 : l.length = (setN l k n).length := by simp [setN]
  have hlen2 : st.places.length = (setParts st.places p n).length := by simp [setParts]
  have hk1 := hk.grownRow hl hBB (Or.inr (Or.inr ⟨rfl, Nat.le_refl _⟩)) hg1
  refine ⟨?_, hl.frozenAt _, h1.box.c3, ?_, h1.places.frozenAt _, ?_, ?_, ?_⟩
  · rw [hl.cellAt _ (by omega), (nodeCells_at l k hkl).2]
  · rw [h1.places.cellAt _ (by omega), placeCells_at _ _ hpl]
  · have hg2 : (w.setCell ⟨g, k * 2 + 1, none⟩ (.int .i64 n)).grownBy ((w.setCell ⟨g, k * 2 + 1, none⟩ (.int .i64 n)).setCell ⟨q, p * 4 + 2, none⟩ (.int .i64 n)) (some q) := grown_setCell _ _ _
    refine ⟨h1.high, ?_, h1.toks.kept hg2 (own_apart h1.toks h1.places (by decide)), ?_, h1.vars.kept hg2 (own_apart h1.vars h1.places (by decide))⟩
    · have hb := h1.box
      have hlt := hb.lt
      unfold PBox at hb ⊢
      rw [hg2.block pa hlt ?_]
      · exact hb
      · intro e'
        simp at e'
        subst e'
        obtain ⟨_, ⟨e, _⟩ | ⟨g', cap, cur, e, _, hh, _⟩⟩ := h1.places
        · simp at e
        · simp at e
          obtain ⟨rfl, _⟩ := e
          rw [hh] at hb
          simp at hb
    · have := (h1.places.stored (p * 4 + 2) (.int .i64 n)).1
      rw [placeCells_setParts] at this
      simpa [setParts] using this
  · have hg2 : (w.setCell ⟨g, k * 2 + 1, none⟩ (.int .i64 n)).grownBy ((w.setCell ⟨g, k * 2 + 1, none⟩ (.int .i64 n)).setCell ⟨q, p * 4 + 2, none⟩ (.int .i64 n)) (some q) := grown_setCell _ _ _
    have := hl1.kept hg2 (own_apart hl1 h1.places (by decide))
    simpa [setN] using this
  · have hg2 : (w.setCell ⟨g, k * 2 + 1, none⟩ (.int .i64 n)).grownBy ((w.setCell ⟨g, k * 2 + 1, none⟩ (.int .i64 n)).setCell ⟨q, p * 4 + 2, none⟩ (.int .i64 n)) (some q) := grown_setCell _ _ _
    exact hk1.grownRow h1.places (Nat.le_refl _) (Or.inl rfl) hg2

theorem setParts_last (l : List Pl) (s : ByteArray) (b : Bool) (z : Int) : setParts (l ++ [(s, b, 0, z)]) l.length 0 = l ++ [(s, b, 0, z)] := by
  unfold setParts
  induction l with
  | nil => rfl
  | cons x r ih => simpa using ih
theorem setN_last (l : List Nd) (s : ByteArray) : setN (l ++ [(s, 0)]) l.length 0 = l ++ [(s, 0)] := by
  unfold setN
  induction l with
  | nil => rfl
  | cons x r ih => simpa using ih

/-- Behind a term there is a token more. -/
theorem pTermG_in {L T : List Tk} {brk : Int} (ht : TL L T brk) : ∀ f, (∀ atom st l st' l', pTermG T f atom st l = .ok (st', l') → st.i < T.length → st'.i < T.length) ∧ (∀ st l n st' l' n', pPartsG T f st l n = .ok (st', l', n') → st.i + 1 < T.length → st'.i < T.length) := by
  intro f
  induction f with
  | zero => exact ⟨fun atom st l st' l' h => by simp [pTermG] at h, fun st l n st' l' n' h => by simp [pPartsG] at h⟩
  | succ f ih =>
    obtain ⟨ih1, ih2⟩ := ih
    constructor
    · intro atom st l st' l' h hi
      rw [pTermG] at h
      split at h
      · rename_i hc
        simp only [Except.ok.injEq, Prod.mk.injEq] at h
        obtain ⟨rfl, rfl⟩ := h
        exact ht.more _ hi (by rw [hc.1]; decide) (by rw [hc.1]; decide)
      · split at h
        · simp at h
        · rename_i hc
          have hc : (tkA T st.i).kind = 110 := by simpa using hc
          have h1 := ht.more _ hi (by rw [hc]; decide) (by rw [hc]; decide)
          split at h
          · rename_i hp
            split at h
            · simp at h
            · rename_i st1 l1 n1 hq
              simp only [Except.ok.injEq, Prod.mk.injEq] at h
              obtain ⟨rfl, rfl⟩ := h
              have h2 := ht.more _ h1 (by rw [hp]; decide) (by rw [hp]; decide)
              have h3 := ih2 _ _ _ _ _ _ hq h2
              exact h3
          · simp only [Except.ok.injEq, Prod.mk.injEq] at h
            obtain ⟨rfl, rfl⟩ := h
            exact h1
    · intro st l n st' l' n' h hi
      rw [pPartsG] at h
      split at h
      · simp at h
      · rename_i st1 l1 hp
        have q := ih1 _ _ _ _ _ hp hi
        split at h
        · rename_i hk
          have h2 := ht.more _ q (by rw [hk]; decide) (by rw [hk]; decide)
          exact ih2 _ _ _ _ _ _ h h2
        · split at h
          · rename_i hk
            simp only [Except.ok.injEq, Prod.mk.injEq] at h
            obtain ⟨rfl, rfl, rfl⟩ := h
            exact ht.more _ q (by rw [hk]; decide) (by rw [hk]; decide)
          · simp at h

/-- A post that says no to a panic. -/
def PCalm (Q : Exit → Act → World → Prop) : Exit → Act → World → Prop
  | .panic _, _, _ => False
  | e, a, w => Q e a w
theorem pcalm {c : Code} {Q : Exit → Act → World → Prop} {a : Act} {w : World} (h : c.wp Try.prog (PCalm Q) a w) : c.wp Try.prog Q a w :=
  Code.wp_mono (fun e a w h => by cases e <;> first | exact h | exact False.elim h) h
theorem unpcalm {Q : Exit → Act → World → Prop} {a : Act} {w : World} (h : Q .normal a w) : PCalm Q .normal a w := h
/-- What cannot stand there, and all that stays. -/
theorem rwrong_in {B B' pa : Nat} {brk : Int} {w0 w : World} {L : List Tk} {st : PSt} {vL vP vC vB vV vl : Value} {l : List Nd} (hP : PIn B w pa L st (-1) vL vP vC vB vV) (hR : w.ownsRow B' 46 2 vl l.length (nodeCells l)) (hK : KeptP B B' w0 w) :
    Calls Try.prog 16 #[.pointer (some ⟨pa, 0, none⟩), .int .i64 brk] w fun e w' => e = .returned (.tuple #[]) ∧ PIn B w' pa L st (badAt L brk st.i) vL vP vC vB vV ∧ w'.ownsRow B' 46 2 vl l.length (nodeCells l) ∧ KeptP B B' w0 w' := by
  refine (rwrong_any B pa st.i brk vL vP vC vB vV L w hP.box hP.toks).mono ?_
  rintro e w' ⟨rfl, hb, hg⟩
  refine ⟨rfl, hP.grownBox hg hb, hR.kept hg ?_, hK.grownBox hP.box hP.high hg⟩
  obtain ⟨_, ⟨rfl, _⟩ | ⟨g, cap, cur, rfl, _, hh, _⟩⟩ := hR
  · exact Or.inl rfl
  · right
    intro hx
    simp [Value.ownBlock] at hx
    subst hx
    have hbx := hP.box
    unfold PBox at hbx
    rw [hh] at hbx
    simp at hbx
/-- The parser goes on by a token. -/
theorem step_in {B B' pa : Nat} {w0 w : World} {L : List Tk} {st : PSt} {bad : Int} {vL vP vC vB vV vl : Value} {l : List Nd} (hP : PIn B w pa L st bad vL vP vC vB vV) (hl : w.ownsRow B' 46 2 vl l.length (nodeCells l)) (hk : KeptP B B' w0 w) :
    PIn B (w.setCell ⟨pa, 1, none⟩ (.int .i64 ((st.i : Int) + 1))) pa L ⟨st.i + 1, st.vars, st.places⟩ bad vL vP vC vB vV ∧ (w.setCell ⟨pa, 1, none⟩ (.int .i64 ((st.i : Int) + 1))).ownsRow B' 46 2 vl l.length (nodeCells l) ∧ KeptP B B' w0 (w.setCell ⟨pa, 1, none⟩ (.int .i64 ((st.i : Int) + 1))) :=
  ⟨hP.setI (st.i + 1), hP.box.row hl (by decide) _ _, hk.grownBox hP.box hP.high (grown_setCell _ _ _)⟩

/-- The parts so far: up to which of them the parser has come. -/
def NLoop (B B' pa : Nat) (w : World) (L T : List Tk) (vL vC vB : Value) (f : Nat) (s0 : PSt) (l0 : List Nd) (vl : Value) (n : Nat) (more : Bool) (wr : World) : Prop :=
  ∃ vP vV st bad l, PIn B wr pa L st bad vL vP vC vB vV ∧ wr.ownsRow B' 46 2 vl l.length (nodeCells l) ∧ KeptP B B' w wr ∧
    (s0.i ≤ st.i ∧ st.i ≤ T.length + f ∧ l0.length ≤ l.length ∧ l.length ≤ l0.length + (st.i - s0.i) ∧ s0.places.length ≤ st.places.length ∧ st.places.length ≤ s0.places.length + (st.i - s0.i) ∧ s0.vars.length ≤ st.vars.length ∧ st.vars.length ≤ s0.vars.length + (st.i - s0.i)) ∧ n ≤ T.length ∧
    ((bad = -1 ∧ st.i < T.length ∧ n + s0.i ≤ st.i ∧ (more = true → st.i + 1 < T.length) ∧ ∃ g, g ≤ f ∧ T.length < st.i + g ∧
        pPartsG T f s0 l0 0 = if more = true then pPartsG T g st l n else if (tkA T st.i).kind = 41 then .ok (⟨st.i + 1, st.vars, st.places⟩, l, n) else .error (tkA T st.i).pos) ∨
      ∃ p : Nat, bad = (p : Int) ∧ pPartsG T f s0 l0 0 = .error p)
theorem NLoop.next {B B' pa : Nat} {w wr w2 w3 : World} {L T : List Tk} {brk : Int} (ht : TL L T brk) {vL vC vB : Value} {f : Nat} {s0 : PSt} {l0 : List Nd} {st : PSt} {l : List Nd} {n : Nat} {g : Nat}
    (hbd : s0.i ≤ st.i ∧ st.i ≤ T.length + f ∧ l0.length ≤ l.length ∧ l.length ≤ l0.length + (st.i - s0.i) ∧ s0.places.length ≤ st.places.length ∧ st.places.length ≤ s0.places.length + (st.i - s0.i) ∧ s0.vars.length ≤ st.vars.length ∧ st.vars.length ≤ s0.vars.length + (st.i - s0.i))
    (hi : st.i + 1 < T.length) (hn : n + s0.i ≤ st.i) (hg : g + 1 ≤ f) (hT : T.length < st.i + (g + 1)) (he : pPartsG T f s0 l0 0 = pPartsG T (g + 1) st l n) (hk : KeptP B B' w wr)
    {vl' vP' vV' : Value} {st' : PSt} {bad' : Int} {l' : List Nd} (hP : PIn B w2 pa L st' bad' vL vP' vC vB vV') (hl : w2.ownsRow B' 46 2 vl' l'.length (nodeCells l')) (hk2 : KeptP B B' wr w2)
    (hb : st.i + 1 ≤ st'.i ∧ st'.i ≤ T.length + g ∧ l.length ≤ l'.length ∧ l'.length ≤ l.length + (st'.i - (st.i + 1)) ∧ st.places.length ≤ st'.places.length ∧ st'.places.length ≤ st.places.length + (st'.i - (st.i + 1)) ∧ st.vars.length ≤ st'.vars.length ∧ st'.vars.length ≤ st.vars.length + (st'.i - (st.i + 1)))
    (hr : match pTermG T g false ⟨st.i + 1, st.vars, st.places⟩ l with | .ok (s1, l1) => bad' = -1 ∧ st' = s1 ∧ l' = l1 | .error p => bad' = (p : Int)) (hw3 : Below w2.heap.size w2 w3) :
    NLoop B B' pa w L T vL vC vB f s0 l0 vl' (n + 1) (((tkA L st'.i).kind : Int) == 44) w3 := by
  refine ⟨vP', vV', st', bad', l', hP.below hw3, own_below hl hw3 (Nat.le_refl _), (hk.trans hk2).trans (.of_below hw3), by omega, by omega, ?_⟩
  rw [pPartsG] at he
  cases hq : pTermG T g false ⟨st.i + 1, st.vars, st.places⟩ l with
  | error p =>
    rw [hq] at hr he
    exact Or.inr ⟨p, hr, he⟩
  | ok r =>
    obtain ⟨s1, l1⟩ := r
    rw [hq] at hr he
    obtain ⟨rfl, rfl, rfl⟩ := hr
    have hin := (pTermG_in ht g).1 _ _ _ _ _ hq hi
    refine Or.inl ⟨rfl, hin, by omega, ?_, g, by omega, by omega, ?_⟩
    · intro hm
      have h44 : (tkA T st'.i).kind = 44 := by rw [← ht.kind]; simp at hm; omega
      exact ht.more _ hin (by rw [h44]; decide) (by rw [h44]; decide)
    · rw [he, ht.kind]
      simp only
      by_cases h44 : (tkA T st'.i).kind = 44
      · have e : (((tkA T st'.i).kind : Int) == 44) = true := by rw [h44]; rfl
        rw [e, if_pos h44, if_pos rfl]
      · have e : (((tkA T st'.i).kind : Int) == 44) = false := by rw [beq_eq_false_iff_ne]; omega
        rw [e, if_neg h44]
        rfl
/-- Behind the parts of a name. -/
def NEnd (B B' pa : Nat) (w : World) (L T : List Tk) (vL vC vB : Value) (f : Nat) (atom : Bool) (s0 : PSt) (l0 : List Nd) (vl : Value) (n : Nat) (wr : World) : Prop :=
  ∃ vP vV st bad l, PIn B wr pa L st bad vL vP vC vB vV ∧ wr.ownsRow B' 46 2 vl l.length (nodeCells l) ∧ KeptP B B' w wr ∧ n ≤ T.length ∧
    (s0.i ≤ st.i ∧ st.i ≤ T.length + (f + 1) ∧ l0.length < l.length ∧ l.length ≤ l0.length + (st.i - s0.i) ∧ s0.places.length < st.places.length ∧ st.places.length ≤ s0.places.length + (st.i - s0.i) ∧ s0.vars.length ≤ st.vars.length ∧ st.vars.length ≤ s0.vars.length + (st.i - s0.i)) ∧
    match pTermG T (f + 1) atom s0 l0 with
    | .ok (s1, l1) => bad = -1 ∧ s1 = ⟨st.i, st.vars, setParts st.places s0.places.length n⟩ ∧ l1 = setN l l0.length n
    | .error p => bad = (p : Int)

section
variable {B B' pa : Nat} {w wr : World} {L T : List Tk} {vL vP vC vB vV vl : Value} {f : Nat} {atom : Bool} {st : PSt} {l : List Nd} {tx : ByteArray} {tp : Nat}
theorem NEnd.plain (hk : (tkA T st.i).kind = 110) (htx : (tkA T st.i).txt = tx) (htp : (tkA T st.i).pos = tp) (h40 : (tkA T (st.i + 1)).kind ≠ 40) (hi : st.i < T.length) (hP : PIn B wr pa L ⟨st.i + 1, st.vars, st.places ++ [(tx, atom, 0, (tp : Int))]⟩ (-1) vL vP vC vB vV) (hl : wr.ownsRow B' 46 2 vl (l ++ [(tx, 0)]).length (nodeCells (l ++ [(tx, 0)]))) (hkp : KeptP B B' w wr) :
    NEnd B B' pa w L T vL vC vB f atom st l vl 0 wr := by
  refine ⟨vP, vV, _, -1, _, hP, hl, hkp, Nat.zero_le _, by simp; omega, ?_⟩
  rw [pTermG, if_neg (by rw [hk]; exact fun h => absurd h.1 (by decide)), if_neg (by rw [hk]; decide), if_neg h40, htx, htp]
  exact ⟨rfl, by rw [setParts_last], by rw [setN_last]⟩
theorem NEnd.err (hk : (tkA T st.i).kind = 110) (htx : (tkA T st.i).txt = tx) (htp : (tkA T st.i).pos = tp) (h40 : (tkA T (st.i + 1)).kind = 40) {st1 : PSt} {l1 : List Nd} {n p : Nat} {bad : Int}
    (hbd : st.i + 1 ≤ st1.i ∧ st1.i ≤ T.length + f ∧ (l ++ [(tx, 0)]).length ≤ l1.length ∧ l1.length ≤ (l ++ [(tx, 0)]).length + (st1.i - (st.i + 1)) ∧ (st.places ++ [(tx, atom, 0, (tp : Int))]).length ≤ st1.places.length ∧ st1.places.length ≤ (st.places ++ [(tx, atom, 0, (tp : Int))]).length + (st1.i - (st.i + 1)) ∧ st.vars.length ≤ st1.vars.length ∧ st1.vars.length ≤ st.vars.length + (st1.i - (st.i + 1)))
    (hn : n ≤ T.length) (he : pPartsG T f ⟨st.i + 1, st.vars, st.places ++ [(tx, atom, 0, (tp : Int))]⟩ (l ++ [(tx, 0)]) 0 = .error p) (hbp : bad = (p : Int)) (hP : PIn B wr pa L ⟨st1.i + 1, st1.vars, st1.places⟩ bad vL vP vC vB vV) (hl : wr.ownsRow B' 46 2 vl l1.length (nodeCells l1)) (hkp : KeptP B B' w wr) :
    NEnd B B' pa w L T vL vC vB f atom st l vl n wr := by
  refine ⟨vP, vV, _, bad, _, hP, hl, hkp, hn, by simp at hbd ⊢; omega, ?_⟩
  rw [pTermG, if_neg (by rw [hk]; exact fun h => absurd h.1 (by decide)), if_neg (by rw [hk]; decide), if_pos h40, htx, htp, he]
  exact hbp
theorem NEnd.done (hk : (tkA T st.i).kind = 110) (htx : (tkA T st.i).txt = tx) (htp : (tkA T st.i).pos = tp) (h40 : (tkA T (st.i + 1)).kind = 40) {st1 : PSt} {l1 : List Nd} {n : Nat}
    (hbd : st.i + 1 ≤ st1.i ∧ st1.i ≤ T.length + f ∧ (l ++ [(tx, 0)]).length ≤ l1.length ∧ l1.length ≤ (l ++ [(tx, 0)]).length + (st1.i - (st.i + 1)) ∧ (st.places ++ [(tx, atom, 0, (tp : Int))]).length ≤ st1.places.length ∧ st1.places.length ≤ (st.places ++ [(tx, atom, 0, (tp : Int))]).length + (st1.i - (st.i + 1)) ∧ st.vars.length ≤ st1.vars.length ∧ st1.vars.length ≤ st.vars.length + (st1.i - (st.i + 1)))
    (hn : n ≤ T.length) (he : pPartsG T f ⟨st.i + 1, st.vars, st.places ++ [(tx, atom, 0, (tp : Int))]⟩ (l ++ [(tx, 0)]) 0 = .ok (⟨st1.i + 1, st1.vars, st1.places⟩, l1, n)) (hP : PIn B wr pa L ⟨st1.i + 1, st1.vars, st1.places⟩ (-1) vL vP vC vB vV) (hl : wr.ownsRow B' 46 2 vl l1.length (nodeCells l1)) (hkp : KeptP B B' w wr) :
    NEnd B B' pa w L T vL vC vB f atom st l vl n wr := by
  refine ⟨vP, vV, _, -1, _, hP, hl, hkp, hn, by simp at hbd ⊢; omega, ?_⟩
  rw [pTermG, if_neg (by rw [hk]; exact fun h => absurd h.1 (by decide)), if_neg (by rw [hk]; decide), if_pos h40, htx, htp, he]
  exact ⟨rfl, rfl, rfl⟩
end

theorem and_back {p q : Prop} (hq : q) (hp : p) : p ∧ q := ⟨hp, hq⟩
/-- The kind of a token, and its place. -/
theorem tok_kind (k p : Int) (s : ByteArray) (w : World) : (Instr.field 58 (.agg #[.int .u8 k, .string s, .int .i64 p]) 0).run Try.prog w = .ok (.int .u8 k) w := by kernel_rfl
theorem tok_at (k p : Int) (s : ByteArray) (w : World) : (Instr.field 58 (.agg #[.int .u8 k, .string s, .int .i64 p]) 2).run Try.prog w = .ok (.int .i64 p) w := by kernel_rfl

end Go.Proofs.Ytcpdadppblbndaa
