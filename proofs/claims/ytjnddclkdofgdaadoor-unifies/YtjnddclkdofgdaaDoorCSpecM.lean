/- Covering: terms in the place of variables, by which literals come to be among others. Pure: where terms begin and end in a list of nodes; what the document's table holds of a term that was put into it. Pure: each place of a term has a row in the document's table. Pure: a forest of places, whose roots stand for classes; classes that are joined, with what is still to be joined. -/
import Derived.Test.YtjnddclkdofgdaaDoorRTerm
import Derived.Test.YtjnddclkdofgdaaDoorUTabM
namespace Go.Proofs.YtjnddclkdofgdaaDoor

/-- How many nodes the first q terms take. -/
def endGo : List Nd → Nat → Nat
  | _, 0 => 0
  | [], _ + 1 => 0
  | n :: r, q + 1 => 1 + endGo r (q + wants n)
@[simp] theorem endGo_zero (l : List Nd) : endGo l 0 = 0 := by cases l <;> rfl
theorem termGo_cons (n : Nd) (r : List Nd) (q : Nat) : termGo (n :: r) (q + 1) = (nodeOk n && termGo r (q + wants n)) := by
  simp only [termGo]
  cases nodeOk n <;> simp
theorem term_split (l : List Nd) : ∀ p q, termGo l (p + q) = true → termGo (l.take (endGo l p)) p = true ∧ termGo (l.drop (endGo l p)) q = true := by
  induction l with
  | nil =>
    intro p q h
    cases p with
    | zero => simpa [termGo] using h
    | succ p => simp [termGo] at h
  | cons n r ih =>
    intro p q h
    cases p with
    | zero => simpa [termGo] using h
    | succ p =>
      rw [show p + 1 + q = (p + q) + 1 by omega, termGo_cons, Bool.and_eq_true] at h
      have := ih (p + wants n) q (by rw [← h.2]; congr 1; omega)
      simp only [endGo, Nat.add_comm 1, List.take_succ_cons, List.drop_succ_cons]
      exact ⟨by rw [termGo_cons, h.1, this.1]; rfl, this.2⟩
theorem term_end (t : List Nd) : ∀ p s, termGo t p = true → endGo (t ++ s) p = t.length := by
  induction t with
  | nil => intro p s h; simp [termGo] at h; subst h; simp
  | cons n r ih =>
    intro p s h
    cases p with
    | zero => simp [termGo] at h
    | succ p =>
      rw [termGo_cons, Bool.and_eq_true] at h
      simp [endGo, ih _ s h.2]
      omega
theorem endGo_le (l : List Nd) : ∀ q, endGo l q ≤ l.length := by
  induction l with
  | nil => intro q; cases q <;> simp [endGo]
  | cons n r ih => intro q; cases q with
    | zero => simp
    | succ q => have := ih (q + wants n); simp [endGo]; omega
theorem endGo_pos (l : List Nd) (q : Nat) (h : l ≠ []) : 0 < endGo l (q + 1) := by
  cases l with
  | nil => exact absurd rfl h
  | cons n r => simp [endGo]; omega
theorem term_ne {l : List Nd} {q : Nat} (h : termGo l (q + 1) = true) : l ≠ [] := by
  rintro rfl; simp [termGo] at h

/-- What variables are. -/
abbrev Bd' := List (Int × List Nd)
def look (L : Bd') (x : Int) : Option (List Nd) := L.lookup x
theorem look_snoc (L : Bd') (x y : Int) (t : List Nd) : look (L ++ [(x, t)]) y = (look L y).or (if y = x then some t else none) := by
  unfold look
  rw [List.lookup_append]
  simp [List.lookup]
  by_cases h : y = x
  · simp [h]
  · rw [show (y == x) = false by simpa using h]
    simp [h]
theorem look_append (L M : Bd') (y : Int) : look (L ++ M) y = (look L y).or (look M y) := by
  unfold look; rw [List.lookup_append]
/-- Terms in the place of variables. -/
def subst (σ : Int → List Nd) (l : List Nd) : List Nd := l.flatMap fun n => if varB n then σ n.2 else [n]
theorem subst_cons (σ : Int → List Nd) (n : Nd) (r : List Nd) : subst σ (n :: r) = (if varB n then σ n.2 else [n]) ++ subst σ r := by simp [subst]
def Tm (σ : Int → List Nd) : Prop := ∀ x, termGo (σ x) 1 = true
def Ext (σ : Int → List Nd) (L : Bd') : Prop := ∀ x t, look L x = some t → σ x = t
theorem Ext.snoc {σ : Int → List Nd} {L : Bd'} {x : Int} {t : List Nd} (h : look L x = none) : Ext σ (L ++ [(x, t)]) ↔ Ext σ L ∧ σ x = t := by
  constructor
  · intro k
    refine ⟨fun y s hy => k y s (by rw [look_snoc, hy]; rfl), k x t (by rw [look_snoc, h]; simp)⟩
  · rintro ⟨k, e⟩ y s hy
    rw [look_snoc] at hy
    cases hl : look L y with
    | some u => rw [hl] at hy; simp at hy; rw [← hy]; exact k y u hl
    | none =>
      rw [hl] at hy
      by_cases hxy : y = x
      · subst hxy; simp at hy; rw [← hy]; exact e
      · simp [hxy] at hy
theorem Ext.left {σ : Int → List Nd} {L M : Bd'} (h : Ext σ (L ++ M)) : Ext σ L := fun x t hx => h x t (by rw [look_append, hx]; rfl)

/-- What more variables are, so that a term is another one. -/
def matchGo : List Nd → List Nd → Bd' → Option Bd'
  | [], [], L => some L
  | [], _ :: _, _ => none
  | n :: r, b, L =>
    if varB n then
      match look L n.2 with
      | some t => if t = b.take (endGo b 1) then matchGo r (b.drop (endGo b 1)) L else none
      | none => matchGo r (b.drop (endGo b 1)) (L ++ [(n.2, b.take (endGo b 1))])
    else match b with
      | [] => none
      | m :: b' => if n = m then matchGo r b' L else none
theorem matchGo_known {n : Nd} {r b : List Nd} {L : Bd'} {t : List Nd} (hv : varB n = true) (hl : look L n.2 = some t) : matchGo (n :: r) b L = if t = b.take (endGo b 1) then matchGo r (b.drop (endGo b 1)) L else none := by
  rw [matchGo.eq_def]; simp [hv, hl]
theorem matchGo_new {n : Nd} {r b : List Nd} {L : Bd'} (hv : varB n = true) (hl : look L n.2 = none) : matchGo (n :: r) b L = matchGo r (b.drop (endGo b 1)) (L ++ [(n.2, b.take (endGo b 1))]) := by
  rw [matchGo.eq_def]; simp [hv, hl]
theorem matchGo_name {n m : Nd} {r b : List Nd} {L : Bd'} (hv : varB n = false) : matchGo (n :: r) (m :: b) L = if n = m then matchGo r b L else none := by
  rw [matchGo.eq_def]; simp [hv]

theorem var_split {σ : Int → List Nd} (hσ : Tm σ) {n : Nd} {r b : List Nd} (hv : varB n = true) : subst σ (n :: r) = b ↔ σ n.2 = b.take (endGo b 1) ∧ subst σ r = b.drop (endGo b 1) := by
  rw [subst_cons, if_pos hv]
  constructor
  · rintro rfl
    rw [term_end _ _ _ (hσ n.2)]
    simp
  · rintro ⟨h1, h2⟩
    rw [h1, h2, List.take_append_drop]
theorem wants_var {n : Nd} (hv : varB n = true) : wants n = 0 := by simp [wants, hv]

theorem match_spec (a : List Nd) : ∀ (b : List Nd) (q : Nat) (L : Bd'), termGo a q = true → termGo b q = true →
    (∀ L', matchGo a b L = some L' → ∀ σ, Tm σ → (Ext σ L' ↔ Ext σ L ∧ subst σ a = b)) ∧ (matchGo a b L = none → ∀ σ, Tm σ → Ext σ L → subst σ a ≠ b) := by
  induction a with
  | nil =>
    intro b q L ha hb
    cases q with
    | succ q => simp [termGo] at ha
    | zero =>
      cases b with
      | nil => simp [matchGo, subst]
      | cons m b => simp [termGo] at hb
  | cons n r ih =>
    intro b q L ha hb
    cases q with
    | zero => simp [termGo] at ha
    | succ q =>
      rw [termGo_cons, Bool.and_eq_true] at ha
      by_cases hv : varB n = true
      · have hs := term_split b 1 q (by rw [← hb]; congr 1; omega)
        have hq : termGo r q = true := by simpa [wants_var hv] using ha.2
        cases hl : look L n.2 with
        | some t =>
          rw [matchGo_known hv hl]
          by_cases ht : t = b.take (endGo b 1)
          · rw [if_pos ht]
            obtain ⟨i1, i2⟩ := ih (b.drop (endGo b 1)) q L hq hs.2
            refine ⟨fun L' h σ hσ => ?_, fun h σ hσ he hx => ?_⟩
            · rw [i1 L' h σ hσ, var_split hσ hv]
              constructor
              · rintro ⟨e, f⟩; exact ⟨e, (e _ _ hl).trans ht, f⟩
              · rintro ⟨e, _, f⟩; exact ⟨e, f⟩
            · exact i2 h σ hσ he ((var_split hσ hv).1 hx).2
          · rw [if_neg ht]
            refine ⟨fun L' h => by simp at h, fun _ σ hσ he hx => ht ?_⟩
            rw [← he _ _ hl]
            exact ((var_split hσ hv).1 hx).1
        | none =>
          rw [matchGo_new hv hl]
          obtain ⟨i1, i2⟩ := ih (b.drop (endGo b 1)) q (L ++ [(n.2, b.take (endGo b 1))]) hq hs.2
          refine ⟨fun L' h σ hσ => ?_, fun h σ hσ he hx => ?_⟩
          · rw [i1 L' h σ hσ, Ext.snoc hl, var_split hσ hv, and_assoc]
          · obtain ⟨x1, x2⟩ := (var_split hσ hv).1 hx
            exact i2 h σ hσ ((Ext.snoc hl).2 ⟨he, x1⟩) x2
      · have hv' : varB n = false := by simpa using hv
        cases b with
        | nil => simp [termGo] at hb
        | cons m b =>
          rw [termGo_cons, Bool.and_eq_true] at hb
          rw [matchGo_name hv']
          by_cases hm : n = m
          · subst hm
            rw [if_pos rfl]
            obtain ⟨i1, i2⟩ := ih b (q + wants n) L ha.2 hb.2
            refine ⟨fun L' h σ hσ => ?_, fun h σ hσ he hx => ?_⟩
            · rw [i1 L' h σ hσ, subst_cons, hv']; simp
            · rw [subst_cons, hv'] at hx; simp at hx; exact i2 h σ hσ he hx
          · rw [if_neg hm]
            refine ⟨fun L' h => by simp at h, fun _ σ hσ he hx => ?_⟩
            rw [subst_cons, hv'] at hx; simp at hx; exact hm hx.1

/-- A variable stands in nodes. -/
def inVars (x : Int) (a : List Nd) : Prop := ∃ n ∈ a, varB n = true ∧ n.2 = x
theorem match_grow (a : List Nd) : ∀ (b : List Nd) (q : Nat) (L L' : Bd'), termGo a q = true → termGo b q = true → matchGo a b L = some L' →
    ∃ M, L' = L ++ M ∧ ∀ p ∈ M, inVars p.1 a ∧ look L p.1 = none := by
  induction a with
  | nil =>
    intro b q L L' _ _ h
    cases b with
    | nil => simp [matchGo] at h; exact ⟨[], by simp [h], by simp⟩
    | cons m b => simp [matchGo] at h
  | cons n r ih =>
    intro b q L L' ha hb h
    cases q with
    | zero => simp [termGo] at ha
    | succ q =>
      rw [termGo_cons, Bool.and_eq_true] at ha
      by_cases hv : varB n = true
      · have hs := term_split b 1 q (by rw [← hb]; congr 1; omega)
        have hq : termGo r q = true := by simpa [wants_var hv] using ha.2
        cases hl : look L n.2 with
        | some t =>
          rw [matchGo_known hv hl] at h
          by_cases ht : t = b.take (endGo b 1)
          · rw [if_pos ht] at h
            obtain ⟨M, h1, h2⟩ := ih _ q L L' hq hs.2 h
            exact ⟨M, h1, fun p hp => ⟨by obtain ⟨m, m1, m2⟩ := (h2 p hp).1; exact ⟨m, List.mem_cons_of_mem _ m1, m2⟩, (h2 p hp).2⟩⟩
          · rw [if_neg ht] at h; simp at h
        | none =>
          rw [matchGo_new hv hl] at h
          obtain ⟨M, h1, h2⟩ := ih _ q _ L' hq hs.2 h
          refine ⟨(n.2, b.take (endGo b 1)) :: M, by rw [h1]; simp, fun p hp => ?_⟩
          rcases List.mem_cons.1 hp with rfl | hp
          · exact ⟨⟨n, by simp, hv, rfl⟩, hl⟩
          · refine ⟨by obtain ⟨m, m1, m2⟩ := (h2 p hp).1; exact ⟨m, List.mem_cons_of_mem _ m1, m2⟩, ?_⟩
            have := (h2 p hp).2
            rw [look_snoc] at this
            cases hh : look L p.1 with
            | none => rfl
            | some u => rw [hh] at this; simp at this
      · have hv' : varB n = false := by simpa using hv
        cases b with
        | nil => simp [termGo] at hb
        | cons m b =>
          rw [termGo_cons, Bool.and_eq_true] at hb
          rw [matchGo_name hv'] at h
          by_cases hm : n = m
          · subst hm
            rw [if_pos rfl] at h
            obtain ⟨M, h1, h2⟩ := ih _ _ L L' ha.2 hb.2 h
            exact ⟨M, h1, fun p hp => ⟨by obtain ⟨m, m1, m2⟩ := (h2 p hp).1; exact ⟨m, List.mem_cons_of_mem _ m1, m2⟩, (h2 p hp).2⟩⟩
          · rw [if_neg hm] at h; simp at h

/-- Can literals be made ones of d, where variables are so already? -/
def Cov (d c : List Lt) (L : Bd') : Prop := ∃ σ, Tm σ ∧ Ext σ L ∧ ∀ l ∈ c, (l.1, subst σ l.2) ∈ d
/-- All are atoms. -/
def Tms (c : List Lt) : Prop := ∀ l ∈ c, termGo l.2 1 = true
/-- What a literal is made, if it can be made another. -/
def matchL (x y : Lt) (L : Bd') : Option Bd' := if x.1 = y.1 then matchGo x.2 y.2 L else none
theorem matchL_some {x y : Lt} {L L' : Bd'} (hx : termGo x.2 1 = true) (hy : termGo y.2 1 = true) (h : matchL x y L = some L') (σ : Int → List Nd) (hσ : Tm σ) : Ext σ L' ↔ Ext σ L ∧ (x.1, subst σ x.2) = y := by
  unfold matchL at h
  by_cases hb : x.1 = y.1
  · rw [if_pos hb] at h
    rw [(match_spec x.2 y.2 1 L hx hy).1 L' h σ hσ, Prod.ext_iff]
    simp [hb]
  · rw [if_neg hb] at h; simp at h
theorem matchL_none {x y : Lt} {L : Bd'} (hx : termGo x.2 1 = true) (hy : termGo y.2 1 = true) (h : matchL x y L = none) (σ : Int → List Nd) (hσ : Tm σ) (he : Ext σ L) : (x.1, subst σ x.2) ≠ y := by
  unfold matchL at h
  by_cases hb : x.1 = y.1
  · rw [if_pos hb] at h
    intro e
    exact (match_spec x.2 y.2 1 L hx hy).2 h σ hσ he (by rw [← e])
  · intro e; exact hb (by rw [← e])
theorem matchL_grow {x y : Lt} {L L' : Bd'} (hx : termGo x.2 1 = true) (hy : termGo y.2 1 = true) (h : matchL x y L = some L') : ∃ M, L' = L ++ M ∧ ∀ p ∈ M, inVars p.1 x.2 ∧ look L p.1 = none := by
  unfold matchL at h
  by_cases hb : x.1 = y.1
  · rw [if_pos hb] at h; exact match_grow x.2 y.2 1 L L' hx hy h
  · rw [if_neg hb] at h; simp at h

/-- One literal first. -/
theorem cov_first {d c rest : List Lt} {L : Bd'} {x : Lt} (hd : Tms d) (hx : termGo x.2 1 = true) (hm : ∀ l, l ∈ c ↔ l = x ∨ l ∈ rest) :
    Cov d c L ↔ ∃ y ∈ d, ∃ L', matchL x y L = some L' ∧ Cov d rest L' := by
  constructor
  · rintro ⟨σ, h1, h2, h3⟩
    refine ⟨_, h3 x ((hm x).2 (Or.inl rfl)), ?_⟩
    have hy := hd _ (h3 x ((hm x).2 (Or.inl rfl)))
    cases hL : matchL x (x.1, subst σ x.2) L with
    | none => exact absurd rfl (matchL_none hx hy hL σ h1 h2)
    | some L' => exact ⟨L', rfl, σ, h1, (matchL_some hx hy hL σ h1).2 ⟨h2, rfl⟩, fun l hl => h3 l ((hm l).2 (Or.inr hl))⟩
  · rintro ⟨y, hy, L', hL, σ, h1, h2, h3⟩
    obtain ⟨e, f⟩ := (matchL_some hx (hd y hy) hL σ h1).1 h2
    refine ⟨σ, h1, e, fun l hl => ?_⟩
    rcases (hm l).1 hl with rfl | hl
    · rw [f]; exact hy
    · exact h3 l hl

/-- All that has come to be bound makes the literals others. -/
def Made (d c : List Lt) (L : Bd') : Prop := ∀ σ, Tm σ → Ext σ L → ∀ l ∈ c, (l.1, subst σ l.2) ∈ d
/-- Bindings beyond others, of variables that stand in literals, which were free. -/
def Grown (c : List Lt) (L L' : Bd') : Prop := ∃ M, L' = L ++ M ∧ ∀ p ∈ M, (∃ l ∈ c, inVars p.1 l.2) ∧ look L p.1 = none
/-- No variable that is free stands in both. -/
def Apart (L : Bd') (g r : List Lt) : Prop := ∀ x ∈ g, ∀ y ∈ r, ∀ n ∈ x.2, varB n = true → look L n.2 = none → n ∉ y.2
theorem subst_congr {σ τ : Int → List Nd} {l : List Nd} (h : ∀ n ∈ l, varB n = true → σ n.2 = τ n.2) : subst σ l = subst τ l := by
  induction l with
  | nil => rfl
  | cons n r ih =>
    rw [subst_cons, subst_cons, ih fun m hm => h m (List.mem_cons_of_mem _ hm)]
    by_cases hv : varB n = true
    · rw [if_pos hv, if_pos hv, h n (by simp) hv]
    · rw [if_neg hv, if_neg hv]
theorem var_ext {n m : Nd} (hn : varB n = true) (hm : varB m = true) (h : n.2 = m.2) : n = m := by
  obtain ⟨s, x⟩ := n
  obtain ⟨t, y⟩ := m
  simp only at h
  subst h
  have hs : s.toList = t.toList := by
    simp [varB] at hn hm
    rw [hn, hm]
  rw [toList_inj.1 hs]
theorem Grown.refl (c : List Lt) (L : Bd') : Grown c L L := ⟨[], by simp, by simp⟩
theorem Grown.trans {c c' e : List Lt} {L L' L'' : Bd'} (h : Grown c L L') (k : Grown c' L' L'') (h1 : ∀ l ∈ c, l ∈ e) (h2 : ∀ l ∈ c', l ∈ e) : Grown e L L'' := by
  obtain ⟨M, rfl, hM⟩ := h
  obtain ⟨M', rfl, hM'⟩ := k
  refine ⟨M ++ M', by simp, fun p hp => ?_⟩
  rcases List.mem_append.1 hp with hp | hp
  · obtain ⟨⟨l, hl, hx⟩, hn⟩ := hM p hp
    exact ⟨⟨l, h1 l hl, hx⟩, hn⟩
  · obtain ⟨⟨l, hl, hx⟩, hn⟩ := hM' p hp
    refine ⟨⟨l, h2 l hl, hx⟩, ?_⟩
    rw [look_append] at hn
    cases hh : look L p.1 with
    | none => rfl
    | some u => rw [hh] at hn; simp at hn
theorem look_mem {L : Bd'} {x : Int} {t : List Nd} (h : look L x = some t) : (x, t) ∈ L := by
  unfold look at h
  induction L with
  | nil => simp at h
  | cons p r ih =>
    obtain ⟨y, s⟩ := p
    rw [List.lookup_cons] at h
    by_cases hxy : (x == y) = true
    · rw [hxy] at h; simp at h hxy; subst hxy h; simp
    · simp only [hxy] at h
      exact List.mem_cons_of_mem _ (ih h)
theorem Grown.ext {c : List Lt} {L L' : Bd'} (h : Grown c L L') {σ : Int → List Nd} (k : Ext σ L') : Ext σ L := by
  obtain ⟨M, rfl, _⟩ := h; exact k.left
/-- One part is made: the rest alone is looked at. -/
theorem cov_parts {d c g r : List Lt} {L L' : Bd'} (hm : ∀ l, l ∈ c ↔ l ∈ g ∨ l ∈ r) (ha : Apart L g r) (hg : Grown g L L') (hT : ∀ x t, look L' x = some t → termGo t 1 = true) (hM : Made d g L') : Cov d c L ↔ Cov d r L' := by
  constructor
  · rintro ⟨σ, h1, h2, h3⟩
    refine ⟨fun x => (look L' x).getD (σ x), fun x => ?_, fun x t hx => by simp [hx], fun l hl => ?_⟩
    · show termGo ((look L' x).getD (σ x)) 1 = true
      cases hh : look L' x with
      | none => exact h1 x
      | some t => exact hT x t hh
    · have := h3 l ((hm l).2 (Or.inr hl))
      rw [show subst (fun x => (look L' x).getD (σ x)) l.2 = subst σ l.2 from ?_]
      · exact this
      · refine subst_congr fun n hn hv => ?_
        cases hh : look L n.2 with
        | some t =>
          obtain ⟨M, rfl, _⟩ := hg
          show (look (L ++ M) n.2).getD (σ n.2) = σ n.2
          rw [look_append, hh]
          simp only [Option.some_or, Option.getD_some]
          exact (h2 _ _ hh).symm
        | none =>
          cases hk : look L' n.2 with
          | none => simp only [Option.getD_none]
          | some t =>
            exfalso
            obtain ⟨M, rfl, hMM⟩ := hg
            rw [look_append, hh] at hk
            obtain ⟨⟨x, hx, m, hm1, hm2, hm3⟩, _⟩ := hMM _ (look_mem (by simpa using hk))
            simp only at hm3
            have hnm := var_ext hm2 hv hm3
            exact ha x hx l hl m hm1 hm2 (by rw [hm3]; exact hh) (by rw [hnm]; exact hn)
  · rintro ⟨σ, h1, h2, h3⟩
    refine ⟨σ, h1, hg.ext h2, fun l hl => ?_⟩
    rcases (hm l).1 hl with hl | hl
    · exact hM σ h1 h2 l hl
    · exact h3 l hl
theorem cov_nil {d : List Lt} {L : Bd'} (hT : ∀ x t, look L x = some t → termGo t 1 = true) : Cov d [] L := by
  refine ⟨fun x => (look L x).getD [(⟨#[]⟩, 0)], fun x => ?_, fun x t hx => by simp [hx], by simp⟩
  show termGo ((look L x).getD [(⟨#[]⟩, 0)]) 1 = true
  cases hh : look L x with
  | none =>
    have he : (⟨#[]⟩ : ByteArray).toList = [] := by rw [ByteArray.toList_eq]
    simp [termGo, nodeOk, wants, varB, he]
  | some t => exact hT x t hh
/-- What variables are: each once, terms of a size that may be. -/
structure LOk (L : Bd') : Prop where
  keys : ∀ p ∈ L, 0 ≤ p.1 ∧ p.1 < 60
  once : (L.map Prod.fst).Nodup
  terms : ∀ p ∈ L, termGo p.2 1 = true ∧ p.2.length ≤ 60
theorem LOk.nil : LOk [] := ⟨by simp, by simp, by simp⟩
theorem LOk.look {L : Bd'} (h : LOk L) : ∀ x t, look L x = some t → termGo t 1 = true := fun _ _ hx => (h.terms _ (look_mem hx)).1
theorem look_none {L : Bd'} {x : Int} (h : look L x = none) : x ∉ L.map Prod.fst := by
  intro hx
  obtain ⟨p, hp, rfl⟩ := List.mem_map.1 hx
  unfold Go.Proofs.YtjnddclkdofgdaaDoor.look at h
  have := List.lookup_eq_none_iff.1 h p hp
  simp at this
theorem LOk.snoc {L : Bd'} {x : Int} {t : List Nd} (h : LOk L) (hl : Go.Proofs.YtjnddclkdofgdaaDoor.look L x = none) (h0 : 0 ≤ x) (h1 : x < 60) (ht : termGo t 1 = true) (hs : t.length ≤ 60) : LOk (L ++ [(x, t)]) := by
  refine ⟨fun p hp => ?_, ?_, fun p hp => ?_⟩
  · rcases List.mem_append.1 hp with hp | hp
    · exact h.keys p hp
    · simp at hp; subst hp; exact ⟨h0, h1⟩
  · rw [List.map_append, List.nodup_append]
    refine ⟨h.once, by simp, fun a ha b hb e => look_none hl ?_⟩
    simp at hb
    subst hb e
    exact ha
  · rcases List.mem_append.1 hp with hp | hp
    · exact h.terms p hp
    · simp at hp; subst hp; exact ⟨ht, hs⟩
theorem LOk.few {L : Bd'} (h : LOk L) : L.length ≤ 60 := by
  have h2 : ∀ x ∈ L.map Prod.fst, x ∈ (List.range 60).map (fun n : Nat => (n : Int)) := by
    intro x hx
    obtain ⟨p, hp, rfl⟩ := List.mem_map.1 hx
    have := h.keys p hp
    exact List.mem_map.2 ⟨p.1.toNat, by simp; omega, by omega⟩
  have h3 := List.Nodup.length_le_of_subset h.once h2
  simpa using h3
theorem LOk.left {L M : Bd'} (h : LOk (L ++ M)) : LOk L :=
  ⟨fun p hp => h.keys p (List.mem_append_left _ hp), by have := h.once; rw [List.map_append, List.nodup_append] at this; exact this.1, fun p hp => h.terms p (List.mem_append_left _ hp)⟩
theorem look_of_mem {L : Bd'} (h : LOk L) {x : Int} {t : List Nd} (hm : (x, t) ∈ L) : look L x = some t := by
  cases hl : look L x with
  | none => exact absurd (List.mem_map.2 ⟨_, hm, rfl⟩) (look_none hl)
  | some u =>
    have hu := look_mem hl
    have := h.once
    clear hl
    induction L with
    | nil => simp at hm
    | cons p r ih =>
      simp only [List.map_cons, List.nodup_cons] at this
      have hr : LOk r := ⟨fun q hq => h.keys q (List.mem_cons_of_mem _ hq), this.2, fun q hq => h.terms q (List.mem_cons_of_mem _ hq)⟩
      rcases List.mem_cons.1 hm with rfl | hm'
      · rcases List.mem_cons.1 hu with hu | hu
        · simp at hu; rw [hu]
        · exact absurd (List.mem_map.2 ⟨_, hu, rfl⟩) this.1
      · rcases List.mem_cons.1 hu with rfl | hu'
        · exact absurd (List.mem_map.2 ⟨_, hm', rfl⟩) this.1
        · exact ih hr hm' hu' this.2
theorem nodeOk_var {n : Nd} (h : nodeOk n = true) (hv : varB n = true) : 0 ≤ n.2 ∧ n.2 < 60 := by simpa [nodeOk, hv] using h
theorem match_ok (a : List Nd) : ∀ (b : List Nd) (q : Nat) (L L' : Bd'), termGo a q = true → termGo b q = true → b.length ≤ 60 → LOk L → matchGo a b L = some L' → LOk L' := by
  induction a with
  | nil =>
    intro b q L L' _ _ _ hL h
    cases b with
    | nil => simp [matchGo] at h; subst h; exact hL
    | cons m b => simp [matchGo] at h
  | cons n r ih =>
    intro b q L L' ha hb h60 hL h
    cases q with
    | zero => simp [termGo] at ha
    | succ q =>
      rw [termGo_cons, Bool.and_eq_true] at ha
      by_cases hv : varB n = true
      · have hs := term_split b 1 q (by rw [← hb]; congr 1; omega)
        have hq : termGo r q = true := by simpa [wants_var hv] using ha.2
        cases hl : look L n.2 with
        | some t =>
          rw [matchGo_known hv hl] at h
          by_cases ht : t = b.take (endGo b 1)
          · rw [if_pos ht] at h
            exact ih _ q L L' hq hs.2 (by simp; omega) hL h
          · rw [if_neg ht] at h; simp at h
        | none =>
          rw [matchGo_new hv hl] at h
          have hn := nodeOk_var ha.1 hv
          exact ih _ q _ L' hq hs.2 (by simp; omega) (hL.snoc hl hn.1 hn.2 hs.1 (by simp; omega)) h
      · have hv' : varB n = false := by simpa using hv
        cases b with
        | nil => simp [termGo] at hb
        | cons m b =>
          rw [termGo_cons, Bool.and_eq_true] at hb
          rw [matchGo_name hv'] at h
          by_cases hm : n = m
          · subst hm
            rw [if_pos rfl] at h
            exact ih _ _ L L' ha.2 hb.2 (by simp at h60; omega) hL h
          · rw [if_neg hm] at h; simp at h
theorem matchL_ok {x y : Lt} {L L' : Bd'} (hx : termGo x.2 1 = true) (hy : termGo y.2 1 = true) (h60 : y.2.length ≤ 60) (hL : LOk L) (h : matchL x y L = some L') : LOk L' := by
  unfold matchL at h
  by_cases hb : x.1 = y.1
  · rw [if_pos hb] at h; exact match_ok x.2 y.2 1 L L' hx hy h60 hL h
  · rw [if_neg hb] at h; simp at h
/-- The steps of a match, by places. -/
theorem endGo_step (l : List Nd) (k p : Nat) (h : k < l.length) : endGo (l.drop k) (p + 1) = 1 + endGo (l.drop (k + 1)) (p + wants l[k]) := by
  rw [List.drop_eq_getElem_cons h]; rfl
theorem termGo_step (l : List Nd) (k q : Nat) (h : k < l.length) : termGo (l.drop k) (q + 1) = (nodeOk l[k] && termGo (l.drop (k + 1)) (q + wants l[k])) := by
  rw [List.drop_eq_getElem_cons h, termGo_cons]
theorem match_end (b : List Nd) (j : Nat) (L : Bd') (hj : j = b.length) : matchGo [] (b.drop j) L = some L := by
  subst hj; simp [matchGo]
theorem match_at_known (a b : List Nd) (k j : Nat) (L : Bd') (t : List Nd) (hk : k < a.length) (hv : varB a[k] = true) (hl : look L a[k].2 = some t) :
    matchGo (a.drop k) (b.drop j) L = if t = (b.drop j).take (endGo (b.drop j) 1) then matchGo (a.drop (k + 1)) (b.drop (j + endGo (b.drop j) 1)) L else none := by
  rw [List.drop_eq_getElem_cons hk, matchGo_known hv hl, List.drop_drop]
theorem match_at_new (a b : List Nd) (k j : Nat) (L : Bd') (hk : k < a.length) (hv : varB a[k] = true) (hl : look L a[k].2 = none) :
    matchGo (a.drop k) (b.drop j) L = matchGo (a.drop (k + 1)) (b.drop (j + endGo (b.drop j) 1)) (L ++ [(a[k].2, (b.drop j).take (endGo (b.drop j) 1))]) := by
  rw [List.drop_eq_getElem_cons hk, matchGo_new hv hl, List.drop_drop]
theorem match_at_name (a b : List Nd) (k j : Nat) (L : Bd') (hk : k < a.length) (hj : j < b.length) (hv : varB a[k] = false) :
    matchGo (a.drop k) (b.drop j) L = if a[k] = b[j] then matchGo (a.drop (k + 1)) (b.drop (j + 1)) L else none := by
  rw [List.drop_eq_getElem_cons hk, List.drop_eq_getElem_cons hj, matchGo_name hv]
theorem term_left {l : List Nd} {k q : Nat} (h : termGo (l.drop k) (q + 1) = true) : k < l.length := by
  rcases Nat.lt_or_ge k l.length with hk | hk
  · exact hk
  · rw [List.drop_eq_nil_of_le hk] at h; simp [termGo] at h
theorem term_done {l : List Nd} {k : Nat} (hk : k ≤ l.length) (h : termGo (l.drop k) 0 = true) : k = l.length := by
  rcases Nat.lt_or_ge k l.length with hl | hl
  · rw [termGo_zero l k hl] at h; simp at h
  · omega

end Go.Proofs.YtjnddclkdofgdaaDoor

namespace Go.Proofs.YtjnddclkdofgdaaDoor
set_option maxRecDepth 100000

theorem endGo_add (s : List Nd) : ∀ p q, endGo s (p + q) = endGo s p + endGo (s.drop (endGo s p)) q := by
  induction s with
  | nil => intro p q; cases p <;> cases q <;> simp [endGo]
  | cons n r ih =>
    intro p q
    cases p with
    | zero => simp
    | succ p =>
      rw [show p + 1 + q = (p + q) + 1 by omega]
      simp only [endGo]
      rw [show p + q + wants n = (p + wants n) + q by omega, ih (p + wants n) q, Nat.add_comm 1 (endGo r (p + wants n)), List.drop_succ_cons]
      omega
/-- Where k terms begin, counted from b on. -/
def starts : List Nd → Nat → Nat → List Nat
  | _, 0, _ => []
  | s, k + 1, b => b :: starts (s.drop (endGo s 1)) k (b + endGo s 1)
@[simp] theorem starts_zero (s : List Nd) (b : Nat) : starts s 0 b = [] := rfl
theorem starts_succ (s : List Nd) (k b : Nat) : starts s (k + 1) b = b :: starts (s.drop (endGo s 1)) k (b + endGo s 1) := rfl
theorem starts_length (s : List Nd) (k : Nat) : ∀ b, (starts s k b).length = k := by
  induction k generalizing s with
  | zero => intro b; rfl
  | succ k ih => intro b; rw [starts_succ]; simp [ih]
theorem starts_shift (k : Nat) : ∀ (s : List Nd) (b d : Nat), starts s k (b + d) = (starts s k b).map (· + d) := by
  induction k with
  | zero => intro s b d; rfl
  | succ k ih =>
    intro s b d
    rw [starts_succ, starts_succ, List.map_cons, show b + d + endGo s 1 = b + endGo s 1 + d by omega, ih]
theorem starts_add (k : Nat) : ∀ (s : List Nd) (j b : Nat), starts s (k + j) b = starts s k b ++ starts (s.drop (endGo s k)) j (b + endGo s k) := by
  induction k with
  | zero => intro s j b; simp
  | succ k ih =>
    intro s j b
    rw [show k + 1 + j = (k + j) + 1 by omega, starts_succ, starts_succ, ih, show endGo s (k + 1) = endGo s 1 + endGo (s.drop (endGo s 1)) k by rw [← endGo_add]; congr 1; omega, List.drop_drop, List.cons_append]
    simp [Nat.add_assoc, Nat.add_comm (endGo s 1)]
/-- The places where terms begin are there, if there are so many terms. -/
theorem starts_bounds (k : Nat) : ∀ (s : List Nd) (b : Nat), ∀ x ∈ starts s k b, b ≤ x ∧ x ≤ b + endGo s k := by
  induction k with
  | zero => intro s b x h; simp at h
  | succ k ih =>
    intro s b x h
    rw [starts_succ] at h
    have e : endGo s (k + 1) = endGo s 1 + endGo (s.drop (endGo s 1)) k := by rw [← endGo_add]; congr 1; omega
    rcases List.mem_cons.1 h with rfl | h
    · omega
    · have := ih _ _ x h; omega
/-- So many terms are there. -/
def fullT : List Nd → Nat → Prop
  | _, 0 => True
  | [], _ + 1 => False
  | n :: r, q + 1 => fullT r (q + wants n)
@[simp] theorem full_zero (l : List Nd) : fullT l 0 := by cases l <;> trivial
theorem full_of_term (l : List Nd) : ∀ q, termGo l q = true → fullT l q := by
  induction l with
  | nil => intro q h; simp [termGo] at h; subst h; trivial
  | cons n r ih =>
    intro q h
    cases q with
    | zero => trivial
    | succ q => rw [termGo_cons, Bool.and_eq_true] at h; exact ih _ h.2
theorem full_add (s : List Nd) : ∀ p q, fullT s (p + q) ↔ fullT s p ∧ fullT (s.drop (endGo s p)) q := by
  induction s with
  | nil =>
    intro p q
    cases p with
    | zero => simp
    | succ p => rw [show p + 1 + q = (p + q) + 1 by omega]; simp [fullT]
  | cons n r ih =>
    intro p q
    cases p with
    | zero => simp
    | succ p =>
      rw [show p + 1 + q = (p + q) + 1 by omega]
      simp only [fullT, endGo]
      rw [show p + q + wants n = (p + wants n) + q by omega, ih, Nat.add_comm 1, List.drop_succ_cons]
theorem full_pos {s : List Nd} {q : Nat} (h : fullT s (q + 1)) : 0 < endGo s (q + 1) := by
  cases s with
  | nil => exact h.elim
  | cons n r => simp [endGo]; omega
theorem starts_lt (k : Nat) : ∀ (s : List Nd) (b : Nat), fullT s k → ∀ x ∈ starts s k b, b ≤ x ∧ x < b + endGo s k := by
  induction k with
  | zero => intro s b _ x h; simp at h
  | succ k ih =>
    intro s b hf x h
    rw [starts_succ] at h
    have e : endGo s (k + 1) = endGo s 1 + endGo (s.drop (endGo s 1)) k := by rw [← endGo_add]; congr 1; omega
    have hf1 := (full_add s 1 k).1 (by rw [Nat.add_comm]; exact hf)
    have hp := full_pos (q := 0) hf1.1
    rw [Nat.zero_add] at hp
    rcases List.mem_cons.1 h with rfl | h
    · omega
    · have := ih _ _ hf1.2 x h; omega
/-- What stands behind doesn't matter. -/
theorem endGo_append (s t : List Nd) : ∀ q, fullT s q → endGo (s ++ t) q = endGo s q := by
  induction s with
  | nil => intro q h; cases q with
    | zero => simp
    | succ q => exact h.elim
  | cons n r ih =>
    intro q h
    cases q with
    | zero => simp
    | succ q => simp only [List.cons_append, endGo]; rw [ih _ h]
theorem full_append (s t : List Nd) : ∀ q, fullT s q → fullT (s ++ t) q := by
  induction s with
  | nil => intro q h; cases q with
    | zero => simp
    | succ q => exact h.elim
  | cons n r ih =>
    intro q h
    cases q with
    | zero => simp
    | succ q => exact ih _ h
theorem starts_append (k : Nat) : ∀ (s t : List Nd) (b : Nat), fullT s k → starts (s ++ t) k b = starts s k b := by
  induction k with
  | zero => intro s t b _; rfl
  | succ k ih =>
    intro s t b h
    have h1 := (full_add s 1 k).1 (by rw [Nat.add_comm]; exact h)
    rw [starts_succ, starts_succ, endGo_append _ _ _ h1.1, List.drop_append_of_le_length (endGo_le _ _), ih _ _ _ h1.2]
/-- The terms behind a node are there. -/
theorem full_at (s : List Nd) : ∀ (q i : Nat), fullT s q → i < endGo s q → ∃ n, s[i]? = some n ∧ fullT (s.drop (i + 1)) (wants n) ∧ i + 1 + endGo (s.drop (i + 1)) (wants n) ≤ endGo s q := by
  induction s with
  | nil => intro q i h hi; cases q <;> simp [endGo] at hi
  | cons n r ih =>
    intro q i h hi
    cases q with
    | zero => simp at hi
    | succ q =>
      simp only [endGo] at hi ⊢
      have ha := (full_add r (wants n) q).1 (by rw [Nat.add_comm]; exact h)
      have he := endGo_add r (wants n) q
      rw [Nat.add_comm (wants n) q] at he
      cases i with
      | zero => exact ⟨n, rfl, by simpa using ha.1, by simp; omega⟩
      | succ i =>
        obtain ⟨m, h1, h2, h3⟩ := ih (q + wants n) i h (by omega)
        exact ⟨m, by simpa using h1, by simpa using h2, by simp; omega⟩

/-- A variable's number is more by up. -/
def shN (up : Int) (n : Nd) : Nd := (n.1, n.2 + up)
theorem shN_var (up : Int) (n : Nd) : varB (shN up n) = varB n := rfl
def setParts (R : List Rw) (k : Nat) (ps : List Nat) : List Rw := R.modify k fun r => { r with parts := ps }
theorem setParts_length (R : List Rw) (k : Nat) (ps : List Nat) : (setParts R k ps).length = R.length := by simp [setParts]
theorem setParts_at (R : List Rw) (k : Nat) (ps : List Nat) (i : Nat) : (setParts R k ps)[i]? = if i = k then (R[i]?).map fun r => { r with parts := ps } else R[i]? := by
  simp [setParts, List.getElem?_modify]
  by_cases h : i = k
  · subst h; simp
  · have : ¬ k = i := fun e => h e.symm
    simp [h, this]
/-- So many terms are put: the table ahead, the nodes; the table behind, the terms' rows, the nodes that are left. -/
inductive Put (up : Int) : List Rw → Nat → List Nd → List Rw → List Nat → List Nd → Prop
  | nil (R : List Rw) (s : List Nd) : Put up R 0 s R [] s
  | old {R : List Rw} {n : Nd} {i k : Nat} {s : List Nd} {R' : List Rw} {ps : List Nat} {s' : List Nd} : varB n = true → (∃ r, R[i]? = some r ∧ r.node = shN up n) → Put up R k s R' ps s' → Put up R (k + 1) (n :: s) R' (i :: ps) s'
  | new {R : List Rw} {n : Nd} {k : Nat} {s : List Nd} {R' : List Rw} {ps : List Nat} {s' : List Nd} : varB n = true → (∀ r ∈ R, r.node ≠ shN up n) → Put up (R ++ [⟨shN up n, R.length, []⟩]) k s R' ps s' → Put up R (k + 1) (n :: s) R' (R.length :: ps) s'
  | name {R : List Rw} {n : Nd} {k : Nat} {s : List Nd} {R1 : List Rw} {qs : List Nat} {s1 : List Nd} {R' : List Rw} {ps : List Nat} {s' : List Nd} : varB n = false → Put up (R ++ [⟨n, R.length, []⟩]) (wants n) s R1 qs s1 → Put up (setParts R1 R.length qs) k s1 R' ps s' → Put up R (k + 1) (n :: s) R' (R.length :: ps) s'
theorem Put.append {up : Int} {R : List Rw} {k : Nat} {s : List Nd} {R1 : List Rw} {ps : List Nat} {s1 : List Nd} (h : Put up R k s R1 ps s1) : ∀ {j : Nat} {R2 : List Rw} {qs : List Nat} {s2 : List Nd}, Put up R1 j s1 R2 qs s2 → Put up R (k + j) s R2 (ps ++ qs) s2 := by
  induction h with
  | nil R s => intro j R2 qs s2 h; rw [Nat.zero_add]; exact h
  | @old R n i k s R' ps s' a b _ ih => intro j R2 qs s2 h; rw [show k + 1 + j = (k + j) + 1 by omega]; exact Put.old a b (ih h)
  | @new R n k s R' ps s' a b _ ih => intro j R2 qs s2 h; rw [show k + 1 + j = (k + j) + 1 by omega]; exact Put.new a b (ih h)
  | @name R n k s R1 qs s1 R' ps s' a b _ _ ih => intro j R2 qs2 s2 h; rw [show k + 1 + j = (k + j) + 1 by omega]; exact Put.name a b (ih h)

/-- Each variable has one row. -/
def VarsOnce (R : List Rw) : Prop := ∀ (i j : Nat) (ri rj : Rw), R[i]? = some ri → R[j]? = some rj → varB ri.node = true → ri.node = rj.node → i = j
/-- The rows of terms: g says which row a place has. -/
structure PutI (up : Int) (R : List Rw) (k : Nat) (s : List Nd) (R' : List Rw) (ps : List Nat) (s' : List Nd) (g : Nat → Nat) : Prop where
  full : fullT s k
  rest : s' = s.drop (endGo s k)
  ps : ps = (starts s k 0).map g
  more : R.length ≤ R'.length
  ext : ∀ i, i < R.length → R'[i]? = R[i]?
  var : ∀ i n, i < endGo s k → s[i]? = some n → varB n = true → ∃ r, R'[g i]? = some r ∧ r.node = shN up n
  name : ∀ i n, i < endGo s k → s[i]? = some n → varB n = false → R'[g i]? = some ⟨n, g i, (starts (s.drop (i + 1)) (wants n) (i + 1)).map g⟩ ∧ R.length ≤ g i
  inj : ∀ i j n m, i < endGo s k → j < endGo s k → s[i]? = some n → s[j]? = some m → varB n = false → varB m = false → g i = g j → i = j
  onto : ∀ r, R.length ≤ r → r < R'.length → ∃ i, i < endGo s k ∧ g i = r
  fresh : ∀ r x, R.length ≤ r → R'[r]? = some x → x.cls = r ∧ (varB x.node = true → x.parts = [])
  once : VarsOnce R → VarsOnce R'
theorem PutI.lt {up : Int} {R : List Rw} {k : Nat} {s : List Nd} {R' : List Rw} {ps : List Nat} {s' : List Nd} {g : Nat → Nat} (h : PutI up R k s R' ps s' g) {i : Nat} (hi : i < endGo s k) : g i < R'.length := by
  obtain ⟨n, h1, _, _⟩ := full_at s k i h.full hi
  cases hv : varB n with
  | true => obtain ⟨r, h2, _⟩ := h.var i n hi h1 hv; exact (List.getElem?_eq_some_iff.1 h2).1
  | false => exact (List.getElem?_eq_some_iff.1 (h.name i n hi h1 hv).1).1
theorem VarsOnce.name {R : List Rw} (h : VarsOnce R) {r : Rw} (hr : varB r.node = false) : VarsOnce (R ++ [r]) := by
  intro i j ri rj h1 h2 hv e
  have hl : ∀ (k : Nat) (x : Rw), (R ++ [r])[k]? = some x → varB x.node = true → R[k]? = some x := by
    intro k x hk hx
    by_cases hlt : k < R.length
    · rwa [List.getElem?_append_left hlt] at hk
    · rw [List.getElem?_append_right (by omega)] at hk
      have : k - R.length = 0 := by
        by_cases h0 : k - R.length = 0
        · exact h0
        · rw [List.getElem?_eq_none (by simp; omega)] at hk; simp at hk
      rw [this] at hk
      simp at hk
      rw [← hk, hr] at hx
      cases hx
  exact h i j ri rj (hl i ri h1 hv) (hl j rj h2 (by rw [← e]; exact hv)) hv e
theorem VarsOnce.new {R : List Rw} (h : VarsOnce R) {r : Rw} (hr : ∀ x ∈ R, x.node ≠ r.node) : VarsOnce (R ++ [r]) := by
  have hl : ∀ (k : Nat) (x : Rw), (R ++ [r])[k]? = some x → R[k]? = some x ∨ (k = R.length ∧ x = r) := by
    intro k x hk
    by_cases hlt : k < R.length
    · rw [List.getElem?_append_left hlt] at hk; exact Or.inl hk
    · rw [List.getElem?_append_right (by omega)] at hk
      have : k - R.length = 0 := by
        by_cases h0 : k - R.length = 0
        · exact h0
        · rw [List.getElem?_eq_none (by simp; omega)] at hk; simp at hk
      rw [this] at hk
      simp at hk
      exact Or.inr ⟨by omega, hk.symm⟩
  intro i j ri rj h1 h2 hv e
  rcases hl i ri h1 with a | ⟨a, rfl⟩ <;> rcases hl j rj h2 with b | ⟨b, rfl⟩
  · exact h i j ri rj a b hv e
  · exact absurd e (hr ri (List.mem_of_getElem? a))
  · exact absurd e.symm (hr rj (List.mem_of_getElem? b))
  · omega
theorem VarsOnce.parts {R : List Rw} (h : VarsOnce R) (k : Nat) (ps : List Nat) : VarsOnce (setParts R k ps) := by
  have hl : ∀ (i : Nat) (x : Rw), (setParts R k ps)[i]? = some x → ∃ y, R[i]? = some y ∧ y.node = x.node := by
    intro i x hi
    rw [setParts_at] at hi
    split at hi
    · rw [Option.map_eq_some_iff] at hi
      obtain ⟨y, h1, rfl⟩ := hi
      exact ⟨y, h1, rfl⟩
    · exact ⟨x, hi, rfl⟩
  intro i j ri rj h1 h2 hv e
  obtain ⟨a, ha, ea⟩ := hl i ri h1
  obtain ⟨b, hb, eb⟩ := hl j rj h2
  exact h i j a b ha hb (by rw [ea]; exact hv) (by rw [ea, eb]; exact e)
theorem starts_map_cons (s : List Nd) (n : Nd) (k : Nat) (hv : wants n = 0) (b : Nat) : starts (n :: s) (k + 1) b = b :: starts s k (b + 1) := by
  rw [starts_succ]
  simp [endGo, hv]

end Go.Proofs.YtjnddclkdofgdaaDoor

namespace Go.Proofs.YtjnddclkdofgdaaDoor
set_option maxRecDepth 100000

def cons0 (x : Nat) (g : Nat → Nat) : Nat → Nat
  | 0 => x
  | i + 1 => g i
def joinG (e : Nat) (g1 g2 : Nat → Nat) (i : Nat) : Nat := if i < e then g1 i else g2 (i - e)
theorem joinG_lo {e : Nat} {g1 g2 : Nat → Nat} {i : Nat} (h : i < e) : joinG e g1 g2 i = g1 i := if_pos h
theorem joinG_hi {e : Nat} {g1 g2 : Nat → Nat} (i : Nat) : joinG e g1 g2 (i + e) = g2 i := by unfold joinG; rw [if_neg (by omega)]; congr 1; omega
theorem map_joinG_lo {e : Nat} {g1 g2 : Nat → Nat} {l : List Nat} (h : ∀ x ∈ l, x < e) : l.map (joinG e g1 g2) = l.map g1 := List.map_congr_left fun x hx => joinG_lo (h x hx)
theorem map_joinG_hi {e : Nat} {g1 g2 : Nat → Nat} (l : List Nat) : (l.map (· + e)).map (joinG e g1 g2) = l.map g2 := by
  rw [List.map_map]; exact List.map_congr_left fun x _ => joinG_hi x

theorem PutI.append {up : Int} {R : List Rw} {k : Nat} {s : List Nd} {R1 : List Rw} {ps : List Nat} {s1 : List Nd} {g1 : Nat → Nat} (h : PutI up R k s R1 ps s1 g1) {j : Nat} {R2 : List Rw} {qs : List Nat} {s2 : List Nd} {g2 : Nat → Nat} (h' : PutI up R1 j s1 R2 qs s2 g2) :
    PutI up R (k + j) s R2 (ps ++ qs) s2 (joinG (endGo s k) g1 g2) := by
  have he := endGo_add s k j
  have hs1 := h.rest
  subst hs1
  have hext : ∀ i, i < endGo s k → R2[g1 i]? = R1[g1 i]? := fun i hi => h'.ext _ (h.lt hi)
  have hget : ∀ i n, ¬ i < endGo s k → s[i]? = some n → (s.drop (endGo s k))[i - endGo s k]? = some n := by
    intro i n hi hn
    rw [List.getElem?_drop, show endGo s k + (i - endGo s k) = i by omega]
    exact hn
  have hj : ∀ i, ¬ i < endGo s k → joinG (endGo s k) g1 g2 i = g2 (i - endGo s k) := fun i hi => if_neg hi
  refine ⟨(full_add s k j).2 ⟨h.full, h'.full⟩, by rw [h'.rest, List.drop_drop, he], ?_, Nat.le_trans h.more h'.more, fun i hi => by rw [h'.ext i (Nat.lt_of_lt_of_le hi h.more), h.ext i hi], ?_, ?_, ?_, ?_, ?_, fun ho => h'.once (h.once ho)⟩
  · rw [starts_add, List.map_append, map_joinG_lo (fun x hx => by have := (starts_lt k s 0 h.full x hx).2; omega), ← h.ps, starts_shift, map_joinG_hi, ← h'.ps]
  · intro i n hi hn hv
    by_cases hlt : i < endGo s k
    · rw [joinG_lo hlt, hext i hlt]
      exact h.var i n hlt hn hv
    · rw [hj i hlt]
      exact h'.var _ n (by omega) (hget i n hlt hn) hv
  · intro i n hi hn hv
    by_cases hlt : i < endGo s k
    · rw [joinG_lo hlt, hext i hlt]
      obtain ⟨n', h1, h2, h3⟩ := full_at s k i h.full hlt
      rw [hn] at h1
      simp at h1
      subst h1
      rw [map_joinG_lo (fun x hx => by have := (starts_lt _ _ _ h2 x hx).2; omega)]
      exact h.name i n hlt hn hv
    · rw [hj i hlt]
      obtain ⟨h1, h2⟩ := h'.name _ n (by omega) (hget i n hlt hn) hv
      refine ⟨?_, Nat.le_trans h.more h2⟩
      rw [h1, List.drop_drop, show endGo s k + (i - endGo s k + 1) = i + 1 by omega, show i + 1 = (i - endGo s k + 1) + endGo s k by omega, starts_shift _ _ (i - endGo s k + 1), map_joinG_hi]
  · intro i j' n m hi hj' hn hm hvn hvm e
    by_cases h1 : i < endGo s k <;> by_cases h2 : j' < endGo s k
    · rw [joinG_lo h1, joinG_lo h2] at e
      exact h.inj i j' n m h1 h2 hn hm hvn hvm e
    · rw [joinG_lo h1, hj j' h2] at e
      have a := h.lt h1
      have b := (h'.name _ m (by omega) (hget j' m h2 hm) hvm).2
      omega
    · rw [joinG_lo h2, hj i h1] at e
      have a := h.lt h2
      have b := (h'.name _ n (by omega) (hget i n h1 hn) hvn).2
      omega
    · rw [hj i h1, hj j' h2] at e
      have := h'.inj _ _ n m (by omega) (by omega) (hget i n h1 hn) (hget j' m h2 hm) hvn hvm e
      omega
  · intro r h1 h2
    by_cases hr : r < R1.length
    · obtain ⟨i, hi, e⟩ := h.onto r h1 hr
      exact ⟨i, by omega, by rw [joinG_lo hi]; exact e⟩
    · obtain ⟨i, hi, e⟩ := h'.onto r (by omega) h2
      exact ⟨i + endGo s k, by omega, by rw [joinG_hi]; exact e⟩
  · intro r x h1 h2
    by_cases hr : r < R1.length
    · rw [h'.ext r hr] at h2
      exact h.fresh r x h1 h2
    · exact h'.fresh r x (by omega) h2
theorem PutI.old {up : Int} {R : List Rw} {n : Nd} {i : Nat} {s : List Nd} (hv : varB n = true) (hi : ∃ r, R[i]? = some r ∧ r.node = shN up n) : PutI up R 1 (n :: s) R [i] s (fun _ => i) := by
  have he : endGo (n :: s) 1 = 1 := by simp [endGo, wants_var hv]
  refine ⟨by simp [fullT, wants_var hv], by rw [he]; rfl, rfl, Nat.le_refl _, fun _ _ => rfl, ?_, ?_, ?_, fun r h1 h2 => by omega, fun r x h1 h2 => ?_, id⟩
  · intro j m hj hm hvm
    rw [he] at hj
    have : j = 0 := by omega
    subst this
    simp at hm
    subst hm
    exact hi
  · intro j m hj hm hvm
    rw [he] at hj
    have : j = 0 := by omega
    subst this
    simp at hm
    subst hm
    rw [hv] at hvm; cases hvm
  · intro j j' _ _ hj hj' _ _ _ _ _
    omega
  · rw [List.getElem?_eq_none h1] at h2; cases h2
theorem PutI.new {up : Int} {R : List Rw} {n : Nd} {s : List Nd} (hv : varB n = true) (hno : ∀ r ∈ R, r.node ≠ shN up n) : PutI up R 1 (n :: s) (R ++ [⟨shN up n, R.length, []⟩]) [R.length] s (fun _ => R.length) := by
  have he : endGo (n :: s) 1 = 1 := by simp [endGo, wants_var hv]
  refine ⟨by simp [fullT, wants_var hv], by rw [he]; rfl, rfl, by simp, fun i hi => by rw [List.getElem?_append_left hi], ?_, ?_, ?_, ?_, ?_, fun h => h.new hno⟩
  · intro j m hj hm hvm
    rw [he] at hj
    have : j = 0 := by omega
    subst this
    simp at hm
    subst hm
    exact ⟨⟨shN up n, R.length, []⟩, by simp, rfl⟩
  · intro j m hj hm hvm
    rw [he] at hj
    have : j = 0 := by omega
    subst this
    simp at hm
    subst hm
    rw [hv] at hvm; cases hvm
  · intro j j' _ _ hj hj' _ _ _ _ _
    omega
  · intro r h1 h2
    exact ⟨0, by omega, by simp at h2; omega⟩
  · intro r x h1 h2
    have hl := (List.getElem?_eq_some_iff.1 h2).1
    simp at hl
    have : r = R.length := by omega
    subst this
    simp at h2
    subst h2
    exact ⟨rfl, fun _ => rfl⟩
theorem PutI.name1 {up : Int} {R : List Rw} {n : Nd} {s : List Nd} {R1 : List Rw} {qs : List Nat} {s1 : List Nd} {g1 : Nat → Nat} (hv : varB n = false) (h : PutI up (R ++ [⟨n, R.length, []⟩]) (wants n) s R1 qs s1 g1) :
    PutI up R 1 (n :: s) (setParts R1 R.length qs) [R.length] s1 (cons0 R.length g1) := by
  have he : endGo (n :: s) 1 = 1 + endGo s (wants n) := by simp [endGo]
  have hm := h.more
  simp at hm
  have hget : R1[R.length]? = some ⟨n, R.length, []⟩ := by rw [h.ext _ (by simp)]; simp
  have hsh : ∀ (t : List Nd) (q b : Nat), (starts t q (b + 1)).map (cons0 R.length g1) = (starts t q b).map g1 := by
    intro t q b
    rw [starts_shift, List.map_map]; rfl
  refine ⟨by simp only [fullT]; rw [Nat.zero_add]; exact h.full, by rw [he, h.rest, Nat.add_comm, List.drop_succ_cons], rfl, by rw [setParts_length]; omega, fun i hi => ?_, ?_, ?_, ?_, ?_, ?_, fun ho => (h.once (ho.name hv)).parts _ _⟩
  · rw [setParts_at, if_neg (by omega), h.ext i (by simp; omega), List.getElem?_append_left hi]
  · intro j m hj hmj hvm
    cases j with
    | zero => simp at hmj; subst hmj; rw [hv] at hvm; cases hvm
    | succ j =>
      obtain ⟨r, h1, h2⟩ := h.var j m (by omega) (by simpa using hmj) hvm
      simp only [cons0]
      rw [setParts_at]
      split
      · rw [h1]; exact ⟨_, rfl, h2⟩
      · exact ⟨r, h1, h2⟩
  · intro j m hj hmj hvm
    cases j with
    | zero =>
      simp at hmj
      subst hmj
      simp only [cons0]
      rw [setParts_at, if_pos rfl, hget, hsh, h.ps]
      exact ⟨rfl, Nat.le_refl _⟩
    | succ j =>
      obtain ⟨h1, h2⟩ := h.name j m (by omega) (by simpa using hmj) hvm
      simp at h2
      simp only [cons0]
      rw [setParts_at, if_neg (by omega), h1, hsh]
      exact ⟨rfl, by omega⟩
  · intro i j a b hi hj ha hb hva hvb e
    cases i with
    | zero =>
      cases j with
      | zero => rfl
      | succ j =>
        have := (h.name j b (by omega) (by simpa using hb) hvb).2
        simp [cons0] at e this
        omega
    | succ i =>
      cases j with
      | zero =>
        have := (h.name i a (by omega) (by simpa using ha) hva).2
        simp [cons0] at e this
        omega
      | succ j =>
        have := h.inj i j a b (by omega) (by omega) (by simpa using ha) (by simpa using hb) hva hvb e
        omega
  · intro r h1 h2
    rw [setParts_length] at h2
    by_cases hr : r = R.length
    · exact ⟨0, by omega, hr.symm⟩
    · obtain ⟨i, hi, e⟩ := h.onto r (by simp; omega) h2
      exact ⟨i + 1, by omega, e⟩
  · intro r x h1 h2
    rw [setParts_at] at h2
    by_cases hr : r = R.length
    · subst hr
      rw [if_pos rfl, hget] at h2
      simp at h2
      subst h2
      exact ⟨rfl, fun e => by simp only at e; rw [hv] at e; cases e⟩
    · rw [if_neg hr] at h2
      exact h.fresh r x (by simp; omega) h2
theorem Put.inv {up : Int} {R : List Rw} {k : Nat} {s : List Nd} {R' : List Rw} {ps : List Nat} {s' : List Nd} (h : Put up R k s R' ps s') : ∃ g, PutI up R k s R' ps s' g := by
  induction h with
  | nil R s =>
    refine ⟨fun _ => 0, ⟨full_zero _, by simp, rfl, Nat.le_refl _, fun _ _ => rfl, ?_, ?_, ?_, fun r h1 h2 => by omega, fun r x h1 h2 => ?_, id⟩⟩
    · intro i n hi; simp at hi
    · intro i n hi; simp at hi
    · intro i j n m hi; simp at hi
    · rw [List.getElem?_eq_none h1] at h2; cases h2
  | @old R n i k s R' ps s' a b _ ih =>
    obtain ⟨g, hg⟩ := ih
    rw [Nat.add_comm]
    exact ⟨_, (PutI.old a b).append hg⟩
  | @new R n k s R' ps s' a b _ ih =>
    obtain ⟨g, hg⟩ := ih
    rw [Nat.add_comm]
    exact ⟨_, (PutI.new a b).append hg⟩
  | @name R n k s R1 qs s1 R' ps s' a _ _ ih1 ih2 =>
    obtain ⟨g1, hg1⟩ := ih1
    obtain ⟨g2, hg2⟩ := ih2
    rw [Nat.add_comm]
    exact ⟨_, (PutI.name1 a hg1).append hg2⟩

end Go.Proofs.YtjnddclkdofgdaaDoor

namespace Go.Proofs.YtjnddclkdofgdaaDoor
set_option maxRecDepth 100000

/-- What is the same by some pairs alone. -/
inductive Eqv (B : Nat → Nat → Prop) : Nat → Nat → Prop
  | refl (i) : Eqv B i i
  | base {i j} : B i j → Eqv B i j
  | symm {i j} : Eqv B i j → Eqv B j i
  | trans {i j k} : Eqv B i j → Eqv B j k → Eqv B i k
theorem Eqv.le {B R : Nat → Nat → Prop} (h1 : ∀ i, R i i) (h2 : ∀ i j, R i j → R j i) (h3 : ∀ i j k, R i j → R j k → R i k) (hB : ∀ i j, B i j → R i j) {i j : Nat} (h : Eqv B i j) : R i j := by
  induction h with
  | refl i => exact h1 i
  | base h => exact hB _ _ h
  | symm _ ih => exact h2 _ _ ih
  | trans _ _ a b => exact h3 _ _ _ a b
theorem Eqv.mono {B B' : Nat → Nat → Prop} (h : ∀ i j, B i j → Eqv B' i j) {i j : Nat} (k : Eqv B i j) : Eqv B' i j := k.le Eqv.refl (fun _ _ => Eqv.symm) (fun _ _ _ => Eqv.trans) h

/-- The graph of nodes, one term behind the other. -/
def pgr (L : List Nd) : Gr := ⟨fun i => (L[i]?).getD (⟨#[]⟩, 0), fun i => match L[i]? with | some n => starts (L.drop (i + 1)) (wants n) (i + 1) | none => []⟩
theorem pgr_named {L : List Nd} {i : Nat} (h : (pgr L).named i) : ∃ n, L[i]? = some n ∧ varB n = false := by
  unfold Gr.named pgr at h
  simp only at h
  cases hl : L[i]? with
  | none => rw [hl] at h; simp only [Option.getD_none] at h; rw [varB_new] at h; cases h
  | some n => rw [hl] at h; exact ⟨n, rfl, h⟩
theorem pgr_isNamed {L : List Nd} {i : Nat} {n : Nd} (h : L[i]? = some n) : (pgr L).named i ↔ varB n = false := by
  unfold Gr.named pgr; simp [h]
theorem pgr_lab {L : List Nd} {i : Nat} {n : Nd} (h : L[i]? = some n) : (pgr L).lab i = n := by simp [pgr, h]
theorem pgr_ch {L : List Nd} {i : Nat} {n : Nd} (h : L[i]? = some n) : (pgr L).ch i = starts (L.drop (i + 1)) (wants n) (i + 1) := by simp [pgr, h]
theorem pgr_arity (L : List Nd) : (pgr L).Arity := by
  intro i j hi hj e
  obtain ⟨n, h1, _⟩ := pgr_named hi
  obtain ⟨m, h2, _⟩ := pgr_named hj
  rw [pgr_lab h1, pgr_lab h2] at e
  rw [pgr_ch h1, pgr_ch h2, starts_length, starts_length, e]

/-- Places that point at others, up to roots. -/
structure Forest (F : List Nat) (rt d : Nat → Nat) : Prop where
  lt : ∀ p q : Nat, F[p]? = some q → q < F.length
  root : ∀ p : Nat, F[p]? = some p → rt p = p
  step : ∀ p q : Nat, F[p]? = some q → q ≠ p → rt p = rt q ∧ d q < d p
  out : ∀ p : Nat, F.length ≤ p → rt p = p
theorem Forest.isRoot {F : List Nat} {rt d : Nat → Nat} (h : Forest F rt d) : ∀ (n p : Nat), d p ≤ n → p < F.length → F[rt p]? = some (rt p) := by
  intro n
  induction n with
  | zero =>
    intro p hd hp
    obtain ⟨q, hq⟩ : ∃ q, F[p]? = some q := ⟨F[p], List.getElem?_eq_getElem hp⟩
    by_cases e : q = p
    · subst e; rw [h.root _ hq]; exact hq
    · have := (h.step p q hq e).2; omega
  | succ n ih =>
    intro p hd hp
    obtain ⟨q, hq⟩ : ∃ q, F[p]? = some q := ⟨F[p], List.getElem?_eq_getElem hp⟩
    by_cases e : q = p
    · subst e; rw [h.root _ hq]; exact hq
    · have hs := h.step p q hq e
      rw [hs.1]
      exact ih q (by omega) (h.lt p q hq)
theorem Forest.rootAt {F : List Nat} {rt d : Nat → Nat} (h : Forest F rt d) {p : Nat} (hp : p < F.length) : F[rt p]? = some (rt p) := h.isRoot _ p (Nat.le_refl _) hp
theorem Forest.rt_lt {F : List Nat} {rt d : Nat → Nat} (h : Forest F rt d) {p : Nat} (hp : p < F.length) : rt p < F.length := (List.getElem?_eq_some_iff.1 (h.rootAt hp)).1
theorem Forest.rt_rt {F : List Nat} {rt d : Nat → Nat} (h : Forest F rt d) (p : Nat) : rt (rt p) = rt p := by
  by_cases hp : p < F.length
  · exact h.root _ (h.rootAt hp)
  · rw [h.out p (by omega), h.out p (by omega)]
/-- One root comes to point at another. -/
def rtJ (rt : Nat → Nat) (a b p : Nat) : Nat := if rt p = a then b else rt p
def dJ (rt d : Nat → Nat) (a b p : Nat) : Nat := if rt p = a then d p + d b + 1 else d p
theorem Forest.join {F : List Nat} {rt d : Nat → Nat} (h : Forest F rt d) {a b : Nat} (ha : F[a]? = some a) (hb : F[b]? = some b) (hne : a ≠ b) : Forest (F.set a b) (rtJ rt a b) (dJ rt d a b) := by
  have hbl := (List.getElem?_eq_some_iff.1 hb).1
  have hal := (List.getElem?_eq_some_iff.1 ha).1
  have hra := h.root a ha
  have hrb := h.root b hb
  refine ⟨fun p q hq => ?_, fun p hp => ?_, fun p q hq hpq => ?_, fun p hp => ?_⟩
  · rw [List.getElem?_set] at hq
    rw [List.length_set]
    split at hq
    · simp at hq; omega
    · exact h.lt p q hq
  · rw [List.getElem?_set] at hp
    split at hp
    · rename_i e; subst e; simp at hp; exact absurd hp.symm hne
    · rename_i e
      have := h.root p hp
      unfold rtJ
      rw [this, if_neg (fun x => e x.symm)]
  · rw [List.getElem?_set] at hq
    split at hq
    · rename_i e; subst e
      simp at hq
      subst hq
      unfold rtJ dJ
      rw [hra, hrb, if_pos rfl, if_neg (fun x => hne x.symm), if_neg (fun x => hne x.symm), if_pos rfl]
      exact ⟨rfl, by omega⟩
    · obtain ⟨h1, h2⟩ := h.step p q hq hpq
      unfold rtJ dJ
      rw [h1]
      refine ⟨rfl, ?_⟩
      split <;> omega
  · rw [List.length_set] at hp
    unfold rtJ
    rw [h.out p hp, if_neg (by omega)]
theorem rtJ_iff {rt : Nat → Nat} {a b : Nat} (p q : Nat) : rtJ rt a b p = rtJ rt a b q ↔ rt p = rt q ∨ (rt p = a ∧ rt q = b) ∨ (rt p = b ∧ rt q = a) := by
  unfold rtJ
  by_cases h1 : rt p = a <;> by_cases h2 : rt q = a
  · simp [h1, h2]
  · rw [if_pos h1, if_neg h2, h1]
    constructor
    · intro e; exact Or.inr (Or.inl ⟨rfl, e.symm⟩)
    · rintro (e | ⟨_, e⟩ | ⟨_, e⟩)
      · exact absurd e.symm h2
      · exact e.symm
      · exact absurd e h2
  · rw [if_neg h1, if_pos h2, h2]
    constructor
    · intro e; exact Or.inr (Or.inr ⟨e, rfl⟩)
    · rintro (e | ⟨e, _⟩ | ⟨e, _⟩)
      · exact absurd e h1
      · exact absurd e h1
      · exact e
  · rw [if_neg h1, if_neg h2]
    constructor
    · exact Or.inl
    · rintro (e | ⟨e, _⟩ | ⟨_, e⟩)
      · exact e
      · exact absurd e h1
      · exact absurd e h2
/-- How many roots there are. -/
def rootsN (F : List Nat) : Nat := (List.range F.length).countP fun p => F[p]? == some p
theorem rootsN_join {F : List Nat} {a b : Nat} (ha : F[a]? = some a) (hne : a ≠ b) : rootsN (F.set a b) < rootsN F := by
  have hal := (List.getElem?_eq_some_iff.1 ha).1
  unfold rootsN
  rw [List.length_set]
  refine countP_lt _ _ _ (fun p _ hp => ?_) a (by simpa using hal) ?_ ?_
  · rw [List.getElem?_set] at hp
    split at hp
    · rename_i e; subst e; simp at hp; omega
    · exact hp
  · rw [List.getElem?_set]; simp [hal]; omega
  · simp [ha]

/-- Classes whose names go together, but for some pairs that are still to be joined. -/
def ClMod (G : Gr) (E Q : Nat → Nat → Prop) : Prop := ∀ x y, E x y → G.named x → G.named y → G.lab x = G.lab y ∧ ∀ (k p q : Nat), (G.ch x)[k]? = some p → (G.ch y)[k]? = some q → Eqv (fun i j => E i j ∨ Q i j) p q
structure IsEq (E : Nat → Nat → Prop) : Prop where
  refl : ∀ i, E i i
  symm : ∀ i j, E i j → E j i
  trans : ∀ i j k, E i j → E j k → E i k
theorem isEq_rt (rt : Nat → Nat) : IsEq fun p q => rt p = rt q := ⟨fun _ => rfl, fun _ _ h => h.symm, fun _ _ _ h k => h.trans k⟩
def Add1 (Q : Nat → Nat → Prop) (a b : Nat) (i j : Nat) : Prop := Q i j ∨ (i = a ∧ j = b)
theorem ClMod.mono {G : Gr} {E Q Q' : Nat → Nat → Prop} (h : ClMod G E Q) (k : ∀ i j, Q i j → Q' i j) : ClMod G E Q' := fun x y e hx hy => by
  obtain ⟨h1, h2⟩ := h x y e hx hy
  exact ⟨h1, fun n p q hp hq => (h2 n p q hp hq).mono fun i j hij => Eqv.base (hij.imp id (k i j))⟩
theorem ClMod.same {G : Gr} {E Q : Nat → Nat → Prop} {a b : Nat} (h : ClMod G E (Add1 Q a b)) (hab : E a b) : ClMod G E Q := fun x y e hx hy => by
  obtain ⟨h1, h2⟩ := h x y e hx hy
  refine ⟨h1, fun n p q hp hq => (h2 n p q hp hq).mono fun i j hij => ?_⟩
  rcases hij with hij | hij | ⟨rfl, rfl⟩
  · exact Eqv.base (Or.inl hij)
  · exact Eqv.base (Or.inr hij)
  · exact Eqv.base (Or.inl hab)
/-- Classes that became one. -/
def Merged (E E' : Nat → Nat → Prop) (a b : Nat) : Prop := ∀ p q, E' p q ↔ E p q ∨ (E p a ∧ E q b) ∨ (E p b ∧ E q a)
theorem Merged.le {E E' : Nat → Nat → Prop} {a b : Nat} (h : Merged E E' a b) {p q : Nat} (e : E p q) : E' p q := (h p q).2 (Or.inl e)
theorem Merged.ab {E E' : Nat → Nat → Prop} {a b : Nat} (h : Merged E E' a b) (hE : IsEq E) : E' a b := (h a b).2 (Or.inr (Or.inl ⟨hE.refl a, hE.refl b⟩))
theorem Merged.eqv {E E' Q Q' : Nat → Nat → Prop} {a b : Nat} (h : Merged E E' a b) (hE : IsEq E) (hQ : ∀ i j, Q i j → Q' i j) {p q : Nat} (e : Eqv (fun i j => E i j ∨ Add1 Q a b i j) p q) : Eqv (fun i j => E' i j ∨ Q' i j) p q :=
  e.mono fun i j hij => by
    rcases hij with hij | hij | ⟨rfl, rfl⟩
    · exact Eqv.base (Or.inl (h.le hij))
    · exact Eqv.base (Or.inr (hQ _ _ hij))
    · exact Eqv.base (Or.inl (h.ab hE))
theorem ClMod.var {G : Gr} {E E' Q : Nat → Nat → Prop} {a b : Nat} (h : ClMod G E (Add1 Q a b)) (hE : IsEq E) (hm : Merged E E' a b) (hv : (∀ p, E p a → ¬ G.named p) ∨ ∀ p, E p b → ¬ G.named p) : ClMod G E' Q := fun x y e hx hy => by
  rcases (hm x y).1 e with e | ⟨e1, e2⟩ | ⟨e1, e2⟩
  · obtain ⟨h1, h2⟩ := h x y e hx hy
    exact ⟨h1, fun n p q hp hq => hm.eqv hE (fun _ _ => id) (h2 n p q hp hq)⟩
  · rcases hv with hv | hv
    · exact absurd hx (hv x e1)
    · exact absurd hy (hv y e2)
  · rcases hv with hv | hv
    · exact absurd hy (hv y e2)
    · exact absurd hx (hv x e1)
/-- The parts of two names, from the k-th on. -/
def PartsQ (G : Gr) (Q : Nat → Nat → Prop) (a b k : Nat) (i j : Nat) : Prop := Q i j ∨ ∃ n, k ≤ n ∧ (G.ch a)[n]? = some i ∧ (G.ch b)[n]? = some j
theorem ClMod.name {G : Gr} {E E' Q : Nat → Nat → Prop} {a b ra rb : Nat} (h : ClMod G E (Add1 Q a b)) (hE : IsEq E) (hm : Merged E E' a b) (hA : G.Arity) (h1 : E a ra) (h2 : E b rb) (n1 : G.named ra) (n2 : G.named rb) (hl : G.lab ra = G.lab rb) : ClMod G E' (PartsQ G Q ra rb 0) := by
  have key : ∀ x y, E x a → E y b → G.named x → G.named y → G.lab x = G.lab y ∧ ∀ (k p q : Nat), (G.ch x)[k]? = some p → (G.ch y)[k]? = some q → Eqv (fun i j => E' i j ∨ PartsQ G Q ra rb 0 i j) p q := by
    intro x y ex ey hx hy
    obtain ⟨a1, a2⟩ := h x ra (hE.trans _ _ _ ex h1) hx n1
    obtain ⟨b1, b2⟩ := h y rb (hE.trans _ _ _ ey h2) hy n2
    refine ⟨a1.trans (hl.trans b1.symm), fun k p q hp hq => ?_⟩
    have hk1 : k < (G.ch ra).length := by rw [← hA x ra hx n1 a1]; exact (List.getElem?_eq_some_iff.1 hp).1
    have hk2 : k < (G.ch rb).length := by rw [← hA y rb hy n2 b1]; exact (List.getElem?_eq_some_iff.1 hq).1
    have c1 := hm.eqv hE (Q' := PartsQ G Q ra rb 0) (fun i j hij => Or.inl hij) (a2 k p _ hp (List.getElem?_eq_getElem hk1))
    have c2 := hm.eqv hE (Q' := PartsQ G Q ra rb 0) (fun i j hij => Or.inl hij) (b2 k q _ hq (List.getElem?_eq_getElem hk2))
    exact c1.trans ((Eqv.base (Or.inr (Or.inr ⟨k, Nat.zero_le _, List.getElem?_eq_getElem hk1, List.getElem?_eq_getElem hk2⟩))).trans c2.symm)
  intro x y e hx hy
  rcases (hm x y).1 e with e | ⟨e1, e2⟩ | ⟨e1, e2⟩
  · obtain ⟨h3, h4⟩ := h x y e hx hy
    exact ⟨h3, fun n p q hp hq => hm.eqv hE (fun i j hij => Or.inl hij) (h4 n p q hp hq)⟩
  · exact key x y e1 e2 hx hy
  · obtain ⟨h3, h4⟩ := key y x e2 e1 hy hx
    exact ⟨h3.symm, fun k p q hp hq => (h4 k q p hq hp).symm⟩
theorem ClMod.part {G : Gr} {E Q : Nat → Nat → Prop} {a b k p q : Nat} (h : ClMod G E (PartsQ G Q a b k)) (hp : (G.ch a)[k]? = some p) (hq : (G.ch b)[k]? = some q) : ClMod G E (Add1 (PartsQ G Q a b (k + 1)) p q) :=
  h.mono fun i j hij => by
    rcases hij with hij | ⟨n, h1, h2, h3⟩
    · exact Or.inl (Or.inl hij)
    · by_cases e : n = k
      · subst e
        rw [hp] at h2
        rw [hq] at h3
        simp at h2 h3
        exact Or.inr ⟨h2.symm, h3.symm⟩
      · exact Or.inl (Or.inr ⟨n, by omega, h2, h3⟩)
theorem ClMod.allParts {G : Gr} {E Q : Nat → Nat → Prop} {a b k : Nat} (h : ClMod G E (PartsQ G Q a b k)) (hk : (G.ch a).length ≤ k) : ClMod G E Q :=
  h.mono fun i j hij => by
    rcases hij with hij | ⟨n, h1, h2, _⟩
    · exact hij
    · have := (List.getElem?_eq_some_iff.1 h2).1; omega
/-- When nothing is left to be joined, the classes are what is the same. -/
theorem ClMod.done {G : Gr} {E B : Nat → Nat → Prop} (h : ClMod G E fun _ _ => False) (hE : IsEq E) (hs : ∀ i j, E i j → Cl G B i j) (hb : ∀ i j, B i j → E i j) : (∀ i j, E i j ↔ Cl G B i j) ∧ NoClash G (Cl G B) := by
  have hd : Down G E := ⟨hE.refl, hE.symm, hE.trans, fun i j k p q hij hi hj hp hq => ((h i j hij hi hj).2 k p q hp hq).le hE.refl hE.symm hE.trans fun i j hij => by
    rcases hij with hij | hij
    · exact hij
    · exact hij.elim⟩
  have hiff : ∀ i j, E i j ↔ Cl G B i j := fun i j => ⟨hs i j, Cl.le hd hb⟩
  exact ⟨hiff, fun i j hij hi hj => (h i j ((hiff i j).2 hij) hi hj).1⟩

end Go.Proofs.YtjnddclkdofgdaaDoor
