/- Covering: terms in the place of variables, by which literals come to be among others. -/
import Derived.Test.YtjnddclkdofgdaaDoorRTerm
namespace Go.Proofs.YtjnddclkdofgdaaDoor

/-- How many nodes the first q terms take. -/
def endGo : List Nd → Nat → Nat
  | _, 0 => 0
  | [], _ + 1 => 0
  | n :: r, q + 1 => 1 + endGo r (q + wants n)
@[simp] theorem endGo_zero (l : List Nd) : endGo l 0 = 0 := by cases l <;> rfl
theorem termGo_cons (n : Nd) (r : List Nd) (q : Nat) : termGo (n :: r) (q + 1) = (nodeOk n && termGo r (q + wants n)) := by
  simp only [termGo]
  cases nodeOk n <;> simp
theorem term_split (l : List Nd) : ∀ p q, termGo l (p + q) = true → termGo (l.take (endGo l p)) p = true ∧ termGo (l.drop (endGo l p)) q = true := by
  induction l with
  | nil =>
    intro p q h
    cases p with
    | zero => simpa [termGo] using h
    | succ p => simp [termGo] at h
  | cons n r ih =>
    intro p q h
    cases p with
    | zero => simpa [termGo] using h
    | succ p =>
      rw [show p + 1 + q = (p + q) + 1 by omega, termGo_cons, Bool.and_eq_true] at h
      have := ih (p + wants n) q (by rw [← h.2]; congr 1; omega)
      simp only [endGo, Nat.add_comm 1, List.take_succ_cons, List.drop_succ_cons]
      exact ⟨by rw [termGo_cons, h.1, this.1]; rfl, this.2⟩
theorem term_end (t : List Nd) : ∀ p s, termGo t p = true → endGo (t ++ s) p = t.length := by
  induction t with
  | nil => intro p s h; simp [termGo] at h; subst h; simp
  | cons n r ih =>
    intro p s h
    cases p with
    | zero => simp [termGo] at h
    | succ p =>
      rw [termGo_cons, Bool.and_eq_true] at h
      simp [endGo, ih _ s h.2]
      omega
theorem endGo_le (l : List Nd) : ∀ q, endGo l q ≤ l.length := by
  induction l with
  | nil => intro q; cases q <;> simp [endGo]
  | cons n r ih => intro q; cases q with
    | zero => simp
    | succ q => have := ih (q + wants n); simp [endGo]; omega
theorem endGo_pos (l : List Nd) (q : Nat) (h : l ≠ []) : 0 < endGo l (q + 1) := by
  cases l with
  | nil => exact absurd rfl h
  | cons n r => simp [endGo]; omega
theorem term_ne {l : List Nd} {q : Nat} (h : termGo l (q + 1) = true) : l ≠ [] := by
  rintro rfl; simp [termGo] at h

/-- What variables are. -/
abbrev Bd' := List (Int × List Nd)
def look (L : Bd') (x : Int) : Option (List Nd) := L.lookup x
theorem look_snoc (L : Bd') (x y : Int) (t : List Nd) : look (L ++ [(x, t)]) y = (look L y).or (if y = x then some t else none) := by
  unfold look
  rw [List.lookup_append]
  simp [List.lookup]
  by_cases h : y = x
  · simp [h]
  · rw [show (y == x) = false by simpa using h]
    simp [h]
theorem look_append (L M : Bd') (y : Int) : look (L ++ M) y = (look L y).or (look M y) := by
  unfold look; rw [List.lookup_append]
/-- Terms in the place of variables. -/
def subst (σ : Int → List Nd) (l : List Nd) : List Nd := l.flatMap fun n => if varB n then σ n.2 else [n]
theorem subst_cons (σ : Int → List Nd) (n : Nd) (r : List Nd) : subst σ (n :: r) = (if varB n then σ n.2 else [n]) ++ subst σ r := by simp [subst]
def Tm (σ : Int → List Nd) : Prop := ∀ x, termGo (σ x) 1 = true
def Ext (σ : Int → List Nd) (L : Bd') : Prop := ∀ x t, look L x = some t → σ x = t
theorem Ext.snoc {σ : Int → List Nd} {L : Bd'} {x : Int} {t : List Nd} (h : look L x = none) : Ext σ (L ++ [(x, t)]) ↔ Ext σ L ∧ σ x = t := by
  constructor
  · intro k
    refine ⟨fun y s hy => k y s (by rw [look_snoc, hy]; rfl), k x t (by rw [look_snoc, h]; simp)⟩
  · rintro ⟨k, e⟩ y s hy
    rw [look_snoc] at hy
    cases hl : look L y with
    | some u => rw [hl] at hy; simp at hy; rw [← hy]; exact k y u hl
    | none =>
      rw [hl] at hy
      by_cases hxy : y = x
      · subst hxy; simp at hy; rw [← hy]; exact e
      · simp [hxy] at hy
theorem Ext.left {σ : Int → List Nd} {L M : Bd'} (h : Ext σ (L ++ M)) : Ext σ L := fun x t hx => h x t (by rw [look_append, hx]; rfl)

/-- What more variables are, so that a term is another one. -/
def matchGo : List Nd → List Nd → Bd' → Option Bd'
  | [], [], L => some L
  | [], _ :: _, _ => none
  | n :: r, b, L =>
    if varB n then
      match look L n.2 with
      | some t => if t = b.take (endGo b 1) then matchGo r (b.drop (endGo b 1)) L else none
      | none => matchGo r (b.drop (endGo b 1)) (L ++ [(n.2, b.take (endGo b 1))])
    else match b with
      | [] => none
      | m :: b' => if n = m then matchGo r b' L else none
theorem matchGo_known {n : Nd} {r b : List Nd} {L : Bd'} {t : List Nd} (hv : varB n = true) (hl : look L n.2 = some t) : matchGo (n :: r) b L = if t = b.take (endGo b 1) then matchGo r (b.drop (endGo b 1)) L else none := by
  rw [matchGo.eq_def]; simp [hv, hl]
theorem matchGo_new {n : Nd} {r b : List Nd} {L : Bd'} (hv : varB n = true) (hl : look L n.2 = none) : matchGo (n :: r) b L = matchGo r (b.drop (endGo b 1)) (L ++ [(n.2, b.take (endGo b 1))]) := by
  rw [matchGo.eq_def]; simp [hv, hl]
theorem matchGo_name {n m : Nd} {r b : List Nd} {L : Bd'} (hv : varB n = false) : matchGo (n :: r) (m :: b) L = if n = m then matchGo r b L else none := by
  rw [matchGo.eq_def]; simp [hv]

theorem var_split {σ : Int → List Nd} (hσ : Tm σ) {n : Nd} {r b : List Nd} (hv : varB n = true) : subst σ (n :: r) = b ↔ σ n.2 = b.take (endGo b 1) ∧ subst σ r = b.drop (endGo b 1) := by
  rw [subst_cons, if_pos hv]
  constructor
  · rintro rfl
    rw [term_end _ _ _ (hσ n.2)]
    simp
  · rintro ⟨h1, h2⟩
    rw [h1, h2, List.take_append_drop]
theorem wants_var {n : Nd} (hv : varB n = true) : wants n = 0 := by simp [wants, hv]

theorem match_spec (a : List Nd) : ∀ (b : List Nd) (q : Nat) (L : Bd'), termGo a q = true → termGo b q = true →
    (∀ L', matchGo a b L = some L' → ∀ σ, Tm σ → (Ext σ L' ↔ Ext σ L ∧ subst σ a = b)) ∧ (matchGo a b L = none → ∀ σ, Tm σ → Ext σ L → subst σ a ≠ b) := by
  induction a with
  | nil =>
    intro b q L ha hb
    cases q with
    | succ q => simp [termGo] at ha
    | zero =>
      cases b with
      | nil => simp [matchGo, subst]
      | cons m b => simp [termGo] at hb
  | cons n r ih =>
    intro b q L ha hb
    cases q with
    | zero => simp [termGo] at ha
    | succ q =>
      rw [termGo_cons, Bool.and_eq_true] at ha
      by_cases hv : varB n = true
      · have hs := term_split b 1 q (by rw [← hb]; congr 1; omega)
        have hq : termGo r q = true := by simpa [wants_var hv] using ha.2
        cases hl : look L n.2 with
        | some t =>
          rw [matchGo_known hv hl]
          by_cases ht : t = b.take (endGo b 1)
          · rw [if_pos ht]
            obtain ⟨i1, i2⟩ := ih (b.drop (endGo b 1)) q L hq hs.2
            refine ⟨fun L' h σ hσ => ?_, fun h σ hσ he hx => ?_⟩
            · rw [i1 L' h σ hσ, var_split hσ hv]
              constructor
              · rintro ⟨e, f⟩; exact ⟨e, (e _ _ hl).trans ht, f⟩
              · rintro ⟨e, _, f⟩; exact ⟨e, f⟩
            · exact i2 h σ hσ he ((var_split hσ hv).1 hx).2
          · rw [if_neg ht]
            refine ⟨fun L' h => by simp at h, fun _ σ hσ he hx => ht ?_⟩
            rw [← he _ _ hl]
            exact ((var_split hσ hv).1 hx).1
        | none =>
          rw [matchGo_new hv hl]
          obtain ⟨i1, i2⟩ := ih (b.drop (endGo b 1)) q (L ++ [(n.2, b.take (endGo b 1))]) hq hs.2
          refine ⟨fun L' h σ hσ => ?_, fun h σ hσ he hx => ?_⟩
          · rw [i1 L' h σ hσ, Ext.snoc hl, var_split hσ hv, and_assoc]
          · obtain ⟨x1, x2⟩ := (var_split hσ hv).1 hx
            exact i2 h σ hσ ((Ext.snoc hl).2 ⟨he, x1⟩) x2
      · have hv' : varB n = false := by simpa using hv
        cases b with
        | nil => simp [termGo] at hb
        | cons m b =>
          rw [termGo_cons, Bool.and_eq_true] at hb
          rw [matchGo_name hv']
          by_cases hm : n = m
          · subst hm
            rw [if_pos rfl]
            obtain ⟨i1, i2⟩ := ih b (q + wants n) L ha.2 hb.2
            refine ⟨fun L' h σ hσ => ?_, fun h σ hσ he hx => ?_⟩
            · rw [i1 L' h σ hσ, subst_cons, hv']; simp
            · rw [subst_cons, hv'] at hx; simp at hx; exact i2 h σ hσ he hx
          · rw [if_neg hm]
            refine ⟨fun L' h => by simp at h, fun _ σ hσ he hx => ?_⟩
            rw [subst_cons, hv'] at hx; simp at hx; exact hm hx.1

/-- A variable stands in nodes. -/
def inVars (x : Int) (a : List Nd) : Prop := ∃ n ∈ a, varB n = true ∧ n.2 = x
theorem match_grow (a : List Nd) : ∀ (b : List Nd) (q : Nat) (L L' : Bd'), termGo a q = true → termGo b q = true → matchGo a b L = some L' →
    ∃ M, L' = L ++ M ∧ ∀ p ∈ M, inVars p.1 a ∧ look L p.1 = none := by
  induction a with
  | nil =>
    intro b q L L' _ _ h
    cases b with
    | nil => simp [matchGo] at h; exact ⟨[], by simp [h], by simp⟩
    | cons m b => simp [matchGo] at h
  | cons n r ih =>
    intro b q L L' ha hb h
    cases q with
    | zero => simp [termGo] at ha
    | succ q =>
      rw [termGo_cons, Bool.and_eq_true] at ha
      by_cases hv : varB n = true
      · have hs := term_split b 1 q (by rw [← hb]; congr 1; omega)
        have hq : termGo r q = true := by simpa [wants_var hv] using ha.2
        cases hl : look L n.2 with
        | some t =>
          rw [matchGo_known hv hl] at h
          by_cases ht : t = b.take (endGo b 1)
          · rw [if_pos ht] at h
            obtain ⟨M, h1, h2⟩ := ih _ q L L' hq hs.2 h
            exact ⟨M, h1, fun p hp => ⟨by obtain ⟨m, m1, m2⟩ := (h2 p hp).1; exact ⟨m, List.mem_cons_of_mem _ m1, m2⟩, (h2 p hp).2⟩⟩
          · rw [if_neg ht] at h; simp at h
        | none =>
          rw [matchGo_new hv hl] at h
          obtain ⟨M, h1, h2⟩ := ih _ q _ L' hq hs.2 h
          refine ⟨(n.2, b.take (endGo b 1)) :: M, by rw [h1]; simp, fun p hp => ?_⟩
          rcases List.mem_cons.1 hp with rfl | hp
          · exact ⟨⟨n, by simp, hv, rfl⟩, hl⟩
          · refine ⟨by obtain ⟨m, m1, m2⟩ := (h2 p hp).1; exact ⟨m, List.mem_cons_of_mem _ m1, m2⟩, ?_⟩
            have := (h2 p hp).2
            rw [look_snoc] at this
            cases hh : look L p.1 with
            | none => rfl
            | some u => rw [hh] at this; simp at this
      · have hv' : varB n = false := by simpa using hv
        cases b with
        | nil => simp [termGo] at hb
        | cons m b =>
          rw [termGo_cons, Bool.and_eq_true] at hb
          rw [matchGo_name hv'] at h
          by_cases hm : n = m
          · subst hm
            rw [if_pos rfl] at h
            obtain ⟨M, h1, h2⟩ := ih _ _ L L' ha.2 hb.2 h
            exact ⟨M, h1, fun p hp => ⟨by obtain ⟨m, m1, m2⟩ := (h2 p hp).1; exact ⟨m, List.mem_cons_of_mem _ m1, m2⟩, (h2 p hp).2⟩⟩
          · rw [if_neg hm] at h; simp at h

/-- Can literals be made ones of d, where variables are so already? -/
def Cov (d c : List Lt) (L : Bd') : Prop := ∃ σ, Tm σ ∧ Ext σ L ∧ ∀ l ∈ c, (l.1, subst σ l.2) ∈ d
/-- All are atoms. -/
def Tms (c : List Lt) : Prop := ∀ l ∈ c, termGo l.2 1 = true
/-- What a literal is made, if it can be made another. -/
def matchL (x y : Lt) (L : Bd') : Option Bd' := if x.1 = y.1 then matchGo x.2 y.2 L else none
theorem matchL_some {x y : Lt} {L L' : Bd'} (hx : termGo x.2 1 = true) (hy : termGo y.2 1 = true) (h : matchL x y L = some L') (σ : Int → List Nd) (hσ : Tm σ) : Ext σ L' ↔ Ext σ L ∧ (x.1, subst σ x.2) = y := by
  unfold matchL at h
  by_cases hb : x.1 = y.1
  · rw [if_pos hb] at h
    rw [(match_spec x.2 y.2 1 L hx hy).1 L' h σ hσ, Prod.ext_iff]
    simp [hb]
  · rw [if_neg hb] at h; simp at h
theorem matchL_none {x y : Lt} {L : Bd'} (hx : termGo x.2 1 = true) (hy : termGo y.2 1 = true) (h : matchL x y L = none) (σ : Int → List Nd) (hσ : Tm σ) (he : Ext σ L) : (x.1, subst σ x.2) ≠ y := by
  unfold matchL at h
  by_cases hb : x.1 = y.1
  · rw [if_pos hb] at h
    intro e
    exact (match_spec x.2 y.2 1 L hx hy).2 h σ hσ he (by rw [← e])
  · intro e; exact hb (by rw [← e])
theorem matchL_grow {x y : Lt} {L L' : Bd'} (hx : termGo x.2 1 = true) (hy : termGo y.2 1 = true) (h : matchL x y L = some L') : ∃ M, L' = L ++ M ∧ ∀ p ∈ M, inVars p.1 x.2 ∧ look L p.1 = none := by
  unfold matchL at h
  by_cases hb : x.1 = y.1
  · rw [if_pos hb] at h; exact match_grow x.2 y.2 1 L L' hx hy h
  · rw [if_neg hb] at h; simp at h

/-- One literal first. -/
theorem cov_first {d c rest : List Lt} {L : Bd'} {x : Lt} (hd : Tms d) (hx : termGo x.2 1 = true) (hm : ∀ l, l ∈ c ↔ l = x ∨ l ∈ rest) :
    Cov d c L ↔ ∃ y ∈ d, ∃ L', matchL x y L = some L' ∧ Cov d rest L' := by
  constructor
  · rintro ⟨σ, h1, h2, h3⟩
    refine ⟨_, h3 x ((hm x).2 (Or.inl rfl)), ?_⟩
    have hy := hd _ (h3 x ((hm x).2 (Or.inl rfl)))
    cases hL : matchL x (x.1, subst σ x.2) L with
    | none => exact absurd rfl (matchL_none hx hy hL σ h1 h2)
    | some L' => exact ⟨L', rfl, σ, h1, (matchL_some hx hy hL σ h1).2 ⟨h2, rfl⟩, fun l hl => h3 l ((hm l).2 (Or.inr hl))⟩
  · rintro ⟨y, hy, L', hL, σ, h1, h2, h3⟩
    obtain ⟨e, f⟩ := (matchL_some hx (hd y hy) hL σ h1).1 h2
    refine ⟨σ, h1, e, fun l hl => ?_⟩
    rcases (hm l).1 hl with rfl | hl
    · rw [f]; exact hy
    · exact h3 l hl

/-- All that has come to be bound makes the literals others. -/
def Made (d c : List Lt) (L : Bd') : Prop := ∀ σ, Tm σ → Ext σ L → ∀ l ∈ c, (l.1, subst σ l.2) ∈ d
/-- Bindings beyond others, of variables that stand in literals, which were free. -/
def Grown (c : List Lt) (L L' : Bd') : Prop := ∃ M, L' = L ++ M ∧ ∀ p ∈ M, (∃ l ∈ c, inVars p.1 l.2) ∧ look L p.1 = none
/-- No variable that is free stands in both. -/
def Apart (L : Bd') (g r : List Lt) : Prop := ∀ x ∈ g, ∀ y ∈ r, ∀ n ∈ x.2, varB n = true → look L n.2 = none → n ∉ y.2
theorem subst_congr {σ τ : Int → List Nd} {l : List Nd} (h : ∀ n ∈ l, varB n = true → σ n.2 = τ n.2) : subst σ l = subst τ l := by
  induction l with
  | nil => rfl
  | cons n r ih =>
    rw [subst_cons, subst_cons, ih fun m hm => h m (List.mem_cons_of_mem _ hm)]
    by_cases hv : varB n = true
    · rw [if_pos hv, if_pos hv, h n (by simp) hv]
    · rw [if_neg hv, if_neg hv]
theorem var_ext {n m : Nd} (hn : varB n = true) (hm : varB m = true) (h : n.2 = m.2) : n = m := by
  obtain ⟨s, x⟩ := n
  obtain ⟨t, y⟩ := m
  simp only at h
  subst h
  have hs : s.toList = t.toList := by
    simp [varB] at hn hm
    rw [hn, hm]
  rw [toList_inj.1 hs]
theorem Grown.refl (c : List Lt) (L : Bd') : Grown c L L := ⟨[], by simp, by simp⟩
theorem Grown.trans {c c' e : List Lt} {L L' L'' : Bd'} (h : Grown c L L') (k : Grown c' L' L'') (h1 : ∀ l ∈ c, l ∈ e) (h2 : ∀ l ∈ c', l ∈ e) : Grown e L L'' := by
  obtain ⟨M, rfl, hM⟩ := h
  obtain ⟨M', rfl, hM'⟩ := k
  refine ⟨M ++ M', by simp, fun p hp => ?_⟩
  rcases List.mem_append.1 hp with hp | hp
  · obtain ⟨⟨l, hl, hx⟩, hn⟩ := hM p hp
    exact ⟨⟨l, h1 l hl, hx⟩, hn⟩
  · obtain ⟨⟨l, hl, hx⟩, hn⟩ := hM' p hp
    refine ⟨⟨l, h2 l hl, hx⟩, ?_⟩
    rw [look_append] at hn
    cases hh : look L p.1 with
    | none => rfl
    | some u => rw [hh] at hn; simp at hn
theorem look_mem {L : Bd'} {x : Int} {t : List Nd} (h : look L x = some t) : (x, t) ∈ L := by
  unfold look at h
  induction L with
  | nil => simp at h
  | cons p r ih =>
    obtain ⟨y, s⟩ := p
    rw [List.lookup_cons] at h
    by_cases hxy : (x == y) = true
    · rw [hxy] at h; simp at h hxy; subst hxy h; simp
    · simp only [hxy] at h
      exact List.mem_cons_of_mem _ (ih h)
theorem Grown.ext {c : List Lt} {L L' : Bd'} (h : Grown c L L') {σ : Int → List Nd} (k : Ext σ L') : Ext σ L := by
  obtain ⟨M, rfl, _⟩ := h; exact k.left
/-- One part is made: the rest alone is looked at. -/
theorem cov_parts {d c g r : List Lt} {L L' : Bd'} (hm : ∀ l, l ∈ c ↔ l ∈ g ∨ l ∈ r) (ha : Apart L g r) (hg : Grown g L L') (hT : ∀ x t, look L' x = some t → termGo t 1 = true) (hM : Made d g L') : Cov d c L ↔ Cov d r L' := by
  constructor
  · rintro ⟨σ, h1, h2, h3⟩
    refine ⟨fun x => (look L' x).getD (σ x), fun x => ?_, fun x t hx => by simp [hx], fun l hl => ?_⟩
    · show termGo ((look L' x).getD (σ x)) 1 = true
      cases hh : look L' x with
      | none => exact h1 x
      | some t => exact hT x t hh
    · have := h3 l ((hm l).2 (Or.inr hl))
      rw [show subst (fun x => (look L' x).getD (σ x)) l.2 = subst σ l.2 from ?_]
      · exact this
      · refine subst_congr fun n hn hv => ?_
        cases hh : look L n.2 with
        | some t =>
          obtain ⟨M, rfl, _⟩ := hg
          show (look (L ++ M) n.2).getD (σ n.2) = σ n.2
          rw [look_append, hh]
          simp only [Option.some_or, Option.getD_some]
          exact (h2 _ _ hh).symm
        | none =>
          cases hk : look L' n.2 with
          | none => simp only [Option.getD_none]
          | some t =>
            exfalso
            obtain ⟨M, rfl, hMM⟩ := hg
            rw [look_append, hh] at hk
            obtain ⟨⟨x, hx, m, hm1, hm2, hm3⟩, _⟩ := hMM _ (look_mem (by simpa using hk))
            simp only at hm3
            have hnm := var_ext hm2 hv hm3
            exact ha x hx l hl m hm1 hm2 (by rw [hm3]; exact hh) (by rw [hnm]; exact hn)
  · rintro ⟨σ, h1, h2, h3⟩
    refine ⟨σ, h1, hg.ext h2, fun l hl => ?_⟩
    rcases (hm l).1 hl with hl | hl
    · exact hM σ h1 h2 l hl
    · exact h3 l hl
theorem cov_nil {d : List Lt} {L : Bd'} (hT : ∀ x t, look L x = some t → termGo t 1 = true) : Cov d [] L := by
  refine ⟨fun x => (look L x).getD [(⟨#[]⟩, 0)], fun x => ?_, fun x t hx => by simp [hx], by simp⟩
  show termGo ((look L x).getD [(⟨#[]⟩, 0)]) 1 = true
  cases hh : look L x with
  | none =>
    have he : (⟨#[]⟩ : ByteArray).toList = [] := by rw [ByteArray.toList_eq]
    simp [termGo, nodeOk, wants, varB, he]
  | some t => exact hT x t hh
/-- What variables are: each once, terms of a size that may be. -/
structure LOk (L : Bd') : Prop where
  keys : ∀ p ∈ L, 0 ≤ p.1 ∧ p.1 < 60
  once : (L.map Prod.fst).Nodup
  terms : ∀ p ∈ L, termGo p.2 1 = true ∧ p.2.length ≤ 60
theorem LOk.nil : LOk [] := ⟨by simp, by simp, by simp⟩
theorem LOk.look {L : Bd'} (h : LOk L) : ∀ x t, look L x = some t → termGo t 1 = true := fun _ _ hx => (h.terms _ (look_mem hx)).1
theorem look_none {L : Bd'} {x : Int} (h : look L x = none) : x ∉ L.map Prod.fst := by
  intro hx
  obtain ⟨p, hp, rfl⟩ := List.mem_map.1 hx
  unfold Go.Proofs.YtjnddclkdofgdaaDoor.look at h
  have := List.lookup_eq_none_iff.1 h p hp
  simp at this
theorem LOk.snoc {L : Bd'} {x : Int} {t : List Nd} (h : LOk L) (hl : Go.Proofs.YtjnddclkdofgdaaDoor.look L x = none) (h0 : 0 ≤ x) (h1 : x < 60) (ht : termGo t 1 = true) (hs : t.length ≤ 60) : LOk (L ++ [(x, t)]) := by
  refine ⟨fun p hp => ?_, ?_, fun p hp => ?_⟩
  · rcases List.mem_append.1 hp with hp | hp
    · exact h.keys p hp
    · simp at hp; subst hp; exact ⟨h0, h1⟩
  · rw [List.map_append, List.nodup_append]
    refine ⟨h.once, by simp, fun a ha b hb e => look_none hl ?_⟩
    simp at hb
    subst hb e
    exact ha
  · rcases List.mem_append.1 hp with hp | hp
    · exact h.terms p hp
    · simp at hp; subst hp; exact ⟨ht, hs⟩
theorem LOk.few {L : Bd'} (h : LOk L) : L.length ≤ 60 := by
  have h2 : ∀ x ∈ L.map Prod.fst, x ∈ (List.range 60).map (fun n : Nat => (n : Int)) := by
    intro x hx
    obtain ⟨p, hp, rfl⟩ := List.mem_map.1 hx
    have := h.keys p hp
    exact List.mem_map.2 ⟨p.1.toNat, by simp; omega, by omega⟩
  have h3 := List.Nodup.length_le_of_subset h.once h2
  simpa using h3
theorem LOk.left {L M : Bd'} (h : LOk (L ++ M)) : LOk L :=
  ⟨fun p hp => h.keys p (List.mem_append_left _ hp), by have := h.once; rw [List.map_append, List.nodup_append] at this; exact this.1, fun p hp => h.terms p (List.mem_append_left _ hp)⟩
theorem look_of_mem {L : Bd'} (h : LOk L) {x : Int} {t : List Nd} (hm : (x, t) ∈ L) : look L x = some t := by
  cases hl : look L x with
  | none => exact absurd (List.mem_map.2 ⟨_, hm, rfl⟩) (look_none hl)
  | some u =>
    have hu := look_mem hl
    have := h.once
    clear hl
    induction L with
    | nil => simp at hm
    | cons p r ih =>
      simp only [List.map_cons, List.nodup_cons] at this
      have hr : LOk r := ⟨fun q hq => h.keys q (List.mem_cons_of_mem _ hq), this.2, fun q hq => h.terms q (List.mem_cons_of_mem _ hq)⟩
      rcases List.mem_cons.1 hm with rfl | hm'
      · rcases List.mem_cons.1 hu with hu | hu
        · simp at hu; rw [hu]
        · exact absurd (List.mem_map.2 ⟨_, hu, rfl⟩) this.1
      · rcases List.mem_cons.1 hu with rfl | hu'
        · exact absurd (List.mem_map.2 ⟨_, hm', rfl⟩) this.1
        · exact ih hr hm' hu' this.2
theorem nodeOk_var {n : Nd} (h : nodeOk n = true) (hv : varB n = true) : 0 ≤ n.2 ∧ n.2 < 60 := by simpa [nodeOk, hv] using h
theorem match_ok (a : List Nd) : ∀ (b : List Nd) (q : Nat) (L L' : Bd'), termGo a q = true → termGo b q = true → b.length ≤ 60 → LOk L → matchGo a b L = some L' → LOk L' := by
  induction a with
  | nil =>
    intro b q L L' _ _ _ hL h
    cases b with
    | nil => simp [matchGo] at h; subst h; exact hL
    | cons m b => simp [matchGo] at h
  | cons n r ih =>
    intro b q L L' ha hb h60 hL h
    cases q with
    | zero => simp [termGo] at ha
    | succ q =>
      rw [termGo_cons, Bool.and_eq_true] at ha
      by_cases hv : varB n = true
      · have hs := term_split b 1 q (by rw [← hb]; congr 1; omega)
        have hq : termGo r q = true := by simpa [wants_var hv] using ha.2
        cases hl : look L n.2 with
        | some t =>
          rw [matchGo_known hv hl] at h
          by_cases ht : t = b.take (endGo b 1)
          · rw [if_pos ht] at h
            exact ih _ q L L' hq hs.2 (by simp; omega) hL h
          · rw [if_neg ht] at h; simp at h
        | none =>
          rw [matchGo_new hv hl] at h
          have hn := nodeOk_var ha.1 hv
          exact ih _ q _ L' hq hs.2 (by simp; omega) (hL.snoc hl hn.1 hn.2 hs.1 (by simp; omega)) h
      · have hv' : varB n = false := by simpa using hv
        cases b with
        | nil => simp [termGo] at hb
        | cons m b =>
          rw [termGo_cons, Bool.and_eq_true] at hb
          rw [matchGo_name hv'] at h
          by_cases hm : n = m
          · subst hm
            rw [if_pos rfl] at h
            exact ih _ _ L L' ha.2 hb.2 (by simp at h60; omega) hL h
          · rw [if_neg hm] at h; simp at h
theorem matchL_ok {x y : Lt} {L L' : Bd'} (hx : termGo x.2 1 = true) (hy : termGo y.2 1 = true) (h60 : y.2.length ≤ 60) (hL : LOk L) (h : matchL x y L = some L') : LOk L' := by
  unfold matchL at h
  by_cases hb : x.1 = y.1
  · rw [if_pos hb] at h; exact match_ok x.2 y.2 1 L L' hx hy h60 hL h
  · rw [if_neg hb] at h; simp at h
/-- The steps of a match, by places. -/
theorem endGo_step (l : List Nd) (k p : Nat) (h : k < l.length) : endGo (l.drop k) (p + 1) = 1 + endGo (l.drop (k + 1)) (p + wants l[k]) := by
  rw [List.drop_eq_getElem_cons h]; rfl
theorem termGo_step (l : List Nd) (k q : Nat) (h : k < l.length) : termGo (l.drop k) (q + 1) = (nodeOk l[k] && termGo (l.drop (k + 1)) (q + wants l[k])) := by
  rw [List.drop_eq_getElem_cons h, termGo_cons]
theorem match_end (b : List Nd) (j : Nat) (L : Bd') (hj : j = b.length) : matchGo [] (b.drop j) L = some L := by
  subst hj; simp [matchGo]
theorem match_at_known (a b : List Nd) (k j : Nat) (L : Bd') (t : List Nd) (hk : k < a.length) (hv : varB a[k] = true) (hl : look L a[k].2 = some t) :
    matchGo (a.drop k) (b.drop j) L = if t = (b.drop j).take (endGo (b.drop j) 1) then matchGo (a.drop (k + 1)) (b.drop (j + endGo (b.drop j) 1)) L else none := by
  rw [List.drop_eq_getElem_cons hk, matchGo_known hv hl, List.drop_drop]
theorem match_at_new (a b : List Nd) (k j : Nat) (L : Bd') (hk : k < a.length) (hv : varB a[k] = true) (hl : look L a[k].2 = none) :
    matchGo (a.drop k) (b.drop j) L = matchGo (a.drop (k + 1)) (b.drop (j + endGo (b.drop j) 1)) (L ++ [(a[k].2, (b.drop j).take (endGo (b.drop j) 1))]) := by
  rw [List.drop_eq_getElem_cons hk, matchGo_new hv hl, List.drop_drop]
theorem match_at_name (a b : List Nd) (k j : Nat) (L : Bd') (hk : k < a.length) (hj : j < b.length) (hv : varB a[k] = false) :
    matchGo (a.drop k) (b.drop j) L = if a[k] = b[j] then matchGo (a.drop (k + 1)) (b.drop (j + 1)) L else none := by
  rw [List.drop_eq_getElem_cons hk, List.drop_eq_getElem_cons hj, matchGo_name hv]
theorem term_left {l : List Nd} {k q : Nat} (h : termGo (l.drop k) (q + 1) = true) : k < l.length := by
  rcases Nat.lt_or_ge k l.length with hk | hk
  · exact hk
  · rw [List.drop_eq_nil_of_le hk] at h; simp [termGo] at h
theorem term_done {l : List Nd} {k : Nat} (hk : k ≤ l.length) (h : termGo (l.drop k) 0 = true) : k = l.length := by
  rcases Nat.lt_or_ge k l.length with hl | hl
  · rw [termGo_zero l k hl] at h; simp at h
  · omega

end Go.Proofs.YtjnddclkdofgdaaDoor
