/- Pure: the program's places laid on the document's rows. -/
import Derived.Test.YtjnddclkdofgdaaDoorCSpecM
import Derived.Test.YtjnddclkdofgdaaDoorUAdd0M
import Derived.Test.YtjnddclkdofgdaaDoorUWSame
namespace Go.Proofs.YtjnddclkdofgdaaDoor
open Go.RowKit Go.Shelf Go.WideMaps
set_option maxRecDepth 100000

/-- The leader of a place, before anything is made the same. -/
def rt0 (M : List Tg) (p : Nat) : Nat := match M[p]? with | some t => if varB t.2 then M.findIdx (isV t.1 t.2.2) else p | none => p
theorem rt0_none {M : List Tg} {p : Nat} (h : M.length ≤ p) : rt0 M p = p := by unfold rt0; rw [List.getElem?_eq_none h]
theorem rt0_name {M : List Tg} {p : Nat} {t : Tg} (h : M[p]? = some t) (hv : varB t.2 = false) : rt0 M p = p := by unfold rt0; rw [h]; simp [hv]
theorem rt0_var {M : List Tg} {p : Nat} {t : Tg} (h : M[p]? = some t) (hv : varB t.2 = true) : rt0 M p = M.findIdx (isV t.1 t.2.2) ∧ rt0 M p ≤ p ∧ ∃ s, M[rt0 M p]? = some s ∧ varB s.2 = true ∧ s.1 = t.1 ∧ s.2.2 = t.2.2 := by
  have hl := (List.getElem?_eq_some_iff.1 h).1
  have he : M[p] = t := (List.getElem?_eq_some_iff.1 h).2
  have hp : isV t.1 t.2.2 t = true := by simp [isV, hv]
  have e : rt0 M p = M.findIdx (isV t.1 t.2.2) := by unfold rt0; rw [h]; simp [hv]
  have hle : M.findIdx (isV t.1 t.2.2) ≤ p := by
    apply Nat.le_of_not_lt
    intro hlt
    have := List.not_of_lt_findIdx hlt
    rw [he, hp] at this
    cases this
  have hlt : M.findIdx (isV t.1 t.2.2) < M.length := by omega
  refine ⟨e, by omega, M[M.findIdx (isV t.1 t.2.2)], by rw [e]; exact List.getElem?_eq_getElem hlt, ?_⟩
  have := List.findIdx_getElem (w := hlt)
  simpa [isV] using this
/-- Two places are one, or the same variable's. -/
def sameV (M : List Tg) (p q : Nat) : Prop := p = q ∨ ∃ s t, M[p]? = some s ∧ M[q]? = some t ∧ varB s.2 = true ∧ varB t.2 = true ∧ s.1 = t.1 ∧ s.2.2 = t.2.2
theorem rt0_iff (M : List Tg) (p q : Nat) : rt0 M p = rt0 M q ↔ sameV M p q := by
  constructor
  · intro e
    by_cases hp : ∃ s, M[p]? = some s ∧ varB s.2 = true
    · obtain ⟨s, hs, vs⟩ := hp
      obtain ⟨e1, e2, s', e3, e4, e5, e6⟩ := rt0_var hs vs
      by_cases hq : ∃ t, M[q]? = some t ∧ varB t.2 = true
      · obtain ⟨t, ht, vt⟩ := hq
        obtain ⟨d1, d2, t', d3, d4, d5, d6⟩ := rt0_var ht vt
        rw [e, d3] at e3
        simp at e3
        subst e3
        exact Or.inr ⟨s, t, hs, ht, vs, vt, by rw [← e5, d5], by rw [← e6, d6]⟩
      · exfalso
        have hrq : rt0 M q = q := by
          cases hm : M[q]? with
          | none => exact rt0_none (by simpa using hm)
          | some t =>
            refine rt0_name hm ?_
            cases hv : varB t.2
            · rfl
            · exact absurd ⟨t, hm, hv⟩ hq
        rw [e, hrq] at e3
        exact hq ⟨s', e3, e4⟩
    · have hrp : rt0 M p = p := by
        cases hm : M[p]? with
        | none => exact rt0_none (by simpa using hm)
        | some t =>
          refine rt0_name hm ?_
          cases hv : varB t.2
          · rfl
          · exact absurd ⟨t, hm, hv⟩ hp
      by_cases hq : ∃ t, M[q]? = some t ∧ varB t.2 = true
      · obtain ⟨t, ht, vt⟩ := hq
        obtain ⟨d1, d2, t', d3, d4, d5, d6⟩ := rt0_var ht vt
        rw [← e, hrp] at d3
        exact absurd ⟨t', d3, d4⟩ hp
      · have hrq : rt0 M q = q := by
          cases hm : M[q]? with
          | none => exact rt0_none (by simpa using hm)
          | some t =>
            refine rt0_name hm ?_
            cases hv : varB t.2
            · rfl
            · exact absurd ⟨t, hm, hv⟩ hq
        rw [hrp, hrq] at e
        exact Or.inl e
  · rintro (rfl | ⟨s, t, h1, h2, h3, h4, h5, h6⟩)
    · rfl
    · rw [(rt0_var h1 h3).1, (rt0_var h2 h4).1, h5, h6]
/-- The leaders that all nodes got. -/
def leadsM (M : List Tg) : List Nat := (List.range M.length).map fun p => rt0 M p
theorem leadsM_length (M : List Tg) : (leadsM M).length = M.length := by simp [leadsM]
theorem leadsM_at {M : List Tg} {p : Nat} (h : p < M.length) : (leadsM M)[p]? = some (rt0 M p) := by simp [leadsM, h]
theorem rt0_append {M N : List Tg} {p : Nat} (h : p < M.length) : rt0 (M ++ N) p = rt0 M p := by
  have hm : M[p]? = some M[p] := List.getElem?_eq_getElem h
  have hmn : (M ++ N)[p]? = some M[p] := by rw [List.getElem?_append_left h, hm]
  cases hv : varB M[p].2
  · rw [rt0_name hm hv, rt0_name hmn hv]
  · obtain ⟨e1, e2, s, e3, e4, e5, e6⟩ := rt0_var hm hv
    rw [(rt0_var hmn hv).1, e1, List.findIdx_append, if_pos (by omega)]
theorem leadFor_eq {M : List Tg} {p : Nat} (h : p < M.length) : leadFor (M.take p) M[p].1 M[p].2 = rt0 M p := by
  have hm : M[p]? = some M[p] := List.getElem?_eq_getElem h
  have hl : (M.take p).length = p := by simp; omega
  unfold leadFor
  rw [hl]
  cases hv : varB M[p].2
  · rw [rt0_name hm hv]; rfl
  · obtain ⟨e1, e2, _⟩ := rt0_var hm hv
    rw [if_pos rfl, e1]
    have hsplit : M = M.take p ++ M.drop p := (List.take_append_drop p M).symm
    have hf : M.findIdx (isV M[p].1 M[p].2.2) = if (M.take p).findIdx (isV M[p].1 M[p].2.2) < (M.take p).length then (M.take p).findIdx (isV M[p].1 M[p].2.2) else (M.drop p).findIdx (isV M[p].1 M[p].2.2) + (M.take p).length := by
      generalize isV M[p].1 M[p].2.2 = f
      conv => lhs; rw [hsplit]
      rw [List.findIdx_append]
    unfold firstV
    rw [hf, hl]
    split
    · rename_i hlt
      rw [List.findIdx?_eq_some_iff_findIdx_eq.2 ⟨by rw [hl]; exact hlt, rfl⟩]
      rfl
    · rename_i hlt
      rw [List.findIdx?_eq_none_iff_findIdx_eq.2 (by have := List.findIdx_le_length (xs := M.take p) (p := isV M[p].1 M[p].2.2); omega)]
      rw [List.drop_eq_getElem_cons h, List.findIdx_cons]
      have : isV M[p].1 M[p].2.2 M[p] = true := by simp [isV, hv]
      simp [this]
theorem leadsM_append (M : List Tg) (o : Int) (t : List Nd) : leadsM (M ++ t.map fun n => (o, n)) = leadsM M ++ leadsTo M o t t.length := by
  apply List.ext_getElem?
  intro p
  by_cases hp : p < M.length
  · rw [leadsM_at (by simp; omega), List.getElem?_append_left (by rw [leadsM_length]; exact hp), leadsM_at hp, rt0_append hp]
  · rw [List.getElem?_append_right (by rw [leadsM_length]; omega), leadsM_length]
    by_cases hq : p - M.length < t.length
    · have hpl : p < (M ++ t.map fun n => (o, n)).length := by simp; omega
      rw [leadsM_at hpl, ← leadFor_eq hpl]
      have he : (M ++ t.map fun n => (o, n))[p] = (o, t[p - M.length]) := by
        rw [List.getElem_append_right (by omega)]; simp
      rw [he]
      have htk : (M ++ t.map fun n => (o, n)).take p = M ++ (t.take (p - M.length)).map fun n => (o, n) := by
        rw [List.take_append, List.take_of_length_le (by omega), List.map_take]
      rw [htk]
      simp [leadsTo, hq]
    · rw [List.getElem?_eq_none (by rw [leadsM_length]; simp; omega), List.getElem?_eq_none (by rw [leadsTo_length]; omega)]
theorem forest0 (M : List Tg) : Forest (leadsM M) (rt0 M) (fun p => if rt0 M p = p then 0 else 1) := by
  refine ⟨fun p q h => ?_, fun p h => ?_, fun p q h hne => ?_, fun p h => rt0_none (by rw [leadsM_length] at h; exact h)⟩
  · have hp := (List.getElem?_eq_some_iff.1 h).1
    rw [leadsM_length] at hp ⊢
    rw [leadsM_at hp] at h
    simp at h
    subst h
    have hm : M[p]? = some M[p] := List.getElem?_eq_getElem hp
    cases hv : varB M[p].2
    · rw [rt0_name hm hv]; exact hp
    · have := (rt0_var hm hv).2.1; omega
  · have hp := (List.getElem?_eq_some_iff.1 h).1
    rw [leadsM_length] at hp
    rw [leadsM_at hp] at h
    simpa using h
  · have hp := (List.getElem?_eq_some_iff.1 h).1
    rw [leadsM_length] at hp
    rw [leadsM_at hp] at h
    simp at h
    subst h
    have hm : M[p]? = some M[p] := List.getElem?_eq_getElem hp
    cases hv : varB M[p].2
    · rw [rt0_name hm hv] at hne; exact absurd rfl hne
    · obtain ⟨e1, e2, s, e3, e4, e5, e6⟩ := rt0_var hm hv
      have hs : rt0 M p = rt0 M (rt0 M p) := by
        rw [(rt0_var e3 e4).1, e1, e5, e6]
      refine ⟨hs, ?_⟩
      rw [if_pos hs.symm, if_neg (fun e => hne e)]
      exact Nat.zero_lt_one
/-- Variables alone have classes of more than one place: so nothing is to be joined yet. -/
theorem clMod0 (M : List Tg) : ClMod (pgr (M.map Prod.snd)) (fun i j => rt0 M i = rt0 M j) fun _ _ => False := by
  intro x y e hx hy
  rcases (rt0_iff M x y).1 e with rfl | ⟨s, t, h1, h2, h3, h4, _⟩
  · refine ⟨rfl, fun k p q hp hq => ?_⟩
    rw [hp] at hq
    simp at hq
    subst hq
    exact Eqv.refl _
  · obtain ⟨n, h5, h6⟩ := pgr_named hx
    rw [List.getElem?_map, h1] at h5
    simp at h5
    subst h5
    rw [h3] at h6
    cases h6
theorem namedRoot0 (M : List Tg) : NamedRoot (M.map Prod.snd) (rt0 M) := by
  intro p hp
  obtain ⟨n, h5, h6⟩ := pgr_named hp
  rw [List.getElem?_map] at h5
  obtain ⟨t, h7, h8⟩ := Option.map_eq_some_iff.1 h5
  subst h8
  rw [rt0_name h7 h6]
  exact hp

theorem term_var {t : List Nd} : ∀ {q : Nat}, termGo t q = true → ∀ n ∈ t, varB n = true → 0 ≤ n.2 ∧ n.2 < 60 := by
  induction t with
  | nil => intro q _ n hn; simp at hn
  | cons m r ih =>
    intro q h n hn hv
    cases q with
    | zero => simp [termGo] at h
    | succ q =>
      rw [termGo_cons] at h
      simp only [Bool.and_eq_true] at h
      rcases List.mem_cons.1 hn with rfl | hn
      · have h1 := h.1
        unfold nodeOk at h1
        rw [if_pos hv] at h1
        simpa using h1
      · exact ih h.2 n hn hv

/-- Each node's place has a row: g says which. -/
structure Rows (M : List Tg) (R : List Rw) (g : Nat → Nat) : Prop where
  whole : Whole (M.map Prod.snd)
  var : ∀ (p : Nat) (t : Tg), M[p]? = some t → varB t.2 = true → ∃ r, R[g p]? = some r ∧ r.node = (t.2.1, t.2.2 + 60 * t.1)
  name : ∀ (p : Nat) (t : Tg), M[p]? = some t → varB t.2 = false → R[g p]? = some ⟨t.2, g p, ((pgr (M.map Prod.snd)).ch p).map g⟩
  inj : ∀ (p q : Nat) (s t : Tg), M[p]? = some s → M[q]? = some t → varB s.2 = false → varB t.2 = false → g p = g q → p = q
  onto : ∀ r, r < R.length → ∃ p, p < M.length ∧ g p = r
  fresh : ∀ (r : Nat) (x : Rw), R[r]? = some x → x.cls = r ∧ (varB x.node = true → x.parts = [])
  once : VarsOnce R
  num : ∀ (p : Nat) (t : Tg), M[p]? = some t → varB t.2 = true → 0 ≤ t.2.2 ∧ t.2.2 < 60
theorem Rows.start : Rows [] [] id := ⟨fun i n h => by simp at h, fun p t h => by simp at h, fun p t h => by simp at h, fun p q s t h => by simp at h, fun r h => by simp at h, fun r x h => by simp at h, fun i j ri rj h => by simp at h, fun p t h => by simp at h⟩
theorem pgr_ch_left {L t : List Nd} (hW : Whole L) {p : Nat} (h : p < L.length) : (pgr (L ++ t)).ch p = (pgr L).ch p := by
  have h1 : L[p]? = some L[p] := List.getElem?_eq_getElem h
  have h2 : (L ++ t)[p]? = some L[p] := by rw [List.getElem?_append_left h, h1]
  rw [pgr_ch h1, pgr_ch h2, List.drop_append_of_le_length (by omega), starts_append _ _ _ _ (hW p _ h1)]
theorem pgr_ch_right {L t : List Nd} {p : Nat} (h : p < t.length) : (pgr (L ++ t)).ch (L.length + p) = ((pgr t).ch p).map (· + L.length) := by
  have h1 : t[p]? = some t[p] := List.getElem?_eq_getElem h
  have h2 : (L ++ t)[L.length + p]? = some t[p] := by rw [List.getElem?_append_right (by omega)]; simp [h]
  rw [pgr_ch h1, pgr_ch h2, ← starts_shift]
  congr 1
  · rw [List.drop_append, List.drop_eq_nil_of_le (by omega), List.nil_append]; congr 1; omega
  · omega
theorem Rows.put {M : List Tg} {R : List Rw} {g : Nat → Nat} (h : Rows M R g) {o : Int} {t : List Nd} (ht : termGo t 1 = true) {R' : List Rw} {ps : List Nat} {s' : List Nd} {g2 : Nat → Nat} (hp : PutI (60 * o) R 1 t R' ps s' g2) :
    Rows (M ++ t.map fun n => (o, n)) R' (joinG M.length g g2) := by
  have he : endGo t 1 = t.length := by have := term_end t 1 [] ht; simpa using this
  have hl : (M.map Prod.snd).length = M.length := by simp
  have hLs : (M ++ t.map fun n => (o, n)).map Prod.snd = M.map Prod.snd ++ t := by rw [List.map_append, List.map_map]; congr 1; exact List.map_id _
  have hlo : ∀ (p : Nat) (x : Tg), p < M.length → (M ++ t.map fun n => (o, n))[p]? = some x → M[p]? = some x := fun p x hlt hx => by rwa [List.getElem?_append_left hlt] at hx
  have hhi : ∀ (p : Nat) (x : Tg), ¬ p < M.length → (M ++ t.map fun n => (o, n))[p]? = some x → ∃ n, t[p - M.length]? = some n ∧ x = (o, n) ∧ p - M.length < t.length := fun p x hlt hx => by
    rw [List.getElem?_append_right (by omega), List.getElem?_map] at hx
    obtain ⟨n, h1, h2⟩ := Option.map_eq_some_iff.1 hx
    exact ⟨n, h1, h2.symm, (List.getElem?_eq_some_iff.1 h1).1⟩
  have hgl : ∀ (p : Nat) (x : Tg), M[p]? = some x → g p < R.length := by
    intro p x hx
    cases hv : varB x.2
    · exact (List.getElem?_eq_some_iff.1 (h.name p x hx hv)).1
    · obtain ⟨r, h1, _⟩ := h.var p x hx hv
      exact (List.getElem?_eq_some_iff.1 h1).1
  have hgR : ∀ p, ¬ p < M.length → joinG M.length g g2 p = g2 (p - M.length) := fun p hp => if_neg hp
  refine ⟨?_, ?_, ?_, ?_, ?_, ?_, hp.once h.once, ?_⟩
  · rw [hLs]; exact h.whole.append (whole_term ht)
  · intro p x hx hv
    by_cases hlt : p < M.length
    · have hx' := hlo p x hlt hx
      obtain ⟨r, h1, h2⟩ := h.var p x hx' hv
      exact ⟨r, by rw [joinG_lo hlt, hp.ext _ (hgl p x hx'), h1], h2⟩
    · obtain ⟨n, h1, rfl, h3⟩ := hhi p x hlt hx
      rw [hgR p hlt]
      exact hp.var _ n (by omega) h1 hv
  · intro p x hx hv
    rw [hLs]
    by_cases hlt : p < M.length
    · have hx' := hlo p x hlt hx
      rw [joinG_lo hlt, hp.ext _ (hgl p x hx'), h.name p x hx' hv, pgr_ch_left h.whole (by omega)]
      congr 2
      rw [map_joinG_lo]
      intro q hq
      have hn : (M.map Prod.snd)[p]? = some x.2 := by rw [List.getElem?_map, hx']; rfl
      rw [pgr_ch hn] at hq
      have h1 := (starts_lt _ _ _ (h.whole p _ hn) q hq).2
      have h2 := h.whole.one (p := p) (by omega)
      have h3 : endGo ((M.map Prod.snd).drop p) 1 ≤ ((M.map Prod.snd).drop p).length := endGo_le _ _
      rw [List.drop_eq_getElem_cons (by omega)] at h3
      have h4 : (M.map Prod.snd)[p] = x.2 := (List.getElem?_eq_some_iff.1 hn).2
      rw [h4] at h3
      simp [endGo] at h3
      omega
    · obtain ⟨n, h1, rfl, h3⟩ := hhi p x hlt hx
      rw [hgR p hlt, (hp.name _ n (by omega) h1 hv).1]
      congr 2
      have hpe : p = (M.map Prod.snd).length + (p - M.length) := by omega
      have hch := pgr_ch_right (L := M.map Prod.snd) (t := t) (p := p - M.length) h3
      rw [← hpe] at hch
      rw [hch, hl, map_joinG_hi, pgr_ch h1]
  · intro p q x y hx hy vx vy e
    by_cases h1 : p < M.length <;> by_cases h2 : q < M.length
    · rw [joinG_lo h1, joinG_lo h2] at e
      exact h.inj p q x y (hlo p x h1 hx) (hlo q y h2 hy) vx vy e
    · obtain ⟨n, h3, rfl, h4⟩ := hhi q y h2 hy
      rw [joinG_lo h1, hgR q h2] at e
      have a := hgl p x (hlo p x h1 hx)
      have b := (hp.name _ n (by omega) h3 vy).2
      omega
    · obtain ⟨n, h3, rfl, h4⟩ := hhi p x h1 hx
      rw [joinG_lo h2, hgR p h1] at e
      have a := hgl q y (hlo q y h2 hy)
      have b := (hp.name _ n (by omega) h3 vx).2
      omega
    · obtain ⟨n, h3, rfl, h4⟩ := hhi p x h1 hx
      obtain ⟨m, h5, rfl, h6⟩ := hhi q y h2 hy
      rw [hgR p h1, hgR q h2] at e
      have := hp.inj _ _ n m (by omega) (by omega) h3 h5 vx vy e
      omega
  · intro r hr
    by_cases hlt : r < R.length
    · obtain ⟨p, h1, h2⟩ := h.onto r hlt
      exact ⟨p, by simp; omega, by rw [joinG_lo h1]; exact h2⟩
    · obtain ⟨i, h1, h2⟩ := hp.onto r (by omega) hr
      exact ⟨i + M.length, by simp; omega, by rw [joinG_hi]; exact h2⟩
  · intro r x hx
    by_cases hlt : r < R.length
    · rw [hp.ext r hlt] at hx
      exact h.fresh r x hx
    · exact hp.fresh r x (by omega) hx
  · intro p x hx hv
    by_cases hlt : p < M.length
    · exact h.num p x (hlo p x hlt hx) hv
    · obtain ⟨n, h1, rfl, h3⟩ := hhi p x hlt hx
      exact term_var ht n (List.mem_of_getElem? h1) hv

/-- Where a place is laid. -/
def fOf (M : List Tg) (R : List Rw) (g : Nat → Nat) (p : Nat) : Nat := if p < M.length then g p else R.length + (p - M.length)
section
variable {M : List Tg} {R : List Rw} {g : Nat → Nat} {T : Tb}
theorem grOf_get (hT : T.map Prod.fst = R) {r : Nat} {x : Rw} (h : R[r]? = some x) : (grOf T).lab r = x.node ∧ (grOf T).ch r = x.parts := by
  subst hT
  rw [List.getElem?_map] at h
  obtain ⟨y, h1, rfl⟩ := Option.map_eq_some_iff.1 h
  have hl := (List.getElem?_eq_some_iff.1 h1).1
  have he := (List.getElem?_eq_some_iff.1 h1).2
  exact ⟨by rw [grOf_lab T r hl, he], by rw [grOf_ch T r hl, he]⟩
theorem grOf_namedR (hT : T.map Prod.fst = R) {r : Nat} (h : (grOf T).named r) : ∃ x, R[r]? = some x ∧ varB x.node = false := by
  obtain ⟨h1, h2⟩ := grOf_named h
  subst hT
  exact ⟨T[r].1, by rw [List.getElem?_map, List.getElem?_eq_getElem h1]; rfl, h2⟩
theorem clsR_fresh (hT : T.map Prod.fst = R) (hf : ∀ (r : Nat) (x : Rw), R[r]? = some x → x.cls = r ∧ (varB x.node = true → x.parts = [])) {i j : Nat} (h : clsR T i j) : i = j := by
  rcases h with h | ⟨hi, hj, e⟩
  · exact h
  · subst hT
    have a := (hf i T[i].1 (by rw [List.getElem?_map, List.getElem?_eq_getElem hi]; rfl)).1
    have b := (hf j T[j].1 (by rw [List.getElem?_map, List.getElem?_eq_getElem hj]; rfl)).1
    omega
theorem Rows.at (h : Rows M R g) {p : Nat} {t : Tg} (hp : M[p]? = some t) : ∃ x, R[g p]? = some x ∧ varB x.node = varB t.2 := by
  cases hv : varB t.2
  · exact ⟨_, h.name p t hp hv, hv⟩
  · obtain ⟨r, h1, h2⟩ := h.var p t hp hv
    refine ⟨r, h1, ?_⟩
    rw [h2]
    exact hv
theorem Rows.lt (h : Rows M R g) {p : Nat} (hp : p < M.length) : g p < R.length := by
  obtain ⟨x, h1, _⟩ := h.at (List.getElem?_eq_getElem hp)
  exact (List.getElem?_eq_some_iff.1 h1).1
theorem var_empty {n : Nd} (h : varB n = true) : n.1 = ⟨#[]⟩ := by
  have h1 : n.1.toList = [] := by simpa [varB] using h
  rw [ByteArray.toList_eq] at h1
  obtain ⟨⟨d⟩, x⟩ := n
  simp at h1
  simp [h1]
theorem Rows.laid (h : Rows M R g) (hT : T.map Prod.fst = R) {a b : Nat} (ha : a < M.length) (hb : b < M.length) :
    Laid (pgr (M.map Prod.snd)) (grOf T) (fun i j => rt0 M i = rt0 M j ∨ (i = a ∧ j = b)) (SBase T (g a) (g b)) (fOf M R g) := by
  have hTl : T.length = R.length := by rw [← hT]; simp
  have hfl : ∀ p, p < M.length → fOf M R g p = g p := fun p hp => if_pos hp
  have hfh : ∀ p, ¬ p < M.length → fOf M R g p = R.length + (p - M.length) := fun p hp => if_neg hp
  have hgetL : ∀ (p : Nat) (t : Tg), M[p]? = some t → (M.map Prod.snd)[p]? = some t.2 := fun p t ht => by rw [List.getElem?_map, ht]; rfl
  have hnm : ∀ p, (pgr (M.map Prod.snd)).named p ↔ (grOf T).named (fOf M R g p) := by
    intro p
    by_cases hp : p < M.length
    · have hm : M[p]? = some M[p] := List.getElem?_eq_getElem hp
      obtain ⟨x, h1, h2⟩ := h.at hm
      rw [hfl p hp, pgr_isNamed (hgetL _ _ hm)]
      unfold Gr.named
      rw [(grOf_get hT h1).1, h2]
    · constructor
      · intro hn
        obtain ⟨n, h1, _⟩ := pgr_named hn
        have := (List.getElem?_eq_some_iff.1 h1).1
        simp at this
        omega
      · intro hn
        rw [hfh p hp] at hn
        obtain ⟨h1, _⟩ := grOf_named hn
        omega
  have hpn : ∀ p, (pgr (M.map Prod.snd)).named p → ∃ t, M[p]? = some t ∧ varB t.2 = false ∧ p < M.length := by
    intro p hn
    obtain ⟨n, h1, h2⟩ := pgr_named hn
    rw [List.getElem?_map] at h1
    obtain ⟨t, h3, rfl⟩ := Option.map_eq_some_iff.1 h1
    exact ⟨t, h3, h2, (List.getElem?_eq_some_iff.1 h3).1⟩
  refine ⟨hnm, ?_, ?_, ?_, ?_, ?_, ?_⟩
  · intro p hn
    obtain ⟨t, h1, h2, h3⟩ := hpn p hn
    rw [hfl p h3, pgr_lab (hgetL _ _ h1), (grOf_get hT (h.name p t h1 h2)).1]
  · intro p hn
    obtain ⟨t, h1, h2, h3⟩ := hpn p hn
    rw [hfl p h3, (grOf_get hT (h.name p t h1 h2)).2]
    refine List.map_congr_left fun q hq => (hfl q ?_).symm
    have hn' := hgetL _ _ h1
    rw [pgr_ch hn'] at hq
    have h4 := (starts_lt _ _ _ (h.whole p _ hn') q hq).2
    have h5 : endGo ((M.map Prod.snd).drop p) 1 ≤ ((M.map Prod.snd).drop p).length := endGo_le _ _
    rw [List.drop_eq_getElem_cons (by simp; omega)] at h5
    have h6 : (M.map Prod.snd)[p]'(by simp; omega) = t.2 := (List.getElem?_eq_some_iff.1 hn').2
    rw [h6] at h5
    simp [endGo] at h5
    omega
  · intro p q e
    by_cases hp : p < M.length <;> by_cases hq : q < M.length
    · rw [hfl p hp, hfl q hq] at e
      have hm : M[p]? = some M[p] := List.getElem?_eq_getElem hp
      have hm' : M[q]? = some M[q] := List.getElem?_eq_getElem hq
      obtain ⟨x, x1, x2⟩ := h.at hm
      obtain ⟨y, y1, y2⟩ := h.at hm'
      rw [e, y1] at x1
      simp at x1
      subst x1
      cases hv : varB M[p].2
      · have hv' : varB M[q].2 = false := by rw [← y2, x2, hv]
        have := h.inj p q _ _ hm hm' hv hv' e
        subst this
        exact Cl.refl _
      · have hv' : varB M[q].2 = true := by rw [← y2, x2, hv]
        obtain ⟨r1, a1, a2⟩ := h.var p _ hm hv
        obtain ⟨r2, b1, b2⟩ := h.var q _ hm' hv'
        rw [e, b1] at a1
        simp at a1
        subst a1
        rw [b2] at a2
        simp at a2
        have n1 := h.num p _ hm hv
        have n2 := h.num q _ hm' hv'
        refine Cl.base (Or.inl ((rt0_iff M p q).2 (Or.inr ⟨_, _, hm, hm', hv, hv', ?_, ?_⟩))) <;> omega
    · rw [hfl p hp, hfh q hq] at e
      have := h.lt hp
      omega
    · rw [hfl q hq, hfh p hp] at e
      have := h.lt hq
      omega
    · rw [hfh p hp, hfh q hq] at e
      have : p = q := by omega
      subst this
      exact Cl.refl _
  · rintro p q (e | ⟨rfl, rfl⟩)
    · rcases (rt0_iff M p q).1 e with rfl | ⟨s, t, h1, h2, h3, h4, h5, h6⟩
      · exact Cl.refl _
      · obtain ⟨r1, a1, a2⟩ := h.var p _ h1 h3
        obtain ⟨r2, b1, b2⟩ := h.var q _ h2 h4
        have hpl := (List.getElem?_eq_some_iff.1 h1).1
        have hql := (List.getElem?_eq_some_iff.1 h2).1
        have hgg : g p = g q := by
          refine h.once (g p) (g q) r1 r2 a1 b1 ?_ ?_
          · rw [a2]; exact h3
          · rw [a2, b2, var_empty h3, var_empty h4, h5, h6]
        rw [hfl p hpl, hfl q hql, hgg]
        exact Cl.refl _
    · rw [hfl p ha, hfl q hb]
      exact Cl.base (Or.inl ⟨rfl, rfl⟩)
  · rintro r s (⟨rfl, rfl⟩ | e)
    · exact ⟨a, b, hfl a ha, hfl b hb, Cl.base (Or.inr ⟨rfl, rfl⟩)⟩
    · have := clsR_fresh hT h.fresh e
      subst this
      by_cases hr : r < R.length
      · obtain ⟨p, h1, h2⟩ := h.onto r hr
        exact ⟨p, p, by rw [hfl p h1, h2], by rw [hfl p h1, h2], Cl.refl _⟩
      · have hx : fOf M R g (M.length + (r - R.length)) = r := by rw [hfh _ (by omega)]; omega
        exact ⟨_, _, hx, hx, Cl.refl _⟩
  · intro r hn
    obtain ⟨h1, _⟩ := grOf_named hn
    obtain ⟨p, h2, h3⟩ := h.onto r (by omega)
    exact ⟨p, by rw [hfl p h2, h3]⟩
end

end Go.Proofs.YtjnddclkdofgdaaDoor
