/- Pure: what the program answers by its places is what the document answers by its rows. Pure: Unify's answer, by the program's places and by the document's rows, is one. -/
import Derived.Test.YtjnddclkdofgdaaDoorULaid
namespace Go.Proofs.YtjnddclkdofgdaaDoor
open Go.RowKit Go.Shelf Go.WideMaps
set_option maxRecDepth 100000

/-- What has an end has parts that have, at any depth. -/
theorem ends_below {L : List Nd} {E : Nat → Nat → Prop} (hE : ∀ i, E i i) : ∀ (s : List Nd) (k b : Nat), s = L.drop b → fullT s k → (∀ x ∈ starts s k b, Ends (pgr L) E x) → ∀ p, b ≤ p → p < b + endGo s k → Ends (pgr L) E p := by
  intro s
  induction s with
  | nil =>
    intro k b _ _ _ p h1 h2
    cases k <;> simp [endGo] at h2 <;> omega
  | cons n r ih =>
    intro k b hs hf hx p h1 h2
    cases k with
    | zero => simp at h2; omega
    | succ k =>
      have hb : L[b]? = some n := by
        have := congrArg (fun l => l[0]?) hs
        simpa using this.symm
      have hr : r = L.drop (b + 1) := by
        have := congrArg List.tail hs
        simpa using this
      have hlt := (List.getElem?_eq_some_iff.1 hb).1
      have hself : Ends (pgr L) E b := hx b (by rw [starts_succ]; simp)
      by_cases hp : p = b
      · subst hp; exact hself
      · simp only [fullT] at hf
        simp only [endGo] at h2
        refine ih (k + wants n) (b + 1) hr hf (fun x hxm => ?_) p (by omega) (by omega)
        rw [Nat.add_comm k, starts_add] at hxm
        rcases List.mem_append.1 hxm with hxm | hxm
        · cases hv : varB n
          · refine hself.parts (hE b) ((pgr_isNamed hb).2 hv) ?_
            rw [pgr_ch hb, ← hr]
            exact hxm
          · rw [wants_var hv] at hxm
            simp [starts] at hxm
        · refine hx x ?_
          rw [starts_succ]
          refine List.mem_cons_of_mem _ ?_
          have he : endGo (n :: r) 1 = 1 + endGo r (wants n) := by simp [endGo]
          rw [he, Nat.add_comm 1, List.drop_succ_cons, show b + (endGo r (wants n) + 1) = b + 1 + endGo r (wants n) by omega]
          exact hxm
theorem ends_term {L : List Nd} {E : Nat → Nat → Prop} (hE : ∀ i, E i i) (hW : Whole L) {i : Nat} (hi : i < L.length) (h : Ends (pgr L) E i) : ∀ p, i ≤ p → p < i + endGo (L.drop i) 1 → Ends (pgr L) E p :=
  ends_below hE _ 1 i rfl (hW.one hi) fun x hx => by
    simp [starts] at hx
    subst hx
    exact h

/-- What is answered, by a graph of terms. -/
def Ans (G : Gr) (C : Nat → Nat → Prop) (N : Nat) (all : Nat → Prop) (a : Nat) (l : List Nd) (yes : Bool) (e : Int) : Prop :=
  (¬ (NoClash G C ∧ ∀ i, i < N → all i → Ends G C i) ∧ l = [] ∧ yes = false ∧ e = 0) ∨
  ((NoClash G C ∧ ∀ i, i < N → all i → Ends G C i) ∧ ∃ m rp, (∀ p q, rp p = rp q ↔ C p q) ∧ Exp G C rp [a] m ∧ ((500 < m.length ∧ l = [] ∧ yes = false ∧ e = 4) ∨ (m.length ≤ 500 ∧ l = (renL m []).1 ∧ yes = true ∧ e = 0)))

/-- The program's answer and the document's are one. -/
theorem ans_one {M : List Tg} {R : List Rw} {g : Nat → Nat} {T : Tb} (h : Rows M R g) (hT : T.map Prod.fst = R) (hok : TabOk T) {a b : Nat} (ha : a < M.length) (hb : b < M.length)
    (hab : ∀ p, p < M.length → (a ≤ p ∧ p < a + endGo ((M.map Prod.snd).drop a) 1) ∨ (b ≤ p ∧ p < b + endGo ((M.map Prod.snd).drop b) 1))
    {l l' : List Nd} {y y' : Bool} {e e' : Int} (h1 : Ans (pgr (M.map Prod.snd)) (Cl (pgr (M.map Prod.snd)) fun i j => rt0 M i = rt0 M j ∨ (i = a ∧ j = b)) M.length (fun i => i = a) a l y e) (h2 : Ans (grOf T) (Cl (grOf T) (SBase T (g a) (g b))) T.length (fun _ => True) (g a) l' y' e') : l = l' ∧ y = y' ∧ e = e' := by
  have hL := h.laid hT ha hb
  have hTl : T.length = R.length := by rw [← hT]; simp
  have hfl : ∀ p, p < M.length → fOf M R g p = g p := fun p hp => if_pos hp
  have hll : (M.map Prod.snd).length = M.length := by simp
  have hsame : (NoClash (pgr (M.map Prod.snd)) (Cl (pgr (M.map Prod.snd)) fun i j => rt0 M i = rt0 M j ∨ (i = a ∧ j = b)) ∧ ∀ i, i < M.length → i = a → Ends (pgr (M.map Prod.snd)) (Cl (pgr (M.map Prod.snd)) fun i j => rt0 M i = rt0 M j ∨ (i = a ∧ j = b)) i) ↔ (NoClash (grOf T) (Cl (grOf T) (SBase T (g a) (g b))) ∧ ∀ i, i < T.length → True → Ends (grOf T) (Cl (grOf T) (SBase T (g a) (g b))) i) := by
    constructor
    · rintro ⟨c1, c2⟩
      refine ⟨hL.clash.1 c1, fun i hi _ => ?_⟩
      obtain ⟨p, hp, rfl⟩ := h.onto i (by omega)
      rw [← hfl p hp]
      refine hL.ends_to ?_
      have ea := c2 a ha rfl
      have eb := ea.same (Cl.isDown _ _) (Cl.base (Or.inr ⟨rfl, rfl⟩))
      rcases hab p hp with ⟨p1, p2⟩ | ⟨p1, p2⟩
      · exact ends_term Cl.refl h.whole (by omega) ea p p1 p2
      · exact ends_term Cl.refl h.whole (by omega) eb p p1 p2
    · rintro ⟨c1, c2⟩
      refine ⟨hL.clash.2 c1, ?_⟩
      rintro i hi rfl
      exact hL.ends_from (c2 (g i) (by have := h.lt hi; omega) trivial) i (hfl i hi)
  rcases h1 with ⟨n1, rfl, rfl, rfl⟩ | ⟨n1, m, rp, p1, p2, p3⟩
  · rcases h2 with ⟨n2, rfl, rfl, rfl⟩ | ⟨n2, _⟩
    · exact ⟨rfl, rfl, rfl⟩
    · exact absurd (hsame.2 n2) n1
  · rcases h2 with ⟨n2, _⟩ | ⟨n2, m', rd, d1, d2, d3⟩
    · exact absurd (hsame.1 n1) n2
    · obtain ⟨m2, k1, k2⟩ := hL.exp (rd := rd) p2
      simp only [List.map_cons, List.map_nil, hfl a ha] at k1
      have hm : m2 = m' := k1.one (Cl.isDown _ _) n2.1 hok.arity (fun i j hij => (d1 i j).2 hij) m' d2
      subst hm
      have hlen := k2.length
      have hren := (renL_like (hL.pairs p1 d1) k2 (s := []) (t := []) All2.nil).1
      rcases p3 with ⟨q1, rfl, rfl, rfl⟩ | ⟨q1, rfl, rfl, rfl⟩
      · rcases d3 with ⟨r1, rfl, rfl, rfl⟩ | ⟨r1, rfl, rfl, rfl⟩
        · exact ⟨rfl, rfl, rfl⟩
        · omega
      · rcases d3 with ⟨r1, rfl, rfl, rfl⟩ | ⟨r1, rfl, rfl, rfl⟩
        · omega
        · exact ⟨hren, rfl, rfl⟩

end Go.Proofs.YtjnddclkdofgdaaDoor

namespace Go.Proofs.YtjnddclkdofgdaaDoor
open Go.RowKit Go.Shelf Go.WideMaps
set_option maxRecDepth 100000

/-- Nodes of one owner. -/
abbrev tgs (o : Int) (t : List Nd) : List Tg := t.map fun n => (o, n)
theorem tgs_snd (o : Int) (t : List Nd) : (tgs o t).map Prod.snd = t := by unfold tgs; rw [List.map_map]; exact List.map_id _
theorem rows_two {x y : List Nd} {R1 R2 : List Rw} {kx ky : Nat} {s1 s2 : List Nd} (hx : termGo x 1 = true) (hy : termGo y 1 = true) (h1 : Put 0 [] 1 x R1 [kx] s1) (h2 : Put 0 R1 1 y R2 [ky] s2) : ∃ g, Rows (tgs 0 x ++ tgs 0 y) R2 g ∧ g 0 = kx ∧ g x.length = ky := by
  obtain ⟨g1, p1⟩ := h1.inv
  obtain ⟨g2, p2⟩ := h2.inv
  have r1 := Rows.start.put (o := 0) hx p1
  rw [List.nil_append] at r1
  have r2 := r1.put (o := 0) hy p2
  have hx0 : 0 < x.length := by
    cases x with
    | nil => simp [termGo] at hx
    | cons => simp
  have e1 := p1.ps
  have e2 := p2.ps
  simp [starts] at e1 e2
  refine ⟨_, r2, ?_, ?_⟩
  · rw [joinG_lo (by simpa using hx0)]
    exact e1.symm
  · unfold joinG
    rw [if_neg (by simp)]
    simp
    exact e2.symm
theorem Rows.tabOk {M : List Tg} {R : List Rw} {g : Nat → Nat} {T : Tb} (h : Rows M R g) (hT : T.map Prod.fst = R) (hpos : ∀ (p : Nat) (t : Tg), M[p]? = some t → 0 ≤ t.2.2) : TabOk T := by
  have hTl : T.length = R.length := by rw [← hT]; simp
  have hget : ∀ (i : Nat) (hi : i < T.length), R[i]? = some T[i].1 := fun i hi => by rw [← hT, List.getElem?_map, List.getElem?_eq_getElem hi]; rfl
  have key : ∀ (i : Nat) (hi : i < T.length), ∃ p t, M[p]? = some t ∧ g p = i ∧ varB T[i].1.node = varB t.2 ∧ (varB t.2 = false → T[i].1 = ⟨t.2, i, ((pgr (M.map Prod.snd)).ch p).map g⟩) := by
    intro i hi
    obtain ⟨p, hp, rfl⟩ := h.onto i (by omega)
    have hm : M[p]? = some M[p] := List.getElem?_eq_getElem hp
    obtain ⟨z, z1, z2⟩ := h.at hm
    have hg := hget _ hi
    rw [z1] at hg
    simp at hg
    subst hg
    refine ⟨p, M[p], hm, rfl, z2, fun hv => ?_⟩
    have := h.name p _ hm hv
    rw [z1] at this
    simpa using this
  refine ⟨fun i hi q hq => ?_, fun i hi => ?_, fun i hi hv => ?_⟩
  · obtain ⟨p, t, h1, h2, h3, h4⟩ := key i hi
    cases hv : varB t.2
    · rw [h4 hv] at hq
      obtain ⟨c, hc, rfl⟩ := List.mem_map.1 hq
      have hn : (M.map Prod.snd)[p]? = some t.2 := by rw [List.getElem?_map, h1]; rfl
      rw [pgr_ch hn] at hc
      have k1 := (starts_lt _ _ _ (h.whole p _ hn) c hc).2
      have hpl := (List.getElem?_eq_some_iff.1 hn).1
      have k2 : endGo ((M.map Prod.snd).drop p) 1 ≤ ((M.map Prod.snd).drop p).length := endGo_le _ _
      rw [List.drop_eq_getElem_cons hpl] at k2
      have k3 : (M.map Prod.snd)[p] = t.2 := (List.getElem?_eq_some_iff.1 hn).2
      rw [k3] at k2
      simp [endGo] at k2 hpl
      rw [hTl]
      exact h.lt (by omega)
    · have := (h.fresh i _ (hget i hi)).2 (by rw [h3]; exact hv)
      rw [this] at hq
      simp at hq
  · rw [(h.fresh i _ (hget i hi)).1]
    exact hi
  · obtain ⟨p, t, h1, h2, h3, h4⟩ := key i hi
    have hvt : varB t.2 = false := by rw [← h3]; exact hv
    rw [h4 hvt]
    have hn : (M.map Prod.snd)[p]? = some t.2 := by rw [List.getElem?_map, h1]; rfl
    simp only [List.length_map]
    rw [pgr_ch hn, starts_length]
    have := hpos p t h1
    unfold wants
    rw [hvt]
    simp
    omega
theorem term_pos {t : List Nd} {q : Nat} (h : termGo t q = true) : ∀ n ∈ t, 0 ≤ n.2 := by
  intro n hn
  have := termGo_ok h n hn
  unfold nodeOk at this
  split at this
  · simp at this; omega
  · simp at this; omega
/-- The classes of the program's places. -/
abbrev uCl (x y : List Nd) : Nat → Nat → Prop := Cl (pgr (x ++ y)) fun i j => rt0 (tgs 0 x ++ tgs 0 y) i = rt0 (tgs 0 x ++ tgs 0 y) j ∨ (i = 0 ∧ j = x.length)
/-- What the program answers. -/
def UOut (x y : List Nd) (l : List Nd) (yes : Bool) (e : Int) : Prop :=
  (¬ (isTermL x = true ∧ isTermL y = true) ∧ l = [] ∧ yes = false ∧ e = 5) ∨
  ((isTermL x = true ∧ isTermL y = true) ∧ Ans (pgr (x ++ y)) (uCl x y) (x.length + y.length) (fun i => i = 0) 0 l yes e)
/-- What the document answers. -/
def DOut (x y : List Nd) (l : List Nd) (yes : Bool) (e : Int) : Prop :=
  (¬ (isTermL x = true ∧ isTermL y = true) ∧ l = [] ∧ yes = false ∧ e = 5) ∨
  ((isTermL x = true ∧ isTermL y = true) ∧ ∃ (R1 R2 : List Rw) (kx ky : Nat) (s1 s2 : List Nd) (T : Tb), Put 0 [] 1 x R1 [kx] s1 ∧ Put 0 R1 1 y R2 [ky] s2 ∧ T.map Prod.fst = R2 ∧ Ans (grOf T) (Cl (grOf T) (SBase T kx ky)) T.length (fun _ => True) kx l yes e)
theorem out_one {x y l l' : List Nd} {b b' : Bool} {e e' : Int} (h : UOut x y l b e) (k : DOut x y l' b' e') : l = l' ∧ b = b' ∧ e = e' := by
  rcases h with ⟨n1, rfl, rfl, rfl⟩ | ⟨n1, h⟩
  · rcases k with ⟨n2, rfl, rfl, rfl⟩ | ⟨n2, _⟩
    · exact ⟨rfl, rfl, rfl⟩
    · exact absurd n2 n1
  · rcases k with ⟨n2, _⟩ | ⟨_, R1, R2, kx, ky, s1, s2, T, p1, p2, hT, k⟩
    · exact absurd n1 n2
    · have hx : termGo x 1 = true := by have := n1.1; unfold isTermL at this; simp at this; exact this.1
      have hy : termGo y 1 = true := by have := n1.2; unfold isTermL at this; simp at this; exact this.1
      obtain ⟨g, hR, rfl, rfl⟩ := rows_two hx hy p1 p2
      have hsnd : (tgs 0 x ++ tgs 0 y).map Prod.snd = x ++ y := by rw [List.map_append, tgs_snd, tgs_snd]
      have hlen : (tgs 0 x ++ tgs 0 y).length = x.length + y.length := by simp
      have hmem : ∀ (p : Nat) (t : Tg), (tgs 0 x ++ tgs 0 y)[p]? = some t → t.1 = 0 ∧ (t.2 ∈ x ∨ t.2 ∈ y) := by
        intro p t ht
        have := List.mem_of_getElem? ht
        rcases List.mem_append.1 this with hm | hm
        · obtain ⟨n, hn, rfl⟩ := List.mem_map.1 hm
          exact ⟨rfl, Or.inl hn⟩
        · obtain ⟨n, hn, rfl⟩ := List.mem_map.1 hm
          exact ⟨rfl, Or.inr hn⟩
      have hok : TabOk T := hR.tabOk hT fun p t ht => by
        rcases (hmem p t ht).2 with hm | hm
        · exact term_pos hx _ hm
        · exact term_pos hy _ hm
      have hx0 : 0 < x.length := by
        cases x with
        | nil => simp [termGo] at hx
        | cons => simp
      have hy0 : 0 < y.length := by
        cases y with
        | nil => simp [termGo] at hy
        | cons => simp
      have e1 : endGo (x ++ y) 1 = x.length := term_end x 1 y hx
      have e2 : endGo y 1 = y.length := by have := term_end y 1 [] hy; simpa using this
      refine ans_one hR hT hok (a := 0) (b := x.length) (by omega) (by omega) ?_ ?_ k
      · intro p hp
        rw [hsnd]
        rw [hlen] at hp
        by_cases hpx : p < x.length
        · left
          rw [List.drop_zero, e1]
          omega
        · right
          rw [List.drop_left, e2]
          omega
      · rw [hsnd, hlen]
        exact h

end Go.Proofs.YtjnddclkdofgdaaDoor
