/- A row is written full of one element and taken into the book: what holds on the way. The book takes a clause: what is still to be taken, and the row ahead of its writing. -/
import Derived.Test.YtcpdadppblbndaaGCl0M
namespace Go.Proofs.Ytcpdadppblbndaa
open Go.RowKit Go.Shelf
set_option maxRecDepth 100000

section
variable {w w' w2 : World} {bk : Nat} {nv mv : Value} {L L' : List Value}
theorem AFar.mono (h : AFar w w' bk nv mv L) (hL : ∀ v ∈ L, v ∈ L') : AFar w w' bk nv mv L' :=
  ⟨h.os, h.tape, h.output, h.size, fun k h1 h2 h3 h4 h5 => h.block k h1 h2 h3 h4 fun v hv => h5 v (hL v hv)⟩
theorem AFar.below (h : AFar w w' bk nv mv L) (hb : Below w'.heap.size w' w2) : AFar w w2 bk nv mv L :=
  ⟨hb.os.trans h.os, hb.tape.trans h.tape, hb.output.trans h.output, Nat.le_trans h.size hb.size, fun k h1 h2 h3 h4 h5 => by
    rw [hb.block k (Nat.lt_of_lt_of_le h1 h.size), h.block k h1 h2 h3 h4 h5]⟩
theorem AFar.grown (h : AFar w w' bk nv mv L) {u v : Value} (hu : u ∈ L) (hv : Moved w u v) (hg : w'.grownBy w2 v.ownBlock) : AFar w w2 bk nv mv L :=
  ⟨hg.os.trans h.os, hg.tape.trans h.tape, hg.output.trans h.output, Nat.le_trans h.size hg.size, fun k h1 h2 h3 h4 h5 => by
    rw [hg.block k (Nat.lt_of_lt_of_le h1 h.size) ?_, h.block k h1 h2 h3 h4 h5]
    intro e
    rcases hv with hv | ⟨g, hv, hg⟩
    · exact h5 u hu (by rw [← hv, e])
    · rw [hv] at e; simp at e; omega⟩
theorem AFar.setB (h : AFar w w' bk nv mv L) (j : Nat) (x : Value) : AFar w (w'.setCell ⟨bk, j, none⟩ x) bk nv mv L := by
  have hg := grown_setCell w' ⟨bk, j, none⟩ x
  exact ⟨hg.os.trans h.os, hg.tape.trans h.tape, hg.output.trans h.output, Nat.le_trans h.size hg.size, fun k h1 h2 h3 h4 h5 => by
    rw [hg.block k (Nat.lt_of_lt_of_le h1 h.size) (by simpa using h2), h.block k h1 h2 h3 h4 h5]⟩
end
section
variable {w w' : World} {B bk : Nat} {nv mv xv yv : Value} {E : List (Value × Int)} {F : List LTri} {G : List GTri} {next : Int}
/-- A row is written that the book does not hold. -/
theorem Book2.far2 (h : Book2 w B bk nv mv xv yv E F G next) {o : Option Nat} (h0 : o ≠ some bk) (h1 : ∀ v ∈ [nv, mv, xv, yv], v.ownBlock = none ∨ v.ownBlock ≠ o) (hap : ∀ k ∈ held E F G, o ≠ some k) (hg : w.grownBy w' o) : Book2 w' B bk nv mv xv yv E F G next := by
  refine h.same (hg.block bk h.base.lt (fun e => h0 e.symm)) (fun u hu k hk => ?_) (fun k hk => hg.block k (h.heldLt k hk) (fun e => hap k hk e.symm))
  refine hg.block k ?_ (fun e => ?_)
  · simp at hu
    rcases hu with rfl | rfl | rfl | rfl
    · exact (own_lt h.base.rn k hk).2
    · exact (own_lt h.base.rm k hk).2
    · exact (own_lt h.rx k hk).2
    · exact (own_lt h.ry k hk).2
  · rcases h1 u hu with p | p
    · rw [p] at hk; cases hk
    · exact p (by rw [hk, e])
/-- Held blocks are none of the book's own. -/
theorem Book2.heldNo (h : Book2 w B bk nv mv xv yv E F G next) : ∀ k ∈ held E F G, k ≠ bk ∧ ∀ v ∈ [nv, mv, xv, yv], v.ownBlock ≠ some k := by
  have key : ∀ (k : Nat) (cs : Array Value) (t : TypeId), w.heap[k]? = some (.cells cs t) → (t = 46 ∨ t = 49 ∨ t = 42) → xv.ownBlock ≠ some k → k ≠ bk ∧ ∀ v ∈ [nv, mv, xv, yv], v.ownBlock ≠ some k := by
    intro k cs t hc ht hx
    refine ⟨?_, fun v hv => ?_⟩
    · rintro rfl
      have := h.base.box
      rw [hc] at this
      simp at this
      rcases ht with rfl | rfl | rfl <;> exact absurd this.2 (by decide)
    · simp at hv
      rcases hv with rfl | rfl | rfl | rfl
      · exact own_no h.base.rn hc (by rcases ht with rfl | rfl | rfl <;> decide)
      · exact own_no h.base.rm hc (by rcases ht with rfl | rfl | rfl <;> decide)
      · exact hx
      · exact own_no h.ry hc (by rcases ht with rfl | rfl | rfl <;> decide)
  intro k hk
  rcases List.mem_append.1 hk with hk | hk
  · obtain ⟨x, hx, hxk⟩ := List.mem_filterMap.1 hk
    rcases h.base.mks x hx with e | ⟨g, n, c, cur, e, hh, _⟩
    · rw [e] at hxk; simp [Value.ownBlock] at hxk
    · rw [e] at hxk
      simp [Value.ownBlock] at hxk
      subst hxk
      exact key _ _ _ hh (Or.inl rfl) (own_no h.rx hh (by decide))
  · by_cases hkG : k ∈ G.flatMap GTri.held
    · obtain ⟨cs, t, hc, ht⟩ := h.heldTy k hk
      exact key k cs t hc ht (h.xap k hkG)
    · rcases List.mem_append.1 hk with hk | hk
      · obtain ⟨f, hf, hk⟩ := List.mem_flatMap.1 hk
        rcases List.mem_cons.1 hk with rfl | hk
        · exact key _ _ _ (h.fs f hf).atom (Or.inl rfl) (own_no h.rx (h.fs f hf).atom (by decide))
        · obtain ⟨v, hv, hvk⟩ := List.mem_filterMap.1 hk
          rcases (h.fs f hf).marks v hv with rfl | ⟨g, n, c, cur, rfl, hh, _⟩
          · simp [Value.ownBlock] at hvk
          · simp [Value.ownBlock] at hvk
            subst hvk
            exact key _ _ _ hh (Or.inr (Or.inl rfl)) (own_no h.rx hh (by decide))
      · exact absurd hk hkG
end
/-- On the way of a row into the book. -/
structure DSt (w : World) (B bk : Nat) (nv mv : Value) (L : List Value) (nv1 mv1 xv yv : Value) (E : List (Value × Int)) (F : List LTri) (G : List GTri) (m : Int) (e : TypeId) (el : List Value) (V : Value) (n : Nat) (row : List Value) (K : List (Nat × Obj)) (D : List Value) (wr : World) : Prop where
  book : Book2 wr B bk nv1 mv1 xv yv E F G m
  own : wr.ownsRow B e el.length V n row
  marks : ∀ d ∈ D, MkG e el wr d
  moved : ∀ d ∈ D, Moved w V d
  dap : ∀ d ∈ D, ∀ k, d.ownBlock = some k → xv.ownBlock ≠ some k
  far : AFar w wr bk nv mv L
  kept : ∀ p ∈ K, wr.heap[p.1]? = some p.2
  kne : ∀ p ∈ K, V.ownBlock ≠ some p.1
  ne : V.ownBlock ≠ some bk
  rows : ∀ v ∈ [nv1, mv1, xv, yv], v.ownBlock = none ∨ v.ownBlock ≠ V.ownBlock
  apart : ∀ k ∈ held E F G, V.ownBlock ≠ some k
  vL : V ∈ L
section
variable {w wr w2 w3 : World} {B bk : Nat} {nv mv nv1 mv1 xv yv V : Value} {L : List Value} {E : List (Value × Int)} {F : List LTri} {G : List GTri} {m : Int} {e : TypeId} {el row row2 : List Value} {n : Nat} {K : List (Nat × Obj)} {D : List Value}
theorem DSt.grown (h : DSt w B bk nv mv L nv1 mv1 xv yv E F G m e el V n row K D wr) (hg : wr.grownBy w2 V.ownBlock) (ho : w2.ownsRow B e el.length V n row2) (hm : ∀ d ∈ D, MkG e el w2 d) : DSt w B bk nv mv L nv1 mv1 xv yv E F G m e el V n row2 K D w2 :=
  ⟨h.book.far2 h.ne h.rows h.apart hg, ho, hm, h.moved, h.dap, h.far.grown h.vL (Moved.refl _ _) hg, fun p hp => by
    rw [hg.block p.1 (Array.getElem?_eq_some_iff.1 (h.kept p hp)).1 (fun e => h.kne p hp e.symm)]
    exact h.kept p hp, h.kne, h.ne, h.rows, h.apart, h.vL⟩
theorem DSt.below (h : DSt w B bk nv mv L nv1 mv1 xv yv E F G m e el V n row K D wr) (hb : Below wr.heap.size wr w2) : DSt w B bk nv mv L nv1 mv1 xv yv E F G m e el V n row K D w2 :=
  ⟨h.book.below hb, own_below h.own hb (Nat.le_refl _), fun d hd => (h.marks d hd).below hb, h.moved, h.dap, h.far.below hb, fun p hp => by
    rw [hb.block p.1 (Array.getElem?_eq_some_iff.1 (h.kept p hp)).1]
    exact h.kept p hp, h.kne, h.ne, h.rows, h.apart, h.vL⟩
/-- The full row is a list of the element itself. -/
theorem DSt.start (h : DSt w B bk nv mv L nv1 mv1 xv yv E F G m e el V n (rep n el) K [] wr) (hn : n ≤ 1000000000000) : DSt w B bk nv mv L nv1 mv1 xv yv E F G m e el V n (rep n el) K [V] wr := by
  refine ⟨h.book, h.own, fun d hd => ?_, fun d hd => ?_, fun d hd => ?_, h.far, h.kept, h.kne, h.ne, h.rows, h.apart, h.vL⟩
  · simp at hd; subst hd; exact MkG.of_own h.own hn
  · simp at hd; subst hd; exact Moved.refl _ _
  · simp at hd
    subst hd
    intro k hk e'
    rcases h.rows xv (by simp) with p | p
    · rw [p] at e'; cases e'
    · exact p (by rw [e', hk])
/-- One list more is made of the full row. -/
theorem DSt.next (h : DSt w B bk nv mv L nv1 mv1 xv yv E F G m e el V n (rep n el) K D wr) {X : Obj} {k : Nat} {v' : Value} (r1 : w3.ownsRow B e el.length v' (n + k) (rep (n + k) el)) (r2 : w3.ownsRow B e el.length V n (rep n el)) (r3 : (wr.alloc X).grownBy w3 V.ownBlock) (r4 : Moved (wr.alloc X) V v') (r5 : ∀ u, MkG e el (wr.alloc X) u → MkG e el w3 u) (hn : n + k ≤ 1000000000000) :
    DSt w B bk nv mv L nv1 mv1 xv yv E F G m e el V n (rep n el) K (D ++ [v']) w3 := by
  have hb : Below wr.heap.size wr (wr.alloc X) := (Below.refl _ _).alloc (Nat.le_refl _) X
  have h1 := (h.below hb).grown r3 r2 (fun d hd => r5 d ((h.below hb).marks d hd))
  have hws := h.far.size
  refine ⟨h1.book, h1.own, fun d hd => ?_, fun d hd => ?_, fun d hd => ?_, h1.far, h1.kept, h1.kne, h1.ne, h1.rows, h1.apart, h1.vL⟩
  · rcases List.mem_append.1 hd with hd | hd
    · exact h1.marks d hd
    · simp at hd
      subst hd
      exact MkG.of_own r1 hn
  · rcases List.mem_append.1 hd with hd | hd
    · exact h.moved d hd
    · simp at hd
      subst hd
      exact (Moved.refl w V).trans r4 (by simp; omega)
  · rcases List.mem_append.1 hd with hd | hd
    · exact h.dap d hd
    · simp at hd
      subst hd
      intro k hk e'
      rcases r4 with r4 | ⟨g, r4, hg⟩
      · rcases h.rows xv (by simp) with p | p
        · rw [p] at e'; cases e'
        · exact p (by rw [e', ← r4, hk])
      · rw [r4] at hk
        simp at hk
        have := (own_lt h.book.rx k e').2
        simp at hg
        omega
/-- The book's row of lists of literals gets three more. -/
theorem DSt.lits {ga : Nat} {one two xv' : Value} (h : DSt w B bk nv mv L nv1 mv1 xv yv E F G m 49 (litEl ga) V n (rep n (litEl ga)) K [V, one, two] wr) (hx : xv ∈ L) (hga : (ga, .cells #[.string ⟨#[61]⟩, .int .i64 m] 46) ∈ K) (hgs : w.heap.size ≤ ga) (hone : ∃ a n c, one = .slice a (n + 1) c) {X : Obj} (r1 : w3.ownsRow B 42 1 xv' (F.length * 3 + 3) (F.flatMap LTri.vals ++ [V, one, two])) (r2 : (wr.alloc X).grownBy w3 xv.ownBlock) (r3 : Moved (wr.alloc X) xv xv') (hf : F.length < 1000000000) :
    (Book2 (w3.setCell ⟨bk, 2, none⟩ xv') B bk nv1 mv1 xv' yv E (F ++ [⟨V, one, two, ga, m⟩]) G m ∧ AFar w (w3.setCell ⟨bk, 2, none⟩ xv') bk nv mv L ∧ Moved w xv xv' ∧ ∀ k ∈ held E (F ++ [⟨V, one, two, ga, m⟩]) G, k ∈ held E F G ∨ V.ownBlock = some k ∨ w.heap.size ≤ k) ∧ w3.cell? ⟨bk, 2, none⟩ = some xv ∧ w3.frozen? ⟨bk, 2, none⟩ = false := by
  have hb : Below wr.heap.size wr (wr.alloc X) := (Below.refl _ _).alloc (Nat.le_refl _) X
  have ha := h.below hb
  have hws := h.far.size
  have hne : xv.ownBlock ≠ some bk := own_ne_box ha.book.rx ha.book.base.box (by decide)
  have hbx : w3.heap[bk]? = some (.cells (bookC (xv, yv) nv1 mv1 m) 31) := by rw [r2.block bk ha.book.base.lt (fun e => hne e.symm), ha.book.base.box]
  have hset := grown_setCell w3 ⟨bk, 2, none⟩ xv'
  have hblk : ∀ k, k < (wr.alloc X).heap.size → k ≠ bk → xv.ownBlock ≠ some k → (w3.setCell ⟨bk, 2, none⟩ xv').heap[k]? = (wr.alloc X).heap[k]? := by
    intro k h1 h2 h3
    rw [hset.block k (Nat.lt_of_lt_of_le h1 r2.size) (by simpa using h2), r2.block k h1 (fun e => h3 e.symm)]
  have hheld : ∀ k ∈ held E F G, (w3.setCell ⟨bk, 2, none⟩ xv').heap[k]? = (wr.alloc X).heap[k]? := by
    intro k hk
    obtain ⟨p, q⟩ := ha.book.heldNo k hk
    exact hblk k (ha.book.heldLt k hk) p (q xv (by simp))
  have hty : ∀ (k : Nat) (cs : Array Value) (t : TypeId), (wr.alloc X).heap[k]? = some (.cells cs t) → t ≠ 31 → t ≠ 42 → (w3.setCell ⟨bk, 2, none⟩ xv').heap[k]? = (wr.alloc X).heap[k]? := by
    intro k cs t hk h1 h2
    refine hblk k (Array.getElem?_eq_some_iff.1 hk).1 ?_ (own_no ha.book.rx hk (fun e => h2 e.symm))
    rintro rfl
    have := ha.book.base.box
    rw [hk] at this
    simp at this
    exact h1 this.2
  have hl : (F ++ [(⟨V, one, two, ga, m⟩ : LTri)]).length = F.length + 1 := by simp
  have hfl : (F ++ [(⟨V, one, two, ga, m⟩ : LTri)]).flatMap LTri.vals = F.flatMap LTri.vals ++ [V, one, two] := by simp [LTri.vals]
  refine ⟨⟨⟨⟨heap_set hbx, ha.book.base.high, ?_, ?_, ?_, ha.book.base.few, ha.book.base.lo, ha.book.base.hi⟩, ?_, ?_, ?_, ?_, by rw [hl]; omega, ha.book.fewG, ?_⟩, ((h.far.below hb).grown hx (Moved.refl _ _) r2).setB 2 _, (Moved.refl w xv).trans r3 (by simp; omega), ?_⟩, by simp [World.cell?, hbx], by simp [World.frozen?, hbx]⟩
  · exact own_setB (own_grown ha.book.base.rn r2 (own_apart ha.book.base.rn ha.book.rx (by decide))) hbx (by decide)
  · exact own_setB (own_grown ha.book.base.rm r2 (own_apart ha.book.base.rm ha.book.rx (by decide))) hbx (by decide)
  · exact fun x hx => (ha.book.base.mks x hx).same fun k hk => hheld k (List.mem_append.2 (Or.inl (List.mem_filterMap.2 ⟨x, hx, hk⟩)))
  · rw [hl, hfl, show (F.length + 1) * 3 = F.length * 3 + 3 by omega]
    exact own_setB r1 hbx (by decide)
  · exact own_setB (own_grown ha.book.ry r2 (own_apart ha.book.ry ha.book.rx (by decide))) hbx (by decide)
  · intro f hf
    rcases List.mem_append.1 hf with hf | hf
    · exact (ha.book.fs f hf).same fun k hk => hheld k (List.mem_append.2 (Or.inr (List.mem_append.2 (Or.inl (List.mem_flatMap.2 ⟨f, hf, hk⟩)))))
    · simp at hf
      subst hf
      refine ⟨fun v hv => ?_, hone, ?_⟩
      · have hm := ha.marks v hv
        refine hm.same fun k hk => ?_
        rcases hm with rfl | ⟨g, n', c, cur, rfl, hh, _⟩
        · simp [Value.ownBlock] at hk
        · simp [Value.ownBlock] at hk
          subst hk
          exact hty _ _ _ hh (by decide) (by decide)
      · have := ha.kept _ hga
        rw [hty _ _ _ this (by decide) (by decide)]
        exact this
  · exact fun f hf => (ha.book.gs f hf).same fun k hk => hheld k (List.mem_append.2 (Or.inr (List.mem_append.2 (Or.inr (List.mem_flatMap.2 ⟨f, hf, hk⟩)))))
  · intro k hk e'
    rcases r3 with r3 | ⟨g, r3, hg⟩
    · exact ha.book.xap k hk (by rw [← r3, e'])
    · have := ha.book.heldLt k (List.mem_append.2 (Or.inr (List.mem_append.2 (Or.inr hk))))
      rw [r3] at e'
      simp at e'
      omega
  · intro k hk
    unfold Go.Proofs.Ytcpdadppblbndaa.held at hk ⊢
    rcases List.mem_append.1 hk with hk | hk
    · exact Or.inl (List.mem_append.2 (Or.inl hk))
    · rcases List.mem_append.1 hk with hk | hk
      · rw [List.flatMap_append] at hk
        rcases List.mem_append.1 hk with hk | hk
        · exact Or.inl (List.mem_append.2 (Or.inr (List.mem_append.2 (Or.inl hk))))
        · simp only [List.flatMap_cons, List.flatMap_nil, List.append_nil] at hk
          rcases List.mem_cons.1 hk with rfl | hk
          · exact Or.inr (Or.inr hgs)
          · obtain ⟨v, hv, hvk⟩ := List.mem_filterMap.1 hk
            rcases h.moved v hv with q | ⟨g, q, hg⟩
            · exact Or.inr (Or.inl (by rw [← q, hvk]))
            · rw [q] at hvk
              simp at hvk
              exact Or.inr (Or.inr (by omega))
      · exact Or.inl (List.mem_append.2 (Or.inr (List.mem_append.2 (Or.inr hk))))
/-- The book's row of lists of clauses gets three more. -/
theorem DSt.lists {gl ga : Nat} {one two yv' : Value} (h : DSt w B bk nv mv L nv1 mv1 xv yv E F G m 42 (lisEl gl) V n (rep n (lisEl gl)) K [V, one, two] wr) (hy : yv ∈ L) (hga : (ga, .cells #[.string ⟨#[61]⟩, .int .i64 m] 46) ∈ K) (hgl : (gl, .cells (litEl ga).toArray 49) ∈ K) (hgs : w.heap.size ≤ ga ∧ w.heap.size ≤ gl) (hone : ∃ a n c, one = .slice a (n + 1) c) {X : Obj} (r1 : w3.ownsRow B 26 1 yv' (G.length * 3 + 3) (G.flatMap GTri.vals ++ [V, one, two])) (r2 : (wr.alloc X).grownBy w3 yv.ownBlock) (r3 : Moved (wr.alloc X) yv yv') (hf : G.length < 1000000000) :
    (Book2 (w3.setCell ⟨bk, 3, none⟩ yv') B bk nv1 mv1 xv yv' E F (G ++ [⟨V, one, two, gl, ga, m⟩]) m ∧ AFar w (w3.setCell ⟨bk, 3, none⟩ yv') bk nv mv L ∧ Moved w yv yv' ∧ ∀ k ∈ held E F (G ++ [⟨V, one, two, gl, ga, m⟩]), k ∈ held E F G ∨ V.ownBlock = some k ∨ w.heap.size ≤ k) ∧ w3.cell? ⟨bk, 3, none⟩ = some yv ∧ w3.frozen? ⟨bk, 3, none⟩ = false := by
  have hb : Below wr.heap.size wr (wr.alloc X) := (Below.refl _ _).alloc (Nat.le_refl _) X
  have ha := h.below hb
  have hws := h.far.size
  have hne : yv.ownBlock ≠ some bk := own_ne_box ha.book.ry ha.book.base.box (by decide)
  have hbx : w3.heap[bk]? = some (.cells (bookC (xv, yv) nv1 mv1 m) 31) := by rw [r2.block bk ha.book.base.lt (fun e => hne e.symm), ha.book.base.box]
  have hset := grown_setCell w3 ⟨bk, 3, none⟩ yv'
  have hblk : ∀ k, k < (wr.alloc X).heap.size → k ≠ bk → yv.ownBlock ≠ some k → (w3.setCell ⟨bk, 3, none⟩ yv').heap[k]? = (wr.alloc X).heap[k]? := by
    intro k h1 h2 h3
    rw [hset.block k (Nat.lt_of_lt_of_le h1 r2.size) (by simpa using h2), r2.block k h1 (fun e => h3 e.symm)]
  have hheld : ∀ k ∈ held E F G, (w3.setCell ⟨bk, 3, none⟩ yv').heap[k]? = (wr.alloc X).heap[k]? := by
    intro k hk
    obtain ⟨p, q⟩ := ha.book.heldNo k hk
    exact hblk k (ha.book.heldLt k hk) p (q yv (by simp))
  have hty : ∀ (k : Nat) (cs : Array Value) (t : TypeId), (wr.alloc X).heap[k]? = some (.cells cs t) → t ≠ 31 → t ≠ 26 → (w3.setCell ⟨bk, 3, none⟩ yv').heap[k]? = (wr.alloc X).heap[k]? := by
    intro k cs t hk h1 h2
    refine hblk k (Array.getElem?_eq_some_iff.1 hk).1 ?_ (own_no ha.book.ry hk (fun e => h2 e.symm))
    rintro rfl
    have := ha.book.base.box
    rw [hk] at this
    simp at this
    exact h1 this.2
  have hl : (G ++ [(⟨V, one, two, gl, ga, m⟩ : GTri)]).length = G.length + 1 := by simp
  have hfl : (G ++ [(⟨V, one, two, gl, ga, m⟩ : GTri)]).flatMap GTri.vals = G.flatMap GTri.vals ++ [V, one, two] := by simp [GTri.vals]
  have kga := ha.kept _ hga
  have kgl := ha.kept _ hgl
  refine ⟨⟨⟨⟨heap_set hbx, ha.book.base.high, ?_, ?_, ?_, ha.book.base.few, ha.book.base.lo, ha.book.base.hi⟩, ?_, ?_, ?_, ?_, ha.book.fewF, by rw [hl]; omega, ?_⟩, ((h.far.below hb).grown hy (Moved.refl _ _) r2).setB 3 _, (Moved.refl w yv).trans r3 (by simp; omega), ?_⟩, by simp [World.cell?, hbx], by simp [World.frozen?, hbx]⟩
  · exact own_setB (own_grown ha.book.base.rn r2 (own_apart ha.book.base.rn ha.book.ry (by decide))) hbx (by decide)
  · exact own_setB (own_grown ha.book.base.rm r2 (own_apart ha.book.base.rm ha.book.ry (by decide))) hbx (by decide)
  · exact fun x hx => (ha.book.base.mks x hx).same fun k hk => hheld k (List.mem_append.2 (Or.inl (List.mem_filterMap.2 ⟨x, hx, hk⟩)))
  · exact own_setB (own_grown ha.book.rx r2 (own_apart ha.book.rx ha.book.ry (by decide))) hbx (by decide)
  · rw [hl, hfl, show (G.length + 1) * 3 = G.length * 3 + 3 by omega]
    exact own_setB r1 hbx (by decide)
  · exact fun f hf => (ha.book.fs f hf).same fun k hk => hheld k (List.mem_append.2 (Or.inr (List.mem_append.2 (Or.inl (List.mem_flatMap.2 ⟨f, hf, hk⟩)))))
  · intro f hf
    rcases List.mem_append.1 hf with hf | hf
    · exact (ha.book.gs f hf).same fun k hk => hheld k (List.mem_append.2 (Or.inr (List.mem_append.2 (Or.inr (List.mem_flatMap.2 ⟨f, hf, hk⟩)))))
    · simp at hf
      subst hf
      refine ⟨fun v hv => ?_, hone, ?_, ?_⟩
      · have hm := ha.marks v hv
        refine hm.same fun k hk => ?_
        rcases hm with rfl | ⟨g, n', c, cur, rfl, hh, _⟩
        · simp [Value.ownBlock] at hk
        · simp [Value.ownBlock] at hk
          subst hk
          exact hty _ _ _ hh (by decide) (by decide)
      · rw [hty _ _ _ kgl (by decide) (by decide)]
        exact kgl
      · rw [hty _ _ _ kga (by decide) (by decide)]
        exact kga
  · intro k hk
    rw [List.flatMap_append] at hk
    rcases List.mem_append.1 hk with hk | hk
    · exact ha.book.xap k hk
    · simp only [List.flatMap_cons, List.flatMap_nil, List.append_nil] at hk
      rcases List.mem_cons.1 hk with rfl | hk
      · exact own_no ha.book.rx kgl (by decide)
      · rcases List.mem_cons.1 hk with rfl | hk
        · exact own_no ha.book.rx kga (by decide)
        · obtain ⟨v, hv, hvk⟩ := List.mem_filterMap.1 hk
          exact h.dap v hv k hvk
  · intro k hk
    unfold Go.Proofs.Ytcpdadppblbndaa.held at hk ⊢
    rcases List.mem_append.1 hk with hk | hk
    · exact Or.inl (List.mem_append.2 (Or.inl hk))
    · rcases List.mem_append.1 hk with hk | hk
      · exact Or.inl (List.mem_append.2 (Or.inr (List.mem_append.2 (Or.inl hk))))
      · rw [List.flatMap_append] at hk
        rcases List.mem_append.1 hk with hk | hk
        · exact Or.inl (List.mem_append.2 (Or.inr (List.mem_append.2 (Or.inr hk))))
        · simp only [List.flatMap_cons, List.flatMap_nil, List.append_nil] at hk
          rcases List.mem_cons.1 hk with rfl | hk
          · exact Or.inr (Or.inr hgs.2)
          · rcases List.mem_cons.1 hk with rfl | hk
            · exact Or.inr (Or.inr hgs.1)
            · obtain ⟨v, hv, hvk⟩ := List.mem_filterMap.1 hk
              rcases h.moved v hv with q | ⟨g, q, hg⟩
              · exact Or.inr (Or.inl (by rw [← q, hvk]))
              · rw [q] at hvk
                simp at hvk
                exact Or.inr (Or.inr (by omega))
end
/-- Values that stand in a new block. -/
theorem news_rep (w : World) (X : List Value) (t : TypeId) : ∀ j u, X[j]? = some u → (w.alloc (.cells X.toArray t)).cell? ((⟨w.heap.size, 0, none⟩ : Addr).add j) = some u := by
  intro j u hj
  have h : (w.alloc (.cells X.toArray t)).heap[w.heap.size]? = some (.cells X.toArray t) := by
    show (w.heap.push _)[w.heap.size]? = _
    simp
  have e : (⟨w.heap.size, 0, none⟩ : Addr).add j = ⟨w.heap.size, j, none⟩ := by by_cases hj0 : j = 0 <;> simp [Addr.add, hj0]
  rw [e]
  unfold World.cell?
  simp only [h]
  simpa using hj
theorem wpList_append_rep {ops : Array Oper} {rest : List Oper} {o : Oper} {a : Act} {w : World} {Q : Exit → Act → World → Prop} (hgd : o.guard = none) (s x : Operand) (t e : TypeId) (hop : o.op = .call { callee := .builtin .append, args := #[s, x], argTypes := #[t, t] })
    (el : List Value) (z : Value) (bytes : Nat) (ht : Try.prog.underlying t = some (.slice e)) (hinfo : (Try.prog.info? e).map (fun i => (i.zero, i.size, i.bytes)) = some (some z, el.length, bytes)) (hz1 : z.cells.size = el.length) (hsz0 : 0 < el.length) (hby : bytes ≤ 40) (h1 : ∀ u ∈ el, u.oneCell' = true)
    (B : Nat) (v : Value) (n : Nat) (hs : a.eval s = v) (ho : w.ownsRow B e el.length v n (rep n el)) (hB : B ≤ w.heap.size) (ad : Addr) (k c : Nat) (hx : a.eval x = .slice (some ad) k c) (hk : 0 < k ∧ k ≤ 3) (hn : n ≤ 100000000000) (hnews : ∀ j u, (rep k el)[j]? = some u → w.cell? (ad.add j) = some u)
    (h : ∀ v' w', w'.ownsRow B e el.length v' (n + k) (rep (n + k) el) → w'.ownsRow B e el.length v n (rep n el) → w.grownBy w' v.ownBlock → Moved w v v' → (∀ u, MkG e el w u → MkG e el w' u) → wpList Try.prog ops Q rest (a.put o.dst v') w') : wpList Try.prog ops Q (o :: rest) a w := by
  refine wpList_plain hgd fun K hK' => ?_
  obtain ⟨v', w', hr, h1, h2, h3, h4, h5⟩ := run_append_rep w t o.type e el z bytes ht hinfo hz1 hsz0 hby h1 B v n ho hB ad k c hk hn hnews
  unfold Oper.wp execOp
  simp only [hop, resolve, invoke, builtin, Sem.run_bind, Sem.run_pure, Result.andThen_ok, List.map_toArray, List.map_cons, List.map_nil, hs, hx, hr]
  exact hK' _ _ (h v' w' h1 h2 h3 h4 h5)
theorem news3v (w : World) (a b c : Value) (t : TypeId) : ∀ j u, [a, b, c][j]? = some u → (w.alloc (.cells #[a, b, c] t)).cell? ((⟨w.heap.size, 0, none⟩ : Addr).add j) = some u := news_rep w [a, b, c] t
theorem one3v (a b c : Option Addr) (n1 n2 n3 c1 c2 c3 : Nat) : ∀ u ∈ [Value.slice a n1 c1, .slice b n2 c2, .slice c n3 c3], u.oneCell' = true := by
  intro u hu
  simp at hu
  rcases hu with rfl | rfl | rfl <;> rfl

end Go.Proofs.Ytcpdadppblbndaa

namespace Go.Proofs.Ytcpdadppblbndaa
open Go.RowKit Go.Shelf
set_option maxRecDepth 100000

/-- Two rows are no one block. -/
theorem nodup_take {L : List Value} (h : (L.filterMap Value.ownBlock).Nodup) {k j : Nat} (hk : k < L.length) (hj : L[k].ownBlock = some j) : ∀ v ∈ L.take k, v.ownBlock ≠ some j := by
  intro v hv e
  have hl : L = L.take k ++ L[k] :: L.drop (k + 1) := by rw [← List.drop_eq_getElem_cons hk, List.take_append_drop]
  rw [hl, List.filterMap_append, List.nodup_append] at h
  exact h.2.2 j (List.mem_filterMap.2 ⟨v, hv, e⟩) j (List.mem_filterMap.2 ⟨L[k], List.mem_cons_self .., hj⟩) rfl
/-- What is still to be taken lies as it lay. -/
theorem ASt.ready {w wr : World} {B bk : Nat} {nv mv xv yv nv1 mv1 c : Value} {E E1 : List (Value × Int)} {F : List LTri} {G : List GTri} {next : Int} {Q : List (Lt × Value)} {k : Nat} (h : ASt w B bk nv mv xv yv E F G next (Q.map Prod.snd) k wr nv1 mv1 E1) (h0 : Book2 w B bk nv mv xv yv E F G next) (hr : w.ownsRow B 49 2 c Q.length (litCells Q)) (ha : ∀ q ∈ Q, OwnN w B q.2 q.1.2) (hnd : ((Q.map Prod.snd).filterMap Value.ownBlock).Nodup) (hap : ∀ k ∈ Go.Proofs.Ytcpdadppblbndaa.held E F G, c.ownBlock ≠ some k ∧ ∀ q ∈ Q, q.2.ownBlock ≠ some k) :
    wr.ownsRow B 49 2 c Q.length (litCells Q) ∧ ∀ hk : k < Q.length, OwnN wr B Q[k].2 Q[k].1.2 ∧ ∀ j ∈ Go.Proofs.Ytcpdadppblbndaa.held E1 F G, Q[k].2.ownBlock ≠ some j := by
  have key : ∀ {e : TypeId} {s n : Nat} {v : Value} {xs : List Value}, w.ownsRow B e s v n xs → e ≠ 31 → e ≠ 44 → e ≠ 3 → (∀ j, v.ownBlock = some j → ∀ u ∈ (Q.map Prod.snd).take k, u.ownBlock ≠ some j) → wr.ownsRow B e s v n xs := by
    intro e s n v xs hv h1 h2 h3 h4
    refine own_same hv fun j hj => h.far.block j (own_lt hv j hj).2 ?_ ?_ ?_ (h4 j hj)
    · rintro rfl
      exact own_ne_box hv h0.base.box h1 hj
    · intro e'
      rcases own_apart hv h0.base.rn h2 with q | q
      · rw [q] at hj; cases hj
      · exact q (by rw [hj, e'])
    · intro e'
      rcases own_apart hv h0.base.rm h3 with q | q
      · rw [q] at hj; cases hj
      · exact q (by rw [hj, e'])
  refine ⟨key hr (by decide) (by decide) (by decide) fun j hj u hu e' => ?_, fun hk => ⟨key (ha Q[k] (List.getElem_mem _)) (by decide) (by decide) (by decide) fun j hj => ?_, fun j hj e' => ?_⟩⟩
  · obtain ⟨q, hq, rfl⟩ := List.mem_map.1 (List.mem_of_mem_take hu)
    rcases own_apart (ha q hq) hr (by decide) with p | p
    · rw [p] at e'; cases e'
    · exact p (by rw [e', hj])
  · exact nodup_take hnd (k := k) (by simpa using hk) (by simpa using hj)
  · rcases h.held j hj with p | ⟨v, hv, hvj⟩ | p
    · exact (hap j p).2 Q[k] (List.getElem_mem _) e'
    · exact nodup_take hnd (k := k) (j := j) (by simpa using hk) (by simpa using e') v hv hvj
    · have := (own_lt (ha Q[k] (List.getElem_mem _)) j e').2
      omega

/-- The atoms are taken, the mark is drawn, the element is made. -/
theorem ASt.full {w wr : World} {B bk : Nat} {nv mv xv yv nv1 mv1 c : Value} {E E1 : List (Value × Int)} {F : List LTri} {G : List GTri} {next : Int} {Q : List (Lt × Value)} (h : ASt w B bk nv mv xv yv E F G next (Q.map Prod.snd) Q.length wr nv1 mv1 E1) (hr : w.ownsRow B 49 2 c Q.length (litCells Q)) (hr' : wr.ownsRow B 49 2 c Q.length (litCells Q)) (ha : ∀ q ∈ Q, OwnN w B q.2 q.1.2) (hap : ∀ k ∈ Go.Proofs.Ytcpdadppblbndaa.held E F G, c.ownBlock ≠ some k) (hlo : -10000000000 ≤ next - Q.length - 1) (hhi : next - Q.length - 1 ≤ 0) :
    DSt w B bk nv mv (xv :: c :: Q.map Prod.snd) nv1 mv1 xv yv E1 F G (next - Q.length - 1) 49 (litEl wr.heap.size) c Q.length (litCells Q) [(wr.heap.size, .cells #[.string ⟨#[61]⟩, .int .i64 (next - Q.length - 1)] 46), (wr.heap.size + 1, .cells (litEl wr.heap.size).toArray 49)] [] (((wr.setCell ⟨bk, 8, none⟩ (.int .i64 (next - Q.length - 1))).alloc (.cells #[.string ⟨#[61]⟩, .int .i64 (next - Q.length - 1)] 46)).alloc (.cells (litEl wr.heap.size).toArray 49)) := by
  have hs1 : (wr.setCell ⟨bk, 8, none⟩ (.int .i64 (next - Q.length - 1))).heap.size = wr.heap.size := by simp [World.setCell]
  have hbox := h.book.base.box
  have hlt : ∀ k, c.ownBlock = some k → k < wr.heap.size := fun k hk => (own_lt hr' k hk).2
  have hbN := h.book.setNext hlo hhi
  have hrN := own_setB (j := 8) (x := .int .i64 (next - Q.length - 1)) hr' hbox (by decide)
  have hfN := (h.far.mono (L' := xv :: c :: Q.map Prod.snd) (fun v hv => List.mem_cons_of_mem _ (List.mem_cons_of_mem _ (List.mem_of_mem_take hv)))).setB 8 (.int .i64 (next - Q.length - 1))
  generalize next - (Q.length : Int) - 1 = m at *
  generalize wr.setCell ⟨bk, 8, none⟩ (.int .i64 m) = wn at *
  have hb1 : Below wn.heap.size wn (wn.alloc (.cells #[.string ⟨#[61]⟩, .int .i64 m] 46)) := (Below.refl _ _).alloc (Nat.le_refl _) _
  have hb : Below wn.heap.size wn ((wn.alloc (.cells #[.string ⟨#[61]⟩, .int .i64 m] 46)).alloc (.cells (litEl wr.heap.size).toArray 49)) := hb1.alloc (by simp) _
  have k1 : ((wn.alloc (.cells #[.string ⟨#[61]⟩, .int .i64 m] 46)).alloc (.cells (litEl wr.heap.size).toArray 49)).heap[wr.heap.size]? = some (.cells #[.string ⟨#[61]⟩, .int .i64 m] 46) := by
    rw [← hs1]
    show ((wn.heap.push _).push _)[wn.heap.size]? = _
    rw [Array.getElem?_push_lt (by simp)]
    simp
  have k2 : ((wn.alloc (.cells #[.string ⟨#[61]⟩, .int .i64 m] 46)).alloc (.cells (litEl wr.heap.size).toArray 49)).heap[wr.heap.size + 1]? = some (.cells (litEl wr.heap.size).toArray 49) := by
    have e : wr.heap.size + 1 = (wn.heap.push (.cells #[.string ⟨#[61]⟩, .int .i64 m] 46)).size := by simp [hs1]
    rw [e]
    show ((wn.heap.push _).push _)[(wn.heap.push _).size]? = _
    rw [Array.getElem?_push_size]
  refine ⟨hbN.below hb, own_below hrN hb (Nat.le_refl _), by simp, by simp, by simp, hfN.below hb, ?_, ?_, own_ne_box hr' hbox (by decide), ?_, ?_, by simp⟩
  · intro p hp
    simp only [List.mem_cons, List.not_mem_nil, or_false] at hp
    rcases hp with rfl | rfl
    · exact k1
    · exact k2
  · intro p hp e
    simp only [List.mem_cons, List.not_mem_nil, or_false] at hp
    rcases hp with rfl | rfl
    · have := hlt _ e; omega
    · have := hlt _ e; omega
  · intro v hv
    simp at hv
    rcases hv with rfl | rfl | rfl | rfl
    · exact own_apart h.book.base.rn hr' (by decide)
    · exact own_apart h.book.base.rm hr' (by decide)
    · exact own_apart h.book.rx hr' (by decide)
    · exact own_apart h.book.ry hr' (by decide)
  · intro j hj e
    rcases h.held j hj with p | ⟨v, hv, hvj⟩ | p
    · exact hap j p e
    · obtain ⟨q, hq, rfl⟩ := List.mem_map.1 (List.mem_of_mem_take hv)
      rcases own_apart (ha q hq) hr (by decide) with p | p
      · rw [p] at hvj; cases hvj
      · exact p (by rw [hvj, e])
    · have := (own_lt hr j e).2
      omega

end Go.Proofs.Ytcpdadppblbndaa
