/- The program's parser: the clauses that it has read, in memory. The whole book takes a list of nodes. The book takes the atoms of a clause. The book while a clause is written full. A row of two-celled elements is written full. -/
import Derived.Test.YtcpdadppblbndaaGPartsM
import Derived.Test.YtcpdadppblbndaaSCl0M
import Derived.Test.YtcpdadppblbndaaBMarkM
namespace Go.Proofs.Ytcpdadppblbndaa
open Go.RowKit Go.WideMaps
set_option maxRecDepth 100000

/-- A clause as it was read: where it begins, its literals, and their row. -/
abbrev Pc := (Nat × List (Lt × Value)) × Value
def pcCells (CV : List Pc) : List Value := CV.flatMap fun p => [.int .i64 p.1.1, p.2]
theorem pcCells_snoc (CV : List Pc) (p : Pc) : pcCells (CV ++ [p]) = pcCells CV ++ [.int .i64 p.1.1, p.2] := by simp [pcCells]
/-- The clauses in memory. -/
structure CsIn (B : Nat) (w : World) (vC : Value) (CV : List Pc) : Prop where
  row : w.ownsRow B 100 2 vC CV.length (pcCells CV)
  each : ∀ p ∈ CV, ClR w B (p.1.2, p.2)
/-- What a clause is. -/
def pcOf (p : Pc) : Nat × List Lt := (p.1.1, p.1.2.map Prod.fst)
/-- Between two clauses. -/
structure TxIn (B : Nat) (w : World) (pb : Nat) (s : ByteArray) (T : List Tk) (st : PSt) (g : Nat) (vC vP : Value) (CV : List Pc) : Prop where
  pp : ∃ vM, PPx B w pb s T st.i g vC vP vM
  places : w.ownsRow B 3 1 vP st.places.length (atsP st.places)
  cs : CsIn B w vC CV
theorem CsIn.keep {B : Nat} {w w' : World} {vC : Value} {CV : List Pc} (h : CsIn B w vC CV) (k : ∀ e size v n xs, (e = 100 ∨ e = 49 ∨ e = 46) → (e = 100 → v = vC) → w.ownsRow B e size v n xs → w'.ownsRow B e size v n xs) : CsIn B w' vC CV :=
  ⟨k _ _ _ _ _ (Or.inl rfl) (fun _ => rfl) h.row, fun p hp => ⟨k _ _ _ _ _ (Or.inr (Or.inl rfl)) (fun e => absurd e (by decide)) (h.each p hp).1, fun q hq => k _ _ _ _ _ (Or.inr (Or.inr rfl)) (fun e => absurd e (by decide)) ((h.each p hp).2 q hq)⟩⟩
theorem CsIn.below {B : Nat} {w w' : World} {vC : Value} {CV : List Pc} (h : CsIn B w vC CV) (k : Below w.heap.size w w') : CsIn B w' vC CV :=
  h.keep fun _ _ _ _ _ _ _ ho => own_below ho k (Nat.le_refl _)
theorem not_box {e : TypeId} (h : e = 100 ∨ e = 49 ∨ e = 46) : e ≠ 78 ∧ e ≠ 3 := by
  rcases h with rfl | rfl | rfl <;> decide
theorem CsIn.take {B : Nat} {w w' : World} {vC : Value} {CV : List Pc} {pb : Nat} {left : Value} {k a : Int} {wd : ByteArray} {vC' vP vM : Value} (h : CsIn B w vC CV) (hb : ParBox w pb left k a wd vC' vP vM) (hg : w.grownBy w' (some pb)) : CsIn B w' vC CV :=
  h.keep fun _ _ _ _ _ he _ ho => ho.kept hg (hb.apart ho (not_box he).1)
theorem CsIn.kept {B mg n : Nat} {w w' : World} {vC : Value} {CV : List Pc} {D : DataW Unit} (h : CsIn B w vC CV) (hm : w.ownsMap Try.prog 9 sElem mg n D) (hk : KeptQ B w.heap.size mg w w') : CsIn B w' vC CV :=
  h.keep fun _ _ _ _ _ he _ ho => hk.own ho ⟨(not_box he).2, (not_box he).1⟩ (fun _ => Nat.le_refl _) (row_no_map ho hm)
/-- A block that no row is. -/
theorem own_no {B : Nat} {w : World} {e t : TypeId} {size : Nat} {v : Value} {n : Nat} {xs : List Value} {lb : Nat} {cs : Array Value} {fr : Nat × Nat} (ho : w.ownsRow B e size v n xs) (ht : w.heap[lb]? = some (.cells cs t fr)) (he : e ≠ t) : v.ownBlock ≠ some lb := by
  intro e'
  obtain ⟨_, ⟨rfl, _⟩ | ⟨g', cap, cur, rfl, _, hh, _⟩⟩ := ho
  · simp [Value.ownBlock] at e'
  · simp [Value.ownBlock] at e'
    subst e'
    rw [hh] at ht
    simp at ht
    exact he ht.2.1
/-- The clause's own box is written. -/
theorem QIn.other {B : Nat} {w w' : World} {pb : Nat} {s : ByteArray} {T : List Tk} {st : PSt} {g mg : Nat} {vC vP : Value} {lb : Nat} {cs : Array Value} {fr : Nat × Nat} (h : QIn B w pb s T st g vC vP mg) (ht : w.heap[lb]? = some (.cells cs 100 fr)) (hg : w.grownBy w' (some lb)) : QIn B w' pb s T st g vC vP mg := by
  obtain ⟨D, h1, h2⟩ := h.map
  obtain ⟨left, hb, _⟩ := h.pp.box
  obtain ⟨cs', fr', hgl⟩ := h.pp.glyph
  refine ⟨h.pp.far hg ?_ ?_, h.places.kept hg (Or.inr (own_no h.places ht (by decide))), ⟨D, h1.kept hg ?_, h2⟩, h.mhigh⟩
  · intro e
    simp at e
    subst e
    unfold ParBox at hb
    rw [ht] at hb
    simp at hb
  · intro e
    simp at e
    subst e
    rw [ht] at hgl
    simp at hgl
  · intro e
    simp at e
    subst e
    obtain ⟨es, cl, hh, _⟩ := h1
    rw [ht] at hh
    cases hh
theorem CsIn.other {B : Nat} {w w' : World} {vC : Value} {CV : List Pc} {lb : Nat} {cs : Array Value} {fr : Nat × Nat} (h : CsIn B w vC CV) (ht : w.heap[lb]? = some (.cells cs 100 fr)) (hne : vC.ownBlock ≠ some lb) (hg : w.grownBy w' (some lb)) : CsIn B w' vC CV :=
  h.keep fun e _ _ _ _ he hv ho => ho.kept hg (Or.inr (by
    by_cases h5 : e = 100
    · rw [hv h5]; exact hne
    · exact own_no ho ht h5))
/-- A cell of the parser's box is written: its clauses. -/
theorem QIn.setC {B : Nat} {w : World} {pb : Nat} {s : ByteArray} {T : List Tk} {st : PSt} {g mg : Nat} {vC vP : Value} (h : QIn B w pb s T st g vC vP mg) (v : Value) : QIn B (w.setCell ⟨pb, 4, none⟩ v) pb s T st g v vP mg := by
  obtain ⟨D, h1, h2⟩ := h.map
  obtain ⟨q, j, m, c, hP⟩ := h.pp
  have hb := hP.sc.box
  exact ⟨⟨q, j, m, c, ⟨heap_setCell_same w pb 4 _ _ _ hb, hP.sc.high, hb.row hP.sc.row (by decide) _ _, hP.sc.len, hP.sc.drop, hP.sc.le⟩, hP.lt, hP.on⟩, hb.row h.places (by decide) _ _, ⟨D, h1.setCell (fun e => box_no_map hb h1 e.symm) _, h2⟩, h.mhigh⟩
/-- A clause begins: its box, and a map of its own. -/
theorem cl_start {B : Nat} {w : World} {pb : Nat} {s : ByteArray} {T : List Tk} {st : PSt} {g : Nat} {vC vP : Value} {CV : List Pc} (h : TxIn B w pb s T st g vC vP CV) (hBw : B ≤ w.heap.size) (cs : Array Value) {W : World} (hW : W = ((w.alloc (.cells cs 100)).alloc (.map #[] 0)).setCell ⟨pb, 6, none⟩ (.map (some (w.heap.size + 1)))) :
    QIn B W pb s T ⟨st.i, [], st.places⟩ g vC vP (w.heap.size + 1) ∧ CsIn B W vC CV ∧ Below B w W ∧ W.heap[w.heap.size]? = some (.cells cs 100) := by
  subst hW
  have hA := ((Below.refl w.heap.size w).alloc (Nat.le_refl _) (.cells cs 100)).alloc (by simp) (.map #[] 0)
  obtain ⟨vM, hp⟩ := h.pp
  obtain ⟨left0, hb0, hBp⟩ := hp.box
  have hlt := hb0.lt
  have hp1 := hp.below hA
  obtain ⟨q, j, m, c, hP⟩ := hp1
  have hb := hP.sc.box
  have hpl := own_below h.places hA (Nat.le_refl _)
  have hcs := h.cs.below hA
  have hm : ((w.alloc (.cells cs 100)).alloc (.map #[] 0)).ownsMap Try.prog 9 sElem (w.heap.size + 1) 0 (.map []) := by
    have := World.ownsMap_made (P := Try.prog) (w.alloc (.cells cs 100)) 9 sElem
    simpa using this
  refine ⟨⟨⟨q, j, m, c, ⟨heap_setCell_same _ pb 6 _ _ _ hb, hP.sc.high, hb.row hP.sc.row (by decide) _ _, hP.sc.len, hP.sc.drop, hP.sc.le⟩, hP.lt, hP.on⟩, hb.row hpl (by decide) _ _, ⟨.map [], hm.setCell (fun e => by simp at e; omega) _, SNumIs.start⟩, by omega⟩, hcs.take hb (grown_setCell _ _ _), ?_, ?_⟩
  · refine ⟨hA.os, hA.tape, hA.output, by simp [World.setCell]; omega, fun k hk => ?_⟩
    rw [Below.heap_setCell _ _ _ _ (show k ≠ pb by omega)]
    exact hA.block k (by omega)
  · rw [Below.heap_setCell _ _ _ _ (show w.heap.size ≠ pb by omega)]
    show ((w.heap.push _).push _)[w.heap.size]? = _
    rw [Array.getElem?_push_lt (by simp)]
    simp
/-- A clause is put behind. -/
theorem cl_put {B : Nat} {w w2 w3 : World} {pb : Nat} {s : ByteArray} {T : List Tk} {st : PSt} {g mg : Nat} {vC vP v3 vl : Value} {CV : List Pc} {X : Obj} {a : Nat} {P : List (Lt × Value)} (hq : QIn B w2 pb s T st g vC vP mg) (hc : CsIn B w2 vC CV) (hb : Below B w w2) (hBw : B ≤ w.heap.size) (hr : ClR w2 B (P, vl)) (ho : w3.ownsRow B 100 2 v3 (CV.length + 1) (pcCells CV ++ [.int .i64 a, vl])) (hg : (w2.alloc X).grownBy w3 vC.ownBlock) :
    w3.cell? ⟨pb, 4, none⟩ = some vC ∧ w3.frozen? ⟨pb, 4, none⟩ = false ∧ QIn B (w3.setCell ⟨pb, 4, none⟩ v3) pb s T st g v3 vP mg ∧ CsIn B (w3.setCell ⟨pb, 4, none⟩ v3) v3 (CV ++ [((a, P), vl)]) ∧ Below B w (w3.setCell ⟨pb, 4, none⟩ v3) := by
  have hA := (Below.refl w2.heap.size w2).alloc (Nat.le_refl _) X
  have hcA := hc.below hA
  have hqA := hq.below hA
  have hq3 := hqA.far hcA.row (by decide) hg
  obtain ⟨left, hb3, hBp⟩ := hq3.pp.box
  have hz := hb.size
  have e3 : ∀ p ∈ CV ++ [((a, P), vl)], ClR w3 B (p.1.2, p.2) := by
    intro p hp
    have key : ClR (w2.alloc X) B (p.1.2, p.2) := by
      rcases List.mem_append.1 hp with hp | hp
      · exact hcA.each p hp
      · simp at hp
        subst hp
        exact ⟨own_below hr.1 hA (Nat.le_refl _), fun q hq => own_below (hr.2 q hq) hA (Nat.le_refl _)⟩
    exact ⟨key.1.kept hg (own_apart key.1 hcA.row (by decide)), fun q hq => (key.2 q hq).kept hg (own_apart (key.2 q hq) hcA.row (by decide))⟩
  refine ⟨hb3.c4, hb3.soft 4, hq3.setC v3, ⟨?_, fun p hp => ⟨hb3.row (e3 p hp).1 (by decide) _ _, fun q hq => hb3.row ((e3 p hp).2 q hq) (by decide) _ _⟩⟩, ?_⟩
  · refine hb3.row ?_ (by decide) _ _
    rw [pcCells_snoc, List.length_append]
    exact ho
  · have s3 := hg.size
    simp at s3
    refine ⟨hg.os.trans (hA.os.trans hb.os), hg.tape.trans (hA.tape.trans hb.tape), hg.output.trans (hA.output.trans hb.output), by simp [World.setCell]; omega, fun k hk => ?_⟩
    rw [Below.heap_setCell _ _ _ _ (show k ≠ pb by omega), hg.block k (by simp; omega) (fun e => by have := (own_lt hcA.row k e.symm).1; omega), hA.block k (by omega), hb.block k hk]

end Go.Proofs.Ytcpdadppblbndaa

namespace Go.Proofs.Ytcpdadppblbndaa
open Go.RowKit Go.Shelf
set_option maxRecDepth 100000

section
variable {w w' : World} {B bk : Nat} {nv mv xv yv : Value} {E : List (Value × Int)} {F : List LTri} {G : List GTri} {next : Int}
/-- What kinds of blocks are held. -/
theorem Book2.heldTy (h : Book2 w B bk nv mv xv yv E F G next) : ∀ k ∈ F.flatMap LTri.held ++ G.flatMap GTri.held, ∃ cs t, w.heap[k]? = some (.cells cs t) ∧ (t = 46 ∨ t = 49 ∨ t = 42) := by
  have key : ∀ (e : TypeId) (el : List Value) (v : Value) (k : Nat), MkG e el w v → v.ownBlock = some k → ∃ cs, w.heap[k]? = some (.cells cs e) := by
    intro e el v k hm hk
    rcases hm with rfl | ⟨g, n, c, cur, rfl, hh, _⟩
    · simp [Value.ownBlock] at hk
    · simp [Value.ownBlock] at hk
      subst hk
      exact ⟨_, hh⟩
  intro k hk
  rcases List.mem_append.1 hk with hk | hk
  · obtain ⟨f, hf, hk⟩ := List.mem_flatMap.1 hk
    rcases List.mem_cons.1 hk with rfl | hk
    · exact ⟨_, _, (h.fs f hf).atom, Or.inl rfl⟩
    · obtain ⟨v, hv, hvk⟩ := List.mem_filterMap.1 hk
      obtain ⟨cs, hc⟩ := key _ _ v k ((h.fs f hf).marks v hv) hvk
      exact ⟨cs, _, hc, Or.inr (Or.inl rfl)⟩
  · obtain ⟨f, hf, hk⟩ := List.mem_flatMap.1 hk
    rcases List.mem_cons.1 hk with rfl | hk
    · exact ⟨_, _, (h.gs f hf).lit, Or.inr (Or.inl rfl)⟩
    · rcases List.mem_cons.1 hk with rfl | hk
      · exact ⟨_, _, (h.gs f hf).atom, Or.inl rfl⟩
      · obtain ⟨v, hv, hvk⟩ := List.mem_filterMap.1 hk
        obtain ⟨cs, hc⟩ := key _ _ v k ((h.gs f hf).marks v hv) hvk
        exact ⟨cs, _, hc, Or.inr (Or.inr rfl)⟩
/-- The book behind a list of nodes. -/
theorem Book2.nodes (h : Book2 w B bk nv mv xv yv E F G next) {lv nv' mv' : Value} {l : List Nd} {E' : List (Value × Int)} (ho : OwnN w B lv l) (hap : ∀ k ∈ held E F G, lv.ownBlock ≠ some k) (r : OwR w B bk (xv, yv) nv mv lv E next w' nv' mv' E') :
    Book2 w' B bk nv' mv' xv yv (E ++ E') F G (next - 1) ∧ ∀ k ∈ held (E ++ E') F G, k ∈ held E F G ∨ lv.ownBlock = some k ∨ w.heap.size ≤ k := by
  have hrow : ∀ {e : TypeId} {size n : Nat} {v : Value} {xs : List Value}, w.ownsRow B e size v n xs → e ≠ 31 → e ≠ 44 → e ≠ 3 → e ≠ 46 → w'.ownsRow B e size v n xs := by
    intro e size n v xs hv h1 h2 h3 h4
    refine own_same hv fun k hk => r.far.block k (own_lt hv k hk).2 ?_ ?_ ?_ ?_
    · rintro rfl
      exact own_ne_box hv h.base.box h1 hk
    · intro e'
      rcases own_apart hv h.base.rn h2 with q | q
      · rw [q] at hk; cases hk
      · exact q (by rw [hk, e'])
    · intro e'
      rcases own_apart hv h.base.rm h3 with q | q
      · rw [q] at hk; cases hk
      · exact q (by rw [hk, e'])
    · intro e'
      rcases own_apart hv ho h4 with q | q
      · rw [q] at hk; cases hk
      · exact q (by rw [hk, e'])
  have hkeep : ∀ k ∈ F.flatMap LTri.held ++ G.flatMap GTri.held, w'.heap[k]? = w.heap[k]? := by
    intro k hk
    obtain ⟨cs, t, hc, ht⟩ := h.heldTy k hk
    refine r.far.block k (Array.getElem?_eq_some_iff.1 hc).1 ?_ ?_ ?_ (hap k (List.mem_append.2 (Or.inr hk)))
    · rintro rfl
      have := h.base.box
      rw [hc] at this
      simp at this
      rcases ht with rfl | rfl | rfl <;> exact absurd this.2 (by decide)
    · exact own_no h.base.rn hc (by rcases ht with rfl | rfl | rfl <;> decide)
    · exact own_no h.base.rm hc (by rcases ht with rfl | rfl | rfl <;> decide)
  refine ⟨⟨r.book, hrow h.rx (by decide) (by decide) (by decide) (by decide), hrow h.ry (by decide) (by decide) (by decide) (by decide), fun f hf => (h.fs f hf).same fun k hk => hkeep k (List.mem_append.2 (Or.inl (List.mem_flatMap.2 ⟨f, hf, hk⟩))), fun f hf => (h.gs f hf).same fun k hk => hkeep k (List.mem_append.2 (Or.inr (List.mem_flatMap.2 ⟨f, hf, hk⟩))), h.fewF, h.fewG, h.xap⟩, fun k hk => ?_⟩
  unfold held at hk ⊢
  rw [List.filterMap_append] at hk
  rcases List.mem_append.1 hk with hk | hk
  · rcases List.mem_append.1 hk with hk | hk
    · exact Or.inl (List.mem_append.2 (Or.inl hk))
    · obtain ⟨x, hx, hxk⟩ := List.mem_filterMap.1 hk
      rcases r.new x hx with q | ⟨g, q, hg⟩
      · exact Or.inr (Or.inl (by rw [← q, hxk]))
      · rw [q] at hxk
        simp at hxk
        exact Or.inr (Or.inr (by omega))
  · exact Or.inl (List.mem_append.2 (Or.inr hk))
end

end Go.Proofs.Ytcpdadppblbndaa

namespace Go.Proofs.Ytcpdadppblbndaa
open Go.RowKit Go.Shelf
set_option maxRecDepth 100000

/-- Blocks that stay while the book takes lists of nodes: all but the book's, its two rows, and the lists'. -/
structure AFar (w w' : World) (bk : Nat) (nv mv : Value) (L : List Value) : Prop where
  os : w'.os = w.os
  tape : w'.tape = w.tape
  output : w'.output = w.output
  size : w.heap.size ≤ w'.heap.size
  block : ∀ k, k < w.heap.size → k ≠ bk → nv.ownBlock ≠ some k → mv.ownBlock ≠ some k → (∀ v ∈ L, v.ownBlock ≠ some k) → w'.heap[k]? = w.heap[k]?
theorem AFar.refl (w : World) (bk : Nat) (nv mv : Value) : AFar w w bk nv mv [] := ⟨rfl, rfl, rfl, Nat.le_refl _, fun _ _ _ _ _ _ => rfl⟩
theorem AFar.step {w w1 w2 : World} {bk : Nat} {nv mv nv1 mv1 lv : Value} {L : List Value} (h : AFar w w1 bk nv mv L) (hn : Moved w nv nv1) (hm : Moved w mv mv1) (k : BFar w1 w2 bk nv1 mv1 lv) : AFar w w2 bk nv mv (L ++ [lv]) :=
  ⟨k.os.trans h.os, k.tape.trans h.tape, k.output.trans h.output, Nat.le_trans h.size k.size, fun j h1 h2 h3 h4 h5 => by
    rw [k.block j (Nat.lt_of_lt_of_le h1 h.size) h2 ?_ ?_ (h5 lv (by simp)), h.block j h1 h2 h3 h4 (fun v hv => h5 v (by simp [hv]))]
    · rcases hn with q | ⟨g, q, hg⟩
      · rw [q]; exact h3
      · rw [q]; intro e; simp at e; omega
    · rcases hm with q | ⟨g, q, hg⟩
      · rw [q]; exact h4
      · rw [q]; intro e; simp at e; omega⟩
/-- Behind the first atoms of a clause. -/
structure ASt (w : World) (B bk : Nat) (nv mv xv yv : Value) (E : List (Value × Int)) (F : List LTri) (G : List GTri) (next : Int) (L : List Value) (k : Nat) (wr : World) (nv1 mv1 : Value) (E1 : List (Value × Int)) : Prop where
  book : Book2 wr B bk nv1 mv1 xv yv E1 F G (next - k)
  len : E1.length = E.length + 4 * k
  far : AFar w wr bk nv mv (L.take k)
  mn : Moved w nv nv1
  mm : Moved w mv mv1
  held : ∀ j ∈ held E1 F G, j ∈ Go.Proofs.Ytcpdadppblbndaa.held E F G ∨ (∃ v ∈ L.take k, v.ownBlock = some j) ∨ w.heap.size ≤ j
/-- One atom more. -/
theorem ASt.more {w wr w2 : World} {B bk : Nat} {nv mv xv yv nv1 mv1 nv2 mv2 : Value} {E E1 E2 : List (Value × Int)} {F : List LTri} {G : List GTri} {next : Int} {L : List Value} {k : Nat} {l : List Nd} (h : ASt w B bk nv mv xv yv E F G next L k wr nv1 mv1 E1) (hk : k < L.length) (ho : OwnN wr B L[k] l) (hap : ∀ j ∈ Go.Proofs.Ytcpdadppblbndaa.held E1 F G, L[k].ownBlock ≠ some j) (r : OwR wr B bk (xv, yv) nv1 mv1 L[k] E1 (next - k) w2 nv2 mv2 E2) :
    ASt w B bk nv mv xv yv E F G next L (k + 1) w2 nv2 mv2 (E1 ++ E2) := by
  obtain ⟨b1, b2⟩ := h.book.nodes ho hap r
  have ht : L.take (k + 1) = L.take k ++ [L[k]] := List.take_succ_eq_append_getElem hk
  refine ⟨by rw [show next - ((k + 1 : Nat) : Int) = next - k - 1 by omega]; exact b1, by rw [List.length_append, h.len, r.len]; omega, by rw [ht]; exact h.far.step h.mn h.mm r.far, h.mn.trans r.mn h.far.size, h.mm.trans r.mm h.far.size, fun j hj => ?_⟩
  rcases b2 j hj with q | q | q
  · rcases h.held j q with q | ⟨v, hv, hvj⟩ | q
    · exact Or.inl q
    · exact Or.inr (Or.inl ⟨v, by rw [ht]; exact List.mem_append.2 (Or.inl hv), hvj⟩)
    · exact Or.inr (Or.inr q)
  · exact Or.inr (Or.inl ⟨L[k], by rw [ht]; exact List.mem_append.2 (Or.inr (List.mem_singleton.2 rfl)), q⟩)
  · exact Or.inr (Or.inr (by have := h.far.size; omega))

end Go.Proofs.Ytcpdadppblbndaa

namespace Go.Proofs.Ytcpdadppblbndaa
open Go.RowKit Go.Shelf
set_option maxRecDepth 100000

section
variable {w w' : World} {B bk : Nat} {nv mv xv yv : Value} {E : List (Value × Int)} {F : List LTri} {G : List GTri} {next : Int}
/-- A row of a kind of its own is written, that the book does not hold. -/
theorem Book2.far (h : Book2 w B bk nv mv xv yv E F G next) {B' : Nat} {e : TypeId} {size n : Nat} {v : Value} {xs : List Value} (ho : w.ownsRow B' e size v n xs) (he : e ≠ 31 ∧ e ≠ 44 ∧ e ≠ 3 ∧ e ≠ 42 ∧ e ≠ 26) (hap : ∀ k ∈ held E F G, v.ownBlock ≠ some k) (hg : w.grownBy w' v.ownBlock) : Book2 w' B bk nv mv xv yv E F G next := by
  refine h.same (hg.block bk h.base.lt (fun e' => own_ne_box ho h.base.box he.1 e'.symm)) (fun u hu k hk => ?_) (fun k hk => hg.block k (h.heldLt k hk) (fun e' => hap k hk e'.symm))
  have key : ∀ {e' : TypeId} {s' n' : Nat} {xs' : List Value}, w.ownsRow B e' s' u n' xs' → e' ≠ e → w'.heap[k]? = w.heap[k]? := by
    intro e' s' n' xs' hu' hne
    refine hg.block k (own_lt hu' k hk).2 (fun q => ?_)
    rcases own_apart hu' ho hne with p | p
    · rw [p] at hk; cases hk
    · exact p (by rw [hk, q])
  simp at hu
  rcases hu with rfl | rfl | rfl | rfl
  · exact key h.base.rn he.2.1.symm
  · exact key h.base.rm he.2.2.1.symm
  · exact key h.rx he.2.2.2.1.symm
  · exact key h.ry he.2.2.2.2.symm
/-- The next mark. -/
theorem Book2.setNext (h : Book2 w B bk nv mv xv yv E F G next) {x : Int} (hlo : -10000000000 ≤ x) (hhi : x ≤ 0) : Book2 (w.setCell ⟨bk, 8, none⟩ (.int .i64 x)) B bk nv mv xv yv E F G x := by
  have hg := grown_setCell w ⟨bk, 8, none⟩ (.int .i64 x)
  have hne : ∀ k ∈ F.flatMap LTri.held ++ G.flatMap GTri.held, (w.setCell ⟨bk, 8, none⟩ (.int .i64 x)).heap[k]? = w.heap[k]? := by
    intro k hk
    obtain ⟨cs, t, hc, ht⟩ := h.heldTy k hk
    refine hg.block k (Array.getElem?_eq_some_iff.1 hc).1 (fun q => ?_)
    simp at q
    subst q
    have := h.base.box
    rw [hc] at this
    simp at this
    rcases ht with rfl | rfl | rfl <;> exact absurd this.2 (by decide)
  exact ⟨h.base.setNext hlo hhi, own_setB h.rx h.base.box (by decide), own_setB h.ry h.base.box (by decide), fun f hf => (h.fs f hf).same fun k hk => hne k (List.mem_append.2 (Or.inl (List.mem_flatMap.2 ⟨f, hf, hk⟩))), fun f hf => (h.gs f hf).same fun k hk => hne k (List.mem_append.2 (Or.inr (List.mem_flatMap.2 ⟨f, hf, hk⟩))), h.fewF, h.fewG, h.xap⟩
end

end Go.Proofs.Ytcpdadppblbndaa

namespace Go.Proofs.Ytcpdadppblbndaa
open Go.RowKit Go.Shelf
set_option maxRecDepth 100000

theorem fill_put (a b : Value) (xs : List Value) (k : Nat) (h : (k + 1) * 2 ≤ xs.length) :
    ((rep k [a, b] ++ xs.drop (k * 2)).set (k * 2) a).set (k * 2 + 1) b = rep (k + 1) [a, b] ++ xs.drop ((k + 1) * 2) := by
  have hl : (rep k [a, b]).length = k * 2 := by rw [rep_length]; rfl
  have hd : xs.drop (k * 2) = xs[k * 2] :: xs[k * 2 + 1] :: xs.drop ((k + 1) * 2) := by
    rw [List.drop_eq_getElem_cons (by omega), List.drop_eq_getElem_cons (i := k * 2 + 1) (by omega), show (k + 1) * 2 = k * 2 + 1 + 1 by omega]
  have hr : rep (k + 1) [a, b] = rep k [a, b] ++ [a, b] := by rw [rep_add, rep_succ]; simp [rep]
  rw [hd, hr, List.set_append_right _ _ (by omega), List.set_append_right _ _ (by omega), hl]
  simp

end Go.Proofs.Ytcpdadppblbndaa
