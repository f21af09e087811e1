/- What a Read leaves in memory. The book takes a list of clauses: what holds on the way. -/
import Derived.Test.YtcpdadppblbndaaSCl0M
import Derived.Test.YtcpdadppblbndaaBCl5
namespace Go.Proofs.Ytcpdadppblbndaa
open Go.RowKit
set_option maxRecDepth 100000

/-- The clauses that Read answers, in memory. -/
def RdMem (B : Nat) (w : World) (v : Value) (CV : List (List (Lt × Value) × Value)) : Prop :=
  w.ownsRow B 42 1 v CV.length (CV.map Prod.snd) ∧ ∀ p ∈ CV, ClR w B p ∧ (∀ q ∈ p.1, ShortN q.1.2) ∧ countL (p.1.map Prod.fst) ≤ 1000000 ∧ p.1.length ≤ 1000000
theorem RdMem.nil (B : Nat) (w : World) : RdMem B w (.slice none 0 0) [] := ⟨World.ownsRow_nil _ _ _ _, fun p hp => by simp at hp⟩
/-- What was made anew: no block twice. -/
structure OrdMem (B : Nat) (w : World) (v : Value) (QV : List (List (Lt × Value) × Value)) : Prop where
  mem : RdMem B w v QV
  once : (QV.map fun p => p.2.ownBlock).Nodup
  atoms : (QV.flatMap fun p => p.1.filterMap fun q => q.2.ownBlock).Nodup
theorem OrdMem.nil (B : Nat) (w : World) : OrdMem B w (.slice none 0 0) [] := ⟨RdMem.nil _ _, by simp, by simp⟩

end Go.Proofs.Ytcpdadppblbndaa

namespace Go.Proofs.Ytcpdadppblbndaa
open Go.RowKit Go.Shelf
set_option maxRecDepth 100000

/-- The rows of a list of clauses, but its own. -/
def inner (QV : List (List (Lt × Value) × Value)) : List Value := QV.flatMap fun p => p.2 :: p.1.map Prod.snd
theorem AFar.trans {w w1 w2 : World} {bk : Nat} {nv mv nv1 mv1 : Value} {L1 L2 L : List Value} (h : AFar w w1 bk nv mv L1) (hn : Moved w nv nv1) (hm : Moved w mv mv1) (k : AFar w1 w2 bk nv1 mv1 L2) (h1 : ∀ v ∈ L1, v ∈ L) (h2 : ∀ v ∈ L2, ∃ u ∈ L, Moved w u v) : AFar w w2 bk nv mv L :=
  ⟨k.os.trans h.os, k.tape.trans h.tape, k.output.trans h.output, Nat.le_trans h.size k.size, fun j j1 j2 j3 j4 j5 => by
    rw [k.block j (Nat.lt_of_lt_of_le j1 h.size) j2 ?_ ?_ ?_, h.block j j1 j2 j3 j4 (fun v hv => j5 v (h1 v hv))]
    · rcases hn with q | ⟨g, q, hg⟩
      · rw [q]; exact j3
      · rw [q]; intro e; simp at e; omega
    · rcases hm with q | ⟨g, q, hg⟩
      · rw [q]; exact j4
      · rw [q]; intro e; simp at e; omega
    · intro v hv
      obtain ⟨u, hu, q | ⟨g, q, hg⟩⟩ := h2 v hv
      · rw [q]; exact j5 u hu
      · rw [q]; intro e; simp at e; omega⟩
/-- A list of clauses that the book may take. -/
structure Takes (w : World) (B : Nat) (xv l : Value) (E : List (Value × Int)) (F : List LTri) (G : List GTri) (QV : List (List (Lt × Value) × Value)) : Prop where
  mem : OrdMem B w l QV
  few : QV.length ≤ 40
  small : ∀ p ∈ QV, p.1.length ≤ 8
  xap : l.ownBlock = none ∨ l.ownBlock ≠ xv.ownBlock
  apart : ∀ k ∈ held E F G, l.ownBlock ≠ some k ∧ ∀ v ∈ inner QV, v.ownBlock ≠ some k
/-- Behind the first clauses. -/
structure BSt (w : World) (B bk : Nat) (nv mv xv yv : Value) (E : List (Value × Int)) (F : List LTri) (G : List GTri) (next : Int) (QV : List (List (Lt × Value) × Value)) (k : Nat) (wr : World) (nv1 mv1 xv1 : Value) (E1 : List (Value × Int)) (F1 : List LTri) (next1 : Int) : Prop where
  book : Book2 wr B bk nv1 mv1 xv1 yv E1 F1 G next1
  lenE : E1.length ≤ E.length + 32 * k
  lenF : F1.length ≤ F.length + k
  lo : next - 9 * k ≤ next1
  far : AFar w wr bk nv mv (xv :: inner (QV.take k))
  mn : Moved w nv nv1
  mm : Moved w mv mv1
  mx : Moved w xv xv1
  held : ∀ j ∈ held E1 F1 G, j ∈ Go.Proofs.Ytcpdadppblbndaa.held E F G ∨ (∃ v ∈ inner (QV.take k), v.ownBlock = some j) ∨ w.heap.size ≤ j
theorem inner_take {QV : List (List (Lt × Value) × Value)} {k : Nat} (hk : k < QV.length) : inner (QV.take (k + 1)) = inner (QV.take k) ++ QV[k].2 :: QV[k].1.map Prod.snd := by
  unfold inner
  rw [List.take_succ_eq_append_getElem hk, List.flatMap_append]
  simp
section
variable {w wr w2 : World} {B bk : Nat} {nv mv xv yv nv1 mv1 xv1 nv2 mv2 xv2 l : Value} {E E1 E2 : List (Value × Int)} {F F1 F2 : List LTri} {G : List GTri} {next next1 : Int} {QV : List (List (Lt × Value) × Value)} {k : Nat}
theorem BSt.start (h : Book2 w B bk nv mv xv yv E F G next) : BSt w B bk nv mv xv yv E F G next QV 0 w nv mv xv E F next :=
  ⟨h, by omega, by omega, by omega, ⟨rfl, rfl, rfl, Nat.le_refl _, fun _ _ _ _ _ _ => rfl⟩, Moved.refl _ _, Moved.refl _ _, Moved.refl _ _, fun j hj => Or.inl hj⟩
/-- One clause more. -/
theorem BSt.more (h : BSt w B bk nv mv xv yv E F G next QV k wr nv1 mv1 xv1 E1 F1 next1) (hk : k < QV.length) (h8 : QV[k].1.length ≤ 8) (r : OcR wr B bk nv1 mv1 xv1 yv QV[k].2 E1 F1 G next1 QV[k].1 w2 nv2 mv2 xv2 E2 F2) :
    BSt w B bk nv mv xv yv E F G next QV (k + 1) w2 nv2 mv2 xv2 E2 F2 (next1 - QV[k].1.length - 1) := by
  have h1 := h.lenE
  have h2 := h.lenF
  have h3 := h.lo
  have h4 := r.lenE
  have h5 := r.lenF
  have hz := h.far.size
  refine ⟨r.book, by omega, by omega, by omega, ?_, h.mn.trans r.mn hz, h.mm.trans r.mm hz, h.mx.trans r.mx hz, fun j hj => ?_⟩
  · rw [inner_take hk]
    refine h.far.trans h.mn h.mm r.far (fun v hv => ?_) (fun v hv => ?_)
    · rcases List.mem_cons.1 hv with rfl | hv
      · exact List.mem_cons_self ..
      · exact List.mem_cons_of_mem _ (List.mem_append.2 (Or.inl hv))
    · rcases List.mem_cons.1 hv with rfl | hv
      · exact ⟨xv, List.mem_cons_self .., h.mx⟩
      · exact ⟨v, List.mem_cons_of_mem _ (List.mem_append.2 (Or.inr hv)), Moved.refl _ _⟩
  · rw [inner_take hk]
    rcases r.held j hj with q | q | ⟨q, hq, e⟩ | q
    · rcases h.held j q with q | ⟨v, hv, e⟩ | q
      · exact Or.inl q
      · exact Or.inr (Or.inl ⟨v, List.mem_append.2 (Or.inl hv), e⟩)
      · exact Or.inr (Or.inr q)
    · exact Or.inr (Or.inl ⟨_, List.mem_append.2 (Or.inr (List.mem_cons_self ..)), q⟩)
    · exact Or.inr (Or.inl ⟨_, List.mem_append.2 (Or.inr (List.mem_cons_of_mem _ (List.mem_map_of_mem hq))), e⟩)
    · exact Or.inr (Or.inr (by omega))
theorem inner_mem {v : Value} (h : v ∈ inner QV) : ∃ p ∈ QV, v = p.2 ∨ ∃ q ∈ p.1, v = q.2 := by
  obtain ⟨p, hp, hv⟩ := List.mem_flatMap.1 h
  rcases List.mem_cons.1 hv with rfl | hv
  · exact ⟨p, hp, Or.inl rfl⟩
  · obtain ⟨q, hq, rfl⟩ := List.mem_map.1 hv
    exact ⟨p, hp, Or.inr ⟨q, hq, rfl⟩⟩
theorem take_split (hk : k < QV.length) : QV = QV.take k ++ QV[k] :: QV.drop (k + 1) := by rw [← List.drop_eq_getElem_cons hk, List.take_append_drop]
/-- A clause's row is none of those ahead of it. -/
theorem Takes.row (h : Takes w B xv l E F G QV) (hk : k < QV.length) {j : Nat} (hj : QV[k].2.ownBlock = some j) : ∀ v ∈ inner (QV.take k), v.ownBlock ≠ some j := by
  intro v hv e
  obtain ⟨p, hp, rfl | ⟨q, hq, rfl⟩⟩ := inner_mem hv
  · have hn := h.mem.once
    rw [take_split hk, List.map_append, List.nodup_append] at hn
    exact hn.2.2 _ (List.mem_map_of_mem hp) _ (List.mem_cons_self ..) (e.trans hj.symm)
  · have hm := List.mem_of_mem_take hp
    rcases own_apart ((h.mem.mem.2 p hm).1.2 q hq) (h.mem.mem.2 _ (List.getElem_mem hk)).1.1 (by decide) with p | p
    · rw [p] at e; cases e
    · exact p (by rw [e, hj])
/-- Nor are its atoms. -/
theorem Takes.atom (h : Takes w B xv l E F G QV) (hk : k < QV.length) {q : Lt × Value} (hq : q ∈ QV[k].1) {j : Nat} (hj : q.2.ownBlock = some j) : ∀ v ∈ inner (QV.take k), v.ownBlock ≠ some j := by
  intro v hv e
  obtain ⟨p, hp, rfl | ⟨q', hq', rfl⟩⟩ := inner_mem hv
  · have hm := List.mem_of_mem_take hp
    rcases own_apart (h.mem.mem.2 p hm).1.1 ((h.mem.mem.2 _ (List.getElem_mem hk)).1.2 q hq) (by decide) with p | p
    · rw [p] at e; cases e
    · exact p (by rw [e, hj])
  · have hn := h.mem.atoms
    rw [take_split hk, List.flatMap_append, List.nodup_append] at hn
    exact hn.2.2 j (List.mem_flatMap.2 ⟨p, hp, List.mem_filterMap.2 ⟨q', hq', e⟩⟩) j (List.mem_flatMap.2 ⟨_, List.mem_cons_self .., List.mem_filterMap.2 ⟨q, hq, hj⟩⟩) rfl
/-- The clause's atoms are no block twice. -/
theorem Takes.nodup (h : Takes w B xv l E F G QV) (hk : k < QV.length) : ((QV[k].1.map Prod.snd).filterMap Value.ownBlock).Nodup := by
  have hn := h.mem.atoms
  rw [take_split hk, List.flatMap_append, List.flatMap_cons, List.nodup_append, List.nodup_append] at hn
  rw [List.filterMap_map]
  exact hn.2.1.1
/-- What is still to be taken lies as it lay. -/
theorem BSt.ready (h : BSt w B bk nv mv xv yv E F G next QV k wr nv1 mv1 xv1 E1 F1 next1) (h0 : Book2 w B bk nv mv xv yv E F G next) (ht : Takes w B xv l E F G QV) :
    wr.ownsRow B 42 1 l QV.length (QV.map Prod.snd) ∧ ∀ hk : k < QV.length, wr.ownsRow B 49 2 QV[k].2 QV[k].1.length (litCells QV[k].1) ∧ (∀ q ∈ QV[k].1, OwnN wr B q.2 q.1.2) ∧ ∀ j ∈ Go.Proofs.Ytcpdadppblbndaa.held E1 F1 G, QV[k].2.ownBlock ≠ some j ∧ ∀ q ∈ QV[k].1, q.2.ownBlock ≠ some j := by
  have key : ∀ {e : TypeId} {s n : Nat} {v : Value} {xs : List Value}, w.ownsRow B e s v n xs → e ≠ 31 → e ≠ 44 → e ≠ 3 → (v.ownBlock = none ∨ v.ownBlock ≠ xv.ownBlock) → (∀ j, v.ownBlock = some j → ∀ u ∈ inner (QV.take k), u.ownBlock ≠ some j) → wr.ownsRow B e s v n xs := by
    intro e s n v xs hv h1 h2 h3 h4 h5
    refine own_same hv fun j hj => h.far.block j (own_lt hv j hj).2 ?_ ?_ ?_ ?_
    · rintro rfl
      exact own_ne_box hv h0.base.box h1 hj
    · intro e'
      rcases own_apart hv h0.base.rn h2 with q | q
      · rw [q] at hj; cases hj
      · exact q (by rw [hj, e'])
    · intro e'
      rcases own_apart hv h0.base.rm h3 with q | q
      · rw [q] at hj; cases hj
      · exact q (by rw [hj, e'])
    · intro u hu
      rcases List.mem_cons.1 hu with rfl | hu
      · intro e'
        rcases h4 with q | q
        · rw [q] at hj; cases hj
        · exact q (by rw [hj, e'])
      · exact h5 j hj u hu
  have hl : ∀ j, l.ownBlock = some j → ∀ u ∈ inner (QV.take k), u.ownBlock ≠ some j := by
    intro j hj u hu e'
    obtain ⟨p, hp, rfl | ⟨q, hq, rfl⟩⟩ := inner_mem hu
    · rcases own_apart (ht.mem.mem.2 p (List.mem_of_mem_take hp)).1.1 ht.mem.mem.1 (by decide) with p | p
      · rw [p] at e'; cases e'
      · exact p (by rw [e', hj])
    · rcases own_apart ((ht.mem.mem.2 p (List.mem_of_mem_take hp)).1.2 q hq) ht.mem.mem.1 (by decide) with p | p
      · rw [p] at e'; cases e'
      · exact p (by rw [e', hj])
  refine ⟨key ht.mem.mem.1 (by decide) (by decide) (by decide) ht.xap hl, fun hk => ?_⟩
  have hm := (ht.mem.mem.2 _ (List.getElem_mem hk)).1
  refine ⟨key hm.1 (by decide) (by decide) (by decide) (own_apart hm.1 h0.rx (by decide)) (fun j hj => ht.row hk hj), fun q hq => key (hm.2 q hq) (by decide) (by decide) (by decide) (own_apart (hm.2 q hq) h0.rx (by decide)) (fun j hj => ht.atom hk hq hj), fun j hj => ⟨fun e' => ?_, fun q hq e' => ?_⟩⟩
  · rcases h.held j hj with p | ⟨v, hv, hvj⟩ | p
    · exact (ht.apart j p).2 _ (List.mem_flatMap.2 ⟨_, List.getElem_mem hk, List.mem_cons_self ..⟩) e'
    · exact ht.row hk e' v hv hvj
    · have := (own_lt hm.1 j e').2
      omega
  · rcases h.held j hj with p | ⟨v, hv, hvj⟩ | p
    · exact (ht.apart j p).2 _ (List.mem_flatMap.2 ⟨_, List.getElem_mem hk, List.mem_cons_of_mem _ (List.mem_map_of_mem hq)⟩) e'
    · exact ht.atom hk hq e' v hv hvj
    · have := (own_lt (hm.2 q hq) j e').2
      omega
/-- The clauses are taken, the mark is drawn, the element is made. -/
theorem BSt.full (h : BSt w B bk nv mv xv yv E F G next QV QV.length wr nv1 mv1 xv1 E1 F1 next1) (ht : Takes w B xv l E F G QV) (hr' : wr.ownsRow B 42 1 l QV.length (QV.map Prod.snd)) (hlo : -10000000000 ≤ next1 - 1) (hhi : next1 - 1 ≤ 0) :
    DSt w B bk nv mv (xv :: yv :: l :: inner QV) nv1 mv1 xv1 yv E1 F1 G (next1 - 1) 42 (lisEl (wr.heap.size + 1)) l QV.length (QV.map Prod.snd) [(wr.heap.size, .cells #[.string ⟨#[61]⟩, .int .i64 (next1 - 1)] 46), (wr.heap.size + 1, .cells (litEl wr.heap.size).toArray 49)] [] (((wr.setCell ⟨bk, 8, none⟩ (.int .i64 (next1 - 1))).alloc (.cells #[.string ⟨#[61]⟩, .int .i64 (next1 - 1)] 46)).alloc (.cells (litEl wr.heap.size).toArray 49)) := by
  have hs1 : (wr.setCell ⟨bk, 8, none⟩ (.int .i64 (next1 - 1))).heap.size = wr.heap.size := by simp [World.setCell]
  have hbox := h.book.base.box
  have hlt : ∀ k, l.ownBlock = some k → k < wr.heap.size := fun k hk => (own_lt hr' k hk).2
  have hbN := h.book.setNext hlo hhi
  have hrN := own_setB (j := 8) (x := .int .i64 (next1 - 1)) hr' hbox (by decide)
  have hfN := (h.far.mono (L' := xv :: yv :: l :: inner QV) (fun v hv => by
    rw [List.take_length] at hv
    rcases List.mem_cons.1 hv with rfl | hv
    · exact List.mem_cons_self ..
    · exact List.mem_cons_of_mem _ (List.mem_cons_of_mem _ (List.mem_cons_of_mem _ hv)))).setB 8 (.int .i64 (next1 - 1))
  have hz := h.far.size
  generalize next1 - 1 = m at *
  generalize wr.setCell ⟨bk, 8, none⟩ (.int .i64 m) = wn at *
  have hb1 : Below wn.heap.size wn (wn.alloc (.cells #[.string ⟨#[61]⟩, .int .i64 m] 46)) := (Below.refl _ _).alloc (Nat.le_refl _) _
  have hb : Below wn.heap.size wn ((wn.alloc (.cells #[.string ⟨#[61]⟩, .int .i64 m] 46)).alloc (.cells (litEl wr.heap.size).toArray 49)) := hb1.alloc (by simp) _
  have k1 : ((wn.alloc (.cells #[.string ⟨#[61]⟩, .int .i64 m] 46)).alloc (.cells (litEl wr.heap.size).toArray 49)).heap[wr.heap.size]? = some (.cells #[.string ⟨#[61]⟩, .int .i64 m] 46) := by
    rw [← hs1]
    show ((wn.heap.push _).push _)[wn.heap.size]? = _
    rw [Array.getElem?_push_lt (by simp)]
    simp
  have k2 : ((wn.alloc (.cells #[.string ⟨#[61]⟩, .int .i64 m] 46)).alloc (.cells (litEl wr.heap.size).toArray 49)).heap[wr.heap.size + 1]? = some (.cells (litEl wr.heap.size).toArray 49) := by
    have e : wr.heap.size + 1 = (wn.heap.push (.cells #[.string ⟨#[61]⟩, .int .i64 m] 46)).size := by simp [hs1]
    rw [e]
    show ((wn.heap.push _).push _)[(wn.heap.push _).size]? = _
    rw [Array.getElem?_push_size]
  refine ⟨hbN.below hb, own_below hrN hb (Nat.le_refl _), by simp, by simp, by simp, hfN.below hb, ?_, ?_, own_ne_box hr' hbox (by decide), ?_, ?_, by simp⟩
  · intro p hp
    simp only [List.mem_cons, List.not_mem_nil, or_false] at hp
    rcases hp with rfl | rfl
    · exact k1
    · exact k2
  · intro p hp e
    simp only [List.mem_cons, List.not_mem_nil, or_false] at hp
    rcases hp with rfl | rfl
    · have := hlt _ e; omega
    · have := hlt _ e; omega
  · intro v hv
    simp at hv
    rcases hv with rfl | rfl | rfl | rfl
    · exact own_apart h.book.base.rn hr' (by decide)
    · exact own_apart h.book.base.rm hr' (by decide)
    · rcases h.mx with q | ⟨g, q, hg⟩
      · rw [q]
        rcases ht.xap with p | p
        · cases hx : xv.ownBlock with
          | none => exact Or.inl rfl
          | some _ => exact Or.inr (by rw [p]; simp)
        · exact Or.inr fun e => p e.symm
      · refine Or.inr fun e => ?_
        rw [q] at e
        have := (own_lt ht.mem.mem.1 g e.symm).2
        omega
    · exact own_apart h.book.ry hr' (by decide)
  · intro j hj e
    rcases h.held j hj with p | ⟨v, hv, hvj⟩ | p
    · exact (ht.apart j p).1 e
    · rw [List.take_length] at hv
      obtain ⟨p, hp, rfl | ⟨q, hq, rfl⟩⟩ := inner_mem hv
      · rcases own_apart (ht.mem.mem.2 p hp).1.1 ht.mem.mem.1 (by decide) with p | p
        · rw [p] at hvj; cases hvj
        · exact p (by rw [hvj, e])
      · rcases own_apart ((ht.mem.mem.2 p hp).1.2 q hq) ht.mem.mem.1 (by decide) with p | p
        · rw [p] at hvj; cases hvj
        · exact p (by rw [hvj, e])
    · have := (own_lt ht.mem.mem.1 j e).2
      omega
end

end Go.Proofs.Ytcpdadppblbndaa
