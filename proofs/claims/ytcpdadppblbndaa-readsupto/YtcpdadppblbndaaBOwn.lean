/- The law takes a list into its book. -/
import Derived.Test.YtcpdadppblbndaaLMemM
import Derived.Deep.RegionHeld3
namespace Go.Proofs.Ytcpdadppblbndaa
open Go.RowKit Go.Shelf
set_option maxRecDepth 100000
variable {xy : Value × Value}

theorem wpList_append_mk {ops : Array Oper} {rest : List Oper} {o : Oper} {a : Act} {w : World} {Q : Exit → Act → World → Prop} (hgd : o.guard = none) (s x : Operand) (hop : o.op = .call { callee := .builtin .append, args := #[s, x], argTypes := #[44, 44] })
    (B : Nat) (v : Value) (n : Nat) (m : Int) (hs : a.eval s = v) (ho : w.ownsRow B 46 2 v n (nodeCells (mks n m))) (hB : B ≤ w.heap.size) (ad : Addr) (k c : Nat) (hx : a.eval x = .slice (some ad) k c) (hk : 0 < k ∧ k ≤ 3) (hn : n ≤ 5864062014805) (hnews : ∀ j u, (nodeCells (mks k m))[j]? = some u → w.cell? (ad.add j) = some u)
    (h : ∀ v' w', w'.ownsRow B 46 2 v' (n + k) (nodeCells (mks (n + k) m)) → w'.ownsRow B 46 2 v n (nodeCells (mks n m)) → w.grownBy w' v.ownBlock → Moved w v v' → (∀ u, Marks w u m → Marks w' u m) → wpList Try.prog ops Q rest (a.put o.dst v') w') : wpList Try.prog ops Q (o :: rest) a w := by
  refine wpList_plain hgd fun K hK' => ?_
  obtain ⟨v', w', hr, h1, h2, h3, h4, h5⟩ := run_append_mk w o.type B v n m ho hB ad k c hk hn hnews
  unfold Oper.wp execOp
  simp only [hop, resolve, invoke, builtin, Sem.run_bind, Sem.run_pure, Result.andThen_ok, List.map_toArray, List.map_cons, List.map_nil, hs, hx, hr]
  exact hK' _ _ (h v' w' h1 h2 h3 h4 h5)
theorem news1 (w : World) (m : Int) : ∀ j u, (nodeCells (mks 1 m))[j]? = some u → (w.alloc (.cells #[.string ⟨#[35]⟩, .int .i64 m] 46)).cell? ((⟨w.heap.size, 0, none⟩ : Addr).add j) = some u := by
  intro j u hj
  have h : nodeCells (mks 1 m) = [.string ⟨#[35]⟩, .int .i64 m] := rfl
  rw [h] at hj
  match j, hj with
  | 0, hj => simp at hj; subst hj; simp [Addr.add]
  | 1, hj => simp at hj; subst hj; simp [Addr.add]
  | j + 2, hj => simp at hj
theorem news2 (w : World) (m : Int) : ∀ j u, (nodeCells (mks 2 m))[j]? = some u → (w.alloc (.cells #[.string ⟨#[35]⟩, .int .i64 m, .string ⟨#[35]⟩, .int .i64 m] 46)).cell? ((⟨w.heap.size, 0, none⟩ : Addr).add j) = some u := by
  intro j u hj
  have h : nodeCells (mks 2 m) = [.string ⟨#[35]⟩, .int .i64 m, .string ⟨#[35]⟩, .int .i64 m] := rfl
  rw [h] at hj
  match j, hj with
  | 0, hj => simp at hj; subst hj; simp [Addr.add]
  | 1, hj => simp at hj; subst hj; simp [Addr.add]
  | 2, hj => simp at hj; subst hj; simp [Addr.add]
  | 3, hj => simp at hj; subst hj; simp [Addr.add]
  | j + 4, hj => simp at hj
theorem news3 (w : World) (m : Int) : ∀ j u, (nodeCells (mks 3 m))[j]? = some u → (w.alloc (.cells #[.string ⟨#[35]⟩, .int .i64 m, .string ⟨#[35]⟩, .int .i64 m, .string ⟨#[35]⟩, .int .i64 m] 46)).cell? ((⟨w.heap.size, 0, none⟩ : Addr).add j) = some u := by
  intro j u hj
  have h : nodeCells (mks 3 m) = [.string ⟨#[35]⟩, .int .i64 m, .string ⟨#[35]⟩, .int .i64 m, .string ⟨#[35]⟩, .int .i64 m] := rfl
  rw [h] at hj
  match j, hj with
  | 0, hj => simp at hj; subst hj; simp [Addr.add]
  | 1, hj => simp at hj; subst hj; simp [Addr.add]
  | 2, hj => simp at hj; subst hj; simp [Addr.add]
  | 3, hj => simp at hj; subst hj; simp [Addr.add]
  | 4, hj => simp at hj; subst hj; simp [Addr.add]
  | 5, hj => simp at hj; subst hj; simp [Addr.add]
  | j + 6, hj => simp at hj

/-- Values are put behind a row of values of one cell each; where the row lies then. -/
theorem run_append_vals (w : World) (t ty e : TypeId) (z : Value) (bytes : Nat) (ht : Try.prog.underlying t = some (.slice e)) (hinfo : (Try.prog.info? e).map (fun i => (i.zero, i.size, i.bytes)) = some (some z, 1, bytes)) (hz1 : z.cells.size = 1) (hby : bytes ≤ 24) (base : Nat) (v : Value) (n : Nat) (xs : List Value) (hown : w.ownsRow base e 1 v n xs) (hn : n ≤ 10000000000) (hbase : base ≤ w.heap.size) (g c k : Nat) (news : List Value) (hk : news.length = k) (hk0 : 0 < k ∧ k ≤ 4) (hnews : ∀ j u, news[j]? = some u → w.cell? ((⟨g, 0, none⟩ : Addr).add j) = some u) (h1 : ∀ u ∈ news, u.oneCell' = true) :
    ∃ v' w', (Builtin.append_ #[t, t] ty #[v, .slice (some ⟨g, 0, none⟩) k c]).run Try.prog w = .ok v' w' ∧ w'.ownsRow base e 1 v' (n + k) (xs ++ news) ∧ w.grownBy w' v.ownBlock ∧ Moved w v v' := by
  obtain ⟨i, hi, hz, hs, hy⟩ := info_parts hinfo
  have hb24 : (n + k) * bytes ≤ 140737488355328 := Nat.le_trans (Nat.mul_le_mul (show n + k ≤ 10000000004 by omega) hby) (by decide)
  by_cases hv : v.ownBlock = none
  · have hnil : v = .slice none 0 0 ∧ n = 0 := by
      obtain ⟨_, h | ⟨g, cap, cur, rfl, _⟩⟩ := hown
      · exact h
      · simp [Value.ownBlock] at hv
    obtain ⟨rfl, rfl⟩ := hnil
    have hxs : xs = [] := List.eq_nil_of_length_eq_zero (by have := hown.1; simpa using this)
    subst hxs
    obtain ⟨v', w', hr, r1, r2, r3⟩ := run_append_own (P := Try.prog) w w.heap.size t ty e i z 1 bytes ht hi hz hs hy hz1 (by decide) (.slice none 0 0) 0 [] (World.ownsRow_nil _ _ _ _) ⟨g, 0, none⟩ k c news (by omega) hnews h1 (by unfold maxLen; omega) hb24 (Nat.le_refl _)
    refine ⟨v', w', hr, own_mono r1 hbase, r2, ?_⟩
    cases hb : v'.ownBlock with
    | none => exact Or.inl (by rw [hb, hv])
    | some g' => exact Or.inr ⟨g', hb, (own_lt r1 g' hb).1⟩
  · obtain ⟨v', w', hr, r1, r2, _⟩ := run_append_own (P := Try.prog) w base t ty e i z 1 bytes ht hi hz hs hy hz1 (by decide) v n xs hown ⟨g, 0, none⟩ k c news (by omega) hnews h1 (by unfold maxLen; omega) hb24 hbase
    refine ⟨v', w', hr, r1, r2, ?_⟩
    rcases append_where w base t ty e i z 1 bytes ht hi hz hs hy (by decide) v n xs hown hv ⟨g, 0, none⟩ k c news (by omega) hnews h1 (by unfold maxLen; omega) hb24 hr with e | e
    · exact Or.inl e
    · exact Or.inr ⟨_, e, Nat.le_refl _⟩
theorem wpList_append_vals {ops : Array Oper} {rest : List Oper} {o : Oper} {a : Act} {w : World} {Q : Exit → Act → World → Prop} (hgd : o.guard = none) (s x : Operand) (t e : TypeId) (hop : o.op = .call { callee := .builtin .append, args := #[s, x], argTypes := #[t, t] })
    (z : Value) (bytes : Nat) (ht : Try.prog.underlying t = some (.slice e)) (hinfo : (Try.prog.info? e).map (fun i => (i.zero, i.size, i.bytes)) = some (some z, 1, bytes)) (hz1 : z.cells.size = 1) (hby : bytes ≤ 24) (base : Nat) (v : Value) (n : Nat) (xs : List Value) (hs : a.eval s = v) (hown : w.ownsRow base e 1 v n xs) (hn : n ≤ 10000000000) (hbase : base ≤ w.heap.size) (g c k : Nat) (news : List Value) (hx : a.eval x = .slice (some ⟨g, 0, none⟩) k c) (hk : news.length = k) (hk0 : 0 < k ∧ k ≤ 4) (hnews : ∀ j u, news[j]? = some u → w.cell? ((⟨g, 0, none⟩ : Addr).add j) = some u) (h1 : ∀ u ∈ news, u.oneCell' = true)
    (h : ∀ v' w', w'.ownsRow base e 1 v' (n + k) (xs ++ news) → w.grownBy w' v.ownBlock → Moved w v v' → wpList Try.prog ops Q rest (a.put o.dst v') w') : wpList Try.prog ops Q (o :: rest) a w := by
  refine wpList_plain hgd fun K hK' => ?_
  obtain ⟨v', w', hr, r1, r2, r3⟩ := run_append_vals w t o.type e z bytes ht hinfo hz1 hby base v n xs hown hn hbase g c k news hk hk0 hnews h1
  unfold Oper.wp execOp
  simp only [hop, resolve, invoke, builtin, Sem.run_bind, Sem.run_pure, Result.andThen_ok, List.map_toArray, List.map_cons, List.map_nil, hs, hx, hr]
  exact hK' _ _ (h v' w' r1 r2 r3)
theorem step_append_vals {ops : Array Oper} {o : Oper} {a : Act} {w : World} {K : Act → World → Prop} {Q : Exit → Act → World → Prop} {E : Prop} (hgd : o.guard = none) (s x : Operand) (t e : TypeId) (hop : o.op = .call { callee := .builtin .append, args := #[s, x], argTypes := #[t, t] })
    (z : Value) (bytes : Nat) (ht : Try.prog.underlying t = some (.slice e)) (hinfo : (Try.prog.info? e).map (fun i => (i.zero, i.size, i.bytes)) = some (some z, 1, bytes)) (hz1 : z.cells.size = 1) (hby : bytes ≤ 24) (base : Nat) (v : Value) (n : Nat) (xs : List Value) (hs : a.eval s = v) (hown : w.ownsRow base e 1 v n xs) (hn : n ≤ 10000000000) (hbase : base ≤ w.heap.size) (g c k : Nat) (news : List Value) (hx : a.eval x = .slice (some ⟨g, 0, none⟩) k c) (hk : news.length = k) (hk0 : 0 < k ∧ k ≤ 4) (hnews : ∀ j u, news[j]? = some u → w.cell? ((⟨g, 0, none⟩ : Addr).add j) = some u) (h1 : ∀ u ∈ news, u.oneCell' = true)
    (h : ∀ v' w', w'.ownsRow base e 1 v' (n + k) (xs ++ news) → w.grownBy w' v.ownBlock → Moved w v v' → K (a.put o.dst v') w') :
    if Region.wanted o (yielded ops a.tmps) = true then Oper.wp Try.prog o a w K Q else E := by
  have hw : Region.wanted o (yielded ops a.tmps) = true := by simp [Region.wanted, hgd]
  rw [if_pos hw]
  obtain ⟨v', w', hr, r1, r2, r3⟩ := run_append_vals w t o.type e z bytes ht hinfo hz1 hby base v n xs hown hn hbase g c k news hk hk0 hnews h1
  unfold Oper.wp execOp
  simp only [hop, resolve, invoke, builtin, Sem.run_bind, Sem.run_pure, Result.andThen_ok, List.map_toArray, List.map_cons, List.map_nil, hs, hx, hr]
  exact h v' w' r1 r2 r3
theorem news4 (w : World) (a b c d : Value) (t : TypeId) : ∀ j u, [a, b, c, d][j]? = some u → (w.alloc (.cells #[a, b, c, d] t)).cell? ((⟨w.heap.size, 0, none⟩ : Addr).add j) = some u := by
  intro j u hj
  match j, hj with
  | 0, hj => simp at hj; subst hj; simp [Addr.add]
  | 1, hj => simp at hj; subst hj; simp [Addr.add]
  | 2, hj => simp at hj; subst hj; simp [Addr.add]
  | 3, hj => simp at hj; subst hj; simp [Addr.add]
  | j + 4, hj => simp at hj
theorem one4 (a b c d : Option Addr) (n1 n2 n3 n4 c1 c2 c3 c4 : Nat) : ∀ u ∈ [Value.slice a n1 c1, .slice b n2 c2, .slice c n3 c3, .slice d n4 c4], u.oneCell' = true := by
  intro u hu
  simp at hu
  rcases hu with rfl | rfl | rfl | rfl <;> rfl
theorem oneI4 (m : Int) : ∀ u ∈ [Value.int .i64 m, .int .i64 m, .int .i64 m, .int .i64 m], u.oneCell' = true := by
  intro u hu
  simp at hu
  subst hu
  rfl
/-- The lists stand in the book, their marks not yet. -/
structure MidR (w : World) (B bk : Nat) (xy : Value × Value) (nv mv lv nv' : Value) (E : List (Value × Int)) (m : Int) (D : List Value) (wr : World) : Prop where
  box : wr.heap[bk]? = some (.cells (bookC xy nv' mv m) 31)
  high : B ≤ bk
  rn : wr.ownsRow B 44 1 nv' (E.length + 4) (E.map Prod.fst ++ D)
  rm : wr.ownsRow B 3 1 mv E.length (E.map fun x => Value.int .i64 x.2)
  old : ∀ x ∈ E, Marks wr x.1 x.2
  new : ∀ d ∈ D, Marks wr d m
  far : BFar w wr bk nv mv lv
  mn : Moved w nv nv'
section
variable {w wr w4 : World} {B bk bx : Nat} {nv mv lv nv' mv' : Value} {E : List (Value × Int)} {m : Int} {n : Nat} {D : List Value}
theorem Marks.other {w w' : World} {B : Nat} {e : TypeId} {v u : Value} {n' : Nat} {xs : List Value} {m : Int} (h : Marks w v m) (ho : w.ownsRow B e 1 u n' xs) (he : 46 ≠ e) (hg : w.grownBy w' u.ownBlock) : Marks w' v m := by
  rcases h with h | ⟨g, n, c, cur, rfl, hh, hk⟩
  · exact Or.inl h
  · refine Marks.grown (Or.inr ⟨g, n, c, cur, rfl, hh, hk⟩) hg ?_
    right
    intro e'
    obtain ⟨_, ⟨rfl, _⟩ | ⟨g', cap, cur', rfl, _, hh', _⟩⟩ := ho
    · simp [Value.ownBlock] at e'
    · simp [Value.ownBlock] at e'
      subst e'
      rw [hh] at hh'
      simp at hh'
      exact he hh'.2
theorem OSt.mid (h : OSt w B bk bx xy nv mv lv E m n D wr) {X : Obj} (r1 : w4.ownsRow B 44 1 nv' (E.length + 4) (E.map Prod.fst ++ D)) (r2 : (wr.alloc X).grownBy w4 nv.ownBlock) (r3 : Moved (wr.alloc X) nv nv') :
    MidR w B bk xy nv mv lv nv' E m D (w4.setCell ⟨bk, 0, none⟩ nv') ∧ w4.cell? ⟨bk, 0, none⟩ = some nv ∧ w4.frozen? ⟨bk, 0, none⟩ = false := by
  have hb : Below wr.heap.size wr (wr.alloc X) := (Below.refl _ _).alloc (Nat.le_refl _) X
  have hbk := h.book.below hb
  have hne : nv.ownBlock ≠ some bk := own_ne_box hbk.rn hbk.box (by decide)
  have hbx : w4.heap[bk]? = some (.cells (bookC xy nv mv m) 31) := by rw [r2.block bk hbk.lt (fun e => hne e.symm), hbk.box]
  have hws := h.far.size
  refine ⟨⟨heap_set hbx, hbk.high, own_setB r1 hbx (by decide), own_setB (own_grown hbk.rm r2 (own_apart hbk.rm hbk.rn (by decide))) hbx (by decide), fun x hx => ((hbk.mks x hx).other hbk.rn (by decide) r2).setB hbx 0 _, fun d hd => (((h.marks d hd).below hb).other hbk.rn (by decide) r2).setB hbx 0 _, ((h.far.below hb).grown r2 (Or.inl (Moved.refl _ _))).setB 0 _, (Moved.refl w nv).trans r3 (by simp; omega)⟩, by simp [World.cell?, hbx], by simp [World.frozen?, hbx]⟩
end

theorem MidR.done {w wr w6 : World} {B bk : Nat} {nv mv lv nv' mv' d1 d2 d3 d4 : Value} {E : List (Value × Int)} {m : Int} (h : MidR w B bk xy nv mv lv nv' E m [d1, d2, d3, d4] wr) {X : Obj} (r1 : w6.ownsRow B 3 1 mv' (E.length + 4) ((E.map fun x => Value.int .i64 x.2) ++ [.int .i64 m, .int .i64 m, .int .i64 m, .int .i64 m])) (r2 : (wr.drew.alloc X).grownBy w6 mv.ownBlock) (r3 : Moved (wr.drew.alloc X) mv mv') (hf : E.length + 4 ≤ 10000000000) (hlo : -10000000000 ≤ m) (hhi : m ≤ 0) :
    (BookIn (w6.setCell ⟨bk, 1, none⟩ mv') B bk xy nv' mv' (E ++ [(d1, m), (d2, m), (d3, m), (d4, m)]) m ∧ BFar w (w6.setCell ⟨bk, 1, none⟩ mv') bk nv mv lv ∧ Moved w mv mv') ∧ w6.cell? ⟨bk, 1, none⟩ = some mv ∧ w6.frozen? ⟨bk, 1, none⟩ = false := by
  have hb : Below wr.heap.size wr (wr.drew.alloc X) := (below_drawn (w1 := wr.drew) ⟨1, rfl⟩).alloc (Nat.le_refl _) X
  have hbl : bk < wr.heap.size := (Array.getElem?_eq_some_iff.1 h.box).1
  have hbox : (wr.drew.alloc X).heap[bk]? = some (.cells (bookC xy nv' mv m) 31) := by rw [hb.block bk hbl, h.box]
  have hrm := own_below h.rm hb (Nat.le_refl _)
  have hrn := own_below h.rn hb (Nat.le_refl _)
  have hne : mv.ownBlock ≠ some bk := own_ne_box hrm hbox (by decide)
  have hbx : w6.heap[bk]? = some (.cells (bookC xy nv' mv m) 31) := by rw [r2.block bk (by simp; omega) (fun e => hne e.symm), hbox]
  have hws := h.far.size
  have hl : (E ++ [(d1, m), (d2, m), (d3, m), (d4, m)]).length = E.length + 4 := by simp
  refine ⟨⟨⟨heap_set hbx, h.high, ?_, ?_, ?_, by rw [hl]; exact hf, hlo, hhi⟩, ((h.far.below hb).grown r2 (Or.inr (Or.inl (Moved.refl _ _)))).setB 1 _, (Moved.refl w mv).trans r3 (by simp; omega)⟩, by simp [World.cell?, hbx], by simp [World.frozen?, hbx]⟩
  · rw [hl, List.map_append]
    exact own_setB (own_grown hrn r2 (own_apart hrn hrm (by decide))) hbx (by decide)
  · rw [hl, List.map_append]
    exact own_setB r1 hbx (by decide)
  · intro x hx
    rcases List.mem_append.1 hx with hx | hx
    · exact (((h.old x hx).below hb).other hrm (by decide) r2).setB hbx 1 _
    · have : x.2 = m ∧ x.1 ∈ [d1, d2, d3, d4] := by
        simp at hx
        rcases hx with rfl | rfl | rfl | rfl <;> simp
      rw [this.1]
      exact (((h.new x.1 this.2).below hb).other hrm (by decide) r2).setB hbx 1 _

theorem MidR.keep8' {w wr w6 : World} {B bk : Nat} {nv mv lv nv' : Value} {E : List (Value × Int)} {m : Int} {D : List Value} (h : MidR w B bk xy nv mv lv nv' E m D wr) {X : Obj} (r2 : (wr.drew.alloc X).grownBy w6 mv.ownBlock) : w6.cell? ⟨bk, 8, none⟩ = some (.int .i64 m) := by
  have hb : Below wr.heap.size wr (wr.drew.alloc X) := (below_drawn (w1 := wr.drew) ⟨1, rfl⟩).alloc (Nat.le_refl _) X
  have hbl : bk < wr.heap.size := (Array.getElem?_eq_some_iff.1 h.box).1
  have hbox : (wr.drew.alloc X).heap[bk]? = some (.cells (bookC xy nv' mv m) 31) := by rw [hb.block bk hbl, h.box]
  have hne : mv.ownBlock ≠ some bk := own_ne_box (own_below h.rm hb (Nat.le_refl _)) hbox (by decide)
  have hbx : w6.heap[bk]? = some (.cells (bookC xy nv' mv m) 31) := by rw [r2.block bk (by simp; omega) (fun e => hne e.symm), hbox]
  simp [World.cell?, hbx]
theorem MidR.keep8 {w wr w6 : World} {B bk : Nat} {nv mv lv nv' : Value} {E : List (Value × Int)} {m : Int} {D : List Value} (h : MidR w B bk xy nv mv lv nv' E m D wr) {X : Obj} (r2 : (wr.drew.alloc X).grownBy w6 mv.ownBlock) (x : Value) : (w6.setCell ⟨bk, 1, none⟩ x).cell? ⟨bk, 8, none⟩ = some (.int .i64 m) := by
  rw [World.cell?_setCell_other _ _ _ _ (by simp)]
  exact h.keep8' r2

theorem takeH {ops : Array Oper} {Q : Exit → Act → World → Prop} {S : World → Prop} {i : Nat} {oi : Oper} {d : Option Tmp} {v : Value} {fuel : Nat} {listed : Array Bool} {a : Act} {w : World} (hi : ops[i]? = some oi) (hd : oi.dst = d) (hs : Region.noSelect ops = true) (hf : Region.free .any ops listed i = true) (hr : (Region.ready .any ops listed).contains i = true)
    (hQ : ∀ c a w, Q (.panic c) (a.put d v) w → Q (.panic c) a w) (hy : YieldsIf Try.prog ops S oi v a) (hS : S w) (h : wpAnyH Try.prog .any ops Q S fuel (listed.setIfInBounds i true) (a.put d v) w) : wpAnyH Try.prog .any ops Q S (fuel + 1) listed a w := by
  subst hd
  exact wpAnyH_take hi hs hf hr hQ hy hS h
theorem runD {ops : Array Oper} {i : Nat} {o : Oper} {d : Option Tmp} {a : Act} {w w' : World} {v : Value} {K : Act → World → Prop} {Q : Exit → Act → World → Prop} (hi : ops[i]? = some o) (hd : o.dst = d) (hg : o.guard = none) (hr : (execOp a.eval o).run Try.prog w = .ok (.value v) w') (h : K (a.put d v) w') : wpOp Try.prog ops Q i K a w := by
  subst hd
  exact wpOp_run hi hg hr h

theorem runS {ops : Array Oper} {i : Nat} {o : Oper} {d : Option Tmp} {a : Act} {w w' : World} {K : Act → World → Prop} {Q : Exit → Act → World → Prop} (hi : ops[i]? = some o) (hd : o.dst = d) (hg : o.guard = none) (hr : (execOp a.eval o).run Try.prog w = .ok .skip w') (h : K (a.put d undef) w') : wpOp Try.prog ops Q i K a w := by
  subst hd
  refine wpOp_step hi fun K' hK => ?_
  rw [if_pos (by simp [Region.wanted, hg])]
  unfold Oper.wp
  rw [hr]
  exact hK _ _ h

/-- What ownsNodes leaves. -/
structure OwR (w : World) (B bk : Nat) (xy : Value × Value) (nv mv lv : Value) (E : List (Value × Int)) (next : Int) (w' : World) (nv' mv' : Value) (E' : List (Value × Int)) : Prop where
  book : BookIn w' B bk xy nv' mv' (E ++ E') (next - 1)
  len : E'.length = 4
  new : ∀ x ∈ E', Moved w lv x.1
  far : BFar w w' bk nv mv lv
  mn : Moved w nv nv'
  mm : Moved w mv mv'

set_option maxHeartbeats 4000000 in
theorem ownsNodes_any (B bk : Nat) (nv mv lv : Value) (E : List (Value × Int)) (next : Int) (l : List Nd) (w : World) (h : BookIn w B bk xy nv mv E next) (ho : OwnN w B lv l) (hap : ∀ x ∈ E, x.1.ownBlock = none ∨ x.1.ownBlock ≠ lv.ownBlock) (hlen : l.length ≤ 5864062014805) (hfew : E.length ≤ 9000000000) (hnx : -9000000000 ≤ next) (hB : B ≤ w.heap.size) :
    Calls Try.prog 34 #[.pointer (some ⟨bk, 0, none⟩), lv] w fun e w' => ∃ nv' mv' E', e = .returned (.tuple #[]) ∧ OwR w B bk xy nv mv lv E next w' nv' mv' E' := by
  have hhi := h.hi
  have hc8 := h.c8
  have hf8 := h.soft 8
  have hbl := h.lt
  obtain ⟨la, lc, rfl⟩ := own_shape ho
  obtain ⟨na, nn, nc, rfl⟩ := own_shape3 h.rn
  obtain ⟨ma, mn, mc, rfl⟩ := own_shape3 h.rm
  have hbk1 := h.setNext (x := next - 1) (by omega) (by omega)
  have ho1 : (w.setCell ⟨bk, 8, none⟩ (.int .i64 (next - 1))).ownsRow B 46 2 (.slice la l.length lc) l.length (nodeCells l) := own_setB ho h.box (by decide)
  have hfar1 : BFar w (w.setCell ⟨bk, 8, none⟩ (.int .i64 (next - 1))) bk (.slice na nn nc) (.slice ma mn mc) (.slice la l.length lc) := (BFar.refl _ _ _ _ _).setB 8 _
  have HAP := hide hap
  have HW0 := hide h
  have hvne : (Value.slice la l.length lc).ownBlock ≠ some w.heap.size := own_lt' ho
  obtain ⟨y0, y1⟩ := nd2_new (w.setCell ⟨bk, 8, none⟩ (.int .i64 (next - 1))) (.string ⟨#[35]⟩) (.int .i64 (next - 1)) 46
  have hsz1 : (w.setCell ⟨bk, 8, none⟩ (.int .i64 (next - 1))).heap.size = w.heap.size := by simp [World.setCell]
  rw [hsz1] at y0 y1
  have hbA : Below (w.setCell ⟨bk, 8, none⟩ (.int .i64 (next - 1))).heap.size (w.setCell ⟨bk, 8, none⟩ (.int .i64 (next - 1))) ((w.setCell ⟨bk, 8, none⟩ (.int .i64 (next - 1))).alloc (.cells #[.string ⟨#[35]⟩, .int .i64 (next - 1)] 46)) := (Below.refl _ _).alloc (Nat.le_refl _) _
  have HST := hide (WSt.mk (hbk1.below hbA) (own_below ho1 hbA (Nat.le_refl _)) (hfar1.below hbA) y0 y1 hvne)
  clear h ho hap hbk1 ho1 hfar1 hbA hsz1 y0 y1 hvne
  go_enter Try.func34, Try.ntmps34
  go_wp2
  clear hc8 hf8
  generalize (w.setCell ⟨bk, 8, none⟩ (.int .i64 (next - 1))).alloc (.cells #[.string ⟨#[35]⟩, .int .i64 (next - 1)] 46) = W2 at *
  have hm1 : -10000000000 ≤ next - 1 ∧ next - 1 ≤ 0 := by omega
  generalize hmm : next - 1 = m at *
  have HMM := hide hmm
  clear hmm
  go_loopw [5] (fun c wr => ∃ k : Nat, k ≤ l.length ∧ c = .int .i64 k ∧ WSt w B bk w.heap.size xy (.slice na nn nc) (.slice ma mn mc) (.slice la l.length lc) E m (mks k m ++ l.drop k) wr) (fun c _ => l.length - (intOf c).toNat)
  case atStart => exact ⟨0, Nat.zero_le _, rfl, by simpa using HST.out⟩
  case round =>
    obtain ⟨k, hk, rfl, hW⟩ := hrel
    have z0 := hW.b0
    have z1 := hW.b1
    by_cases hlt : k < l.length
    · have hlti : (k : Int) < (l.length : Int) := by omega
      have hd : l.drop k = l[k] :: l.drop (k + 1) := List.drop_eq_getElem_cons hlt
      rw [hd] at hW
      obtain ⟨a', cap', e', hc'⟩ := row_nodes hW.own
      obtain ⟨g, ha, e0, e1⟩ := hc' k l[k] (by rw [List.getElem?_append_right (by simp)]; simp)
      simp at e'
      obtain ⟨rfl, -, -⟩ := e'
      subst ha
      have hfz : ∀ j, wr.frozen? ⟨g, j, none⟩ = false := fun j => by
        have := hW.own
        rw [show (mks k m ++ l[k] :: l.drop (k + 1)).length = l.length by simp; omega] at this
        exact this.frozenAt j
      have f0 := hfz (k * 2)
      have f1 := hfz (k * 2 + 1)
      have hput := hW.put (by simp; omega) HAP.out
      simp only [List.length_replicate] at hput
      have HP := hide hput
      clear hput hW hc' hd hfz
      generalize l[k] = y at *
      obtain ⟨ys, yx⟩ := y
      simp only at e0 e1
      clear HST HMM hm1
      go_wp2
      go_roundw
      case rel => exact ⟨k + 1, by omega, by go_num, by rw [show mks (k + 1) m ++ l.drop (k + 1) = mks k m ++ mkN m :: l.drop (k + 1) by (unfold mks; rw [List.replicate_succ']; simp)]; exact HP.out⟩
      case measure => simp [intOf]; omega
    · have hke : k = l.length := by omega
      subst hke
      have hlti : ¬ ((l.length : Int) < (l.length : Int)) := by omega
      rw [List.drop_length, List.append_nil] at hW
      have hown := hW.own
      rw [List.length_replicate] at hown
      have HS0 := hide (OSt.mk (D := [.slice la l.length lc]) hW.book hown (fun d hd => by simp at hd; subst hd; exact Marks.of_own hown (by omega)) (fun d hd => by simp at hd; subst hd; exact Moved.refl _ _) hW.far z0 z1 hW.vne)
      have hws := hW.far.size
      clear hW hown
      generalize hnl : l.length = n at *
      have HNL := hide hnl
      clear hnl
      go_wp2_with (first
        | (at_builtin; refine wpList_append_vals rfl (.tmp 50) (.tmp 55) 24 44 rfl (.slice none 0 0) 24 Try.underlying24 infoNodes rfl (by omega) B _ E.length (E.map Prod.fst) rfl (HS3.out.book.rn.alloc _) (by omega) (by simp; omega) w3.heap.size 4 4 [.slice la n lc, .slice a1 n1 c1, .slice a2 n2 c2, .slice a3 n3 c3] rfl rfl (by omega) (news4 w3 _ _ _ _ 44) (one4 _ _ _ _ _ _ _ _ _ _ _ _) ?_; intro v4 w4 r1 r2 r3; obtain ⟨hM, d0, df⟩ := HS3.out.mid r1 r2 r3; have HM := hide hM; have hw4 : w3.heap.size ≤ w4.heap.size := (by have := r2.size; simp at this; omega); obtain ⟨a4, n4, c4, rfl⟩ := own_shape3 r1; clear r1 r2 r3 hM)
        | (at_builtin; refine wpList_append_mk rfl (.tmp 40) (.tmp 44) rfl B _ n m rfl (HS2.out.own.alloc _) (by simp; omega) ⟨w2.heap.size, 0, none⟩ 3 3 rfl (by omega) hlen (news3 w2 m) ?_; intro v3 w3 r1 r2 r3 r4 r5; have HS3 := hide (HS2.out.next HAP.out r1 r2 r3 r4 r5 (by omega)); have b30 := HS3.out.b0; have b31 := HS3.out.b1; have hw3 := HS3.out.far.size; have q0 := HS3.out.book.c0; obtain ⟨a3, n3, c3, rfl⟩ := own_shape3 r1; clear r1 r2 r3 r4 r5)
        | (at_builtin; refine wpList_append_mk rfl (.tmp 35) (.tmp 38) rfl B _ n m rfl (HS1.out.own.alloc _) (by simp; omega) ⟨w1.heap.size, 0, none⟩ 2 2 rfl (by omega) hlen (news2 w1 m) ?_; intro v2 w2 r1 r2 r3 r4 r5; have HS2 := hide (HS1.out.next HAP.out r1 r2 r3 r4 r5 (by omega)); have b20 := HS2.out.b0; have b21 := HS2.out.b1; have hw2 := HS2.out.far.size; obtain ⟨a2, n2, c2, rfl⟩ := own_shape3 r1; clear r1 r2 r3 r4 r5)
        | (at_builtin; refine wpList_append_mk rfl (.tmp 31) (.tmp 33) rfl B _ n m rfl (HS0.out.own.alloc _) (by simp; omega) ⟨wr.heap.size, 0, none⟩ 1 1 rfl (by omega) hlen (news1 wr m) ?_; intro v1 w1 r1 r2 r3 r4 r5; have HS1 := hide (HS0.out.next HAP.out r1 r2 r3 r4 r5 (by omega)); have b10 := HS1.out.b0; have b11 := HS1.out.b1; have hw1 := HS1.out.far.size; obtain ⟨a1, n1, c1, rfl⟩ := own_shape3 r1; clear r1 r2 r3 r4 r5)
        | go_in)
      have hc1 : (w4.setCell ⟨bk, 0, none⟩ (.slice a4 n4 c4)).cell? ⟨bk, 1, none⟩ = some (.slice ma mn mc) := by simp [World.cell?, HM.out.box]
      have hc8 : (w4.setCell ⟨bk, 0, none⟩ (.slice a4 n4 c4)).cell? ⟨bk, 8, none⟩ = some (.int .i64 m) := by simp [World.cell?, HM.out.box]
      have hb5 : bk < (w4.setCell ⟨bk, 0, none⟩ (.slice a4 n4 c4)).heap.size := (Array.getElem?_eq_some_iff.1 HM.out.box).1
      have hw5 : w4.heap.size = (w4.setCell ⟨bk, 0, none⟩ (.slice a4 n4 c4)).heap.size := by simp [World.setCell]
      have hw5' : w.heap.size ≤ (w4.setCell ⟨bk, 0, none⟩ (.slice a4 n4 c4)).heap.size := by omega
      clear d0 df hw5 z0 z1 b10 b11 b20 b21 b30 b31 q0
      generalize w4.setCell ⟨bk, 0, none⟩ (.slice a4 n4 c4) = w5 at *
      have hX1 : ∀ X, (w5.alloc X).cell? ⟨bk, 1, none⟩ = some (.slice ma mn mc) := fun X => Below.at' ((Below.refl w5.heap.size w5).alloc (Nat.le_refl _) X) (Nat.le_refl _) hc1
      have hX8 : ∀ X, (w5.alloc X).cell? ⟨bk, 8, none⟩ = some (.int .i64 m) := fun X => Below.at' ((Below.refl w5.heap.size w5).alloc (Nat.le_refl _) X) (Nat.le_refl _) hc8
      have hrm : w5.drew.ownsRow B 3 1 (.slice ma mn mc) E.length (E.map fun x => Value.int .i64 x.2) := HM.out.rm
      refine wp_region_held (S := fun w' => w'.cell? ⟨bk, 8, none⟩ = some (.int .i64 m)) (by kernel_rfl) ?_
      change wpAnyH _ _ _ _ _ _ _ _ w5.drew
      refine takeH (i := 0) (d := some 59) (v := .pointer (some ⟨bk, 0, none⟩)) rfl rfl (by kernel_rfl) (by kernel_rfl) (by kernel_rfl) (fun _ _ _ h => h) (Or.inl ⟨by rfl, fun w' hw' => (by dsimp only at hw'; go_simp)⟩) hc8 ?_
      simp only [Act.put, List.setIfInBounds_toArray, List.set_cons_zero, List.set_cons_succ]
      refine takeH (i := 1) (d := some 60) (v := .pointer (some ⟨bk, 0, none⟩)) rfl rfl (by kernel_rfl) (by kernel_rfl) (by kernel_rfl) (fun _ _ _ h => h) (Or.inl ⟨by rfl, fun w' hw' => (by dsimp only at hw'; go_simp)⟩) hc8 ?_
      simp only [Act.put, List.setIfInBounds_toArray, List.set_cons_zero, List.set_cons_succ]
      refine takeH (i := 2) (d := some 61) (v := .pointer (some ⟨bk, 0, none⟩)) rfl rfl (by kernel_rfl) (by kernel_rfl) (by kernel_rfl) (fun _ _ _ h => h) (Or.inl ⟨by rfl, fun w' hw' => (by dsimp only at hw'; go_simp)⟩) hc8 ?_
      simp only [Act.put, List.setIfInBounds_toArray, List.set_cons_zero, List.set_cons_succ]
      refine takeH (i := 3) (d := some 62) (v := .pointer (some ⟨bk, 1, none⟩)) rfl rfl (by kernel_rfl) (by kernel_rfl) (by kernel_rfl) (fun _ _ _ h => h) (Or.inl ⟨by rfl, fun w' hw' => (by dsimp only at hw'; go_simp)⟩) hc8 ?_
      simp only [Act.put, List.setIfInBounds_toArray, List.set_cons_zero, List.set_cons_succ]
      refine takeH (i := 5) (d := some 64) (v := .pointer (some ⟨bk, 0, none⟩)) rfl rfl (by kernel_rfl) (by kernel_rfl) (by kernel_rfl) (fun _ _ _ h => h) (Or.inl ⟨by rfl, fun w' hw' => (by dsimp only at hw'; go_simp)⟩) hc8 ?_
      simp only [Act.put, List.setIfInBounds_toArray, List.set_cons_zero, List.set_cons_succ]
      refine takeH (i := 6) (d := some 65) (v := .pointer (some ⟨bk, 0, none⟩)) rfl rfl (by kernel_rfl) (by kernel_rfl) (by kernel_rfl) (fun _ _ _ h => h) (Or.inl ⟨by rfl, fun w' hw' => (by dsimp only at hw'; go_simp)⟩) hc8 ?_
      simp only [Act.put, List.setIfInBounds_toArray, List.set_cons_zero, List.set_cons_succ]
      refine takeH (i := 7) (d := some 66) (v := .pointer (some ⟨bk, 8, none⟩)) rfl rfl (by kernel_rfl) (by kernel_rfl) (by kernel_rfl) (fun _ _ _ h => h) (Or.inl ⟨by rfl, fun w' hw' => (by dsimp only at hw'; go_simp)⟩) hc8 ?_
      simp only [Act.put, List.setIfInBounds_toArray, List.set_cons_zero, List.set_cons_succ]
      refine takeH (i := 8) (d := some 67) (v := .int .i64 m) rfl rfl (by kernel_rfl) (by kernel_rfl) (by kernel_rfl) (fun _ _ _ h => h) (Or.inl ⟨by rfl, fun w' hw' => (by dsimp only at hw'; go_simp)⟩) hc8 ?_
      simp only [Act.put, List.setIfInBounds_toArray, List.set_cons_zero, List.set_cons_succ]
      refine takeH (i := 9) (d := some 68) (v := .pointer (some ⟨bk, 0, none⟩)) rfl rfl (by kernel_rfl) (by kernel_rfl) (by kernel_rfl) (fun _ _ _ h => h) (Or.inl ⟨by rfl, fun w' hw' => (by dsimp only at hw'; go_simp)⟩) hc8 ?_
      simp only [Act.put, List.setIfInBounds_toArray, List.set_cons_zero, List.set_cons_succ]
      refine takeH (i := 10) (d := some 69) (v := .pointer (some ⟨bk, 0, none⟩)) rfl rfl (by kernel_rfl) (by kernel_rfl) (by kernel_rfl) (fun _ _ _ h => h) (Or.inl ⟨by rfl, fun w' hw' => (by dsimp only at hw'; go_simp)⟩) hc8 ?_
      simp only [Act.put, List.setIfInBounds_toArray, List.set_cons_zero, List.set_cons_succ]
      refine takeH (i := 11) (d := some 70) (v := .pointer (some ⟨bk, 8, none⟩)) rfl rfl (by kernel_rfl) (by kernel_rfl) (by kernel_rfl) (fun _ _ _ h => h) (Or.inl ⟨by rfl, fun w' hw' => (by dsimp only at hw'; go_simp)⟩) hc8 ?_
      simp only [Act.put, List.setIfInBounds_toArray, List.set_cons_zero, List.set_cons_succ]
      refine takeH (i := 12) (d := some 71) (v := .int .i64 m) rfl rfl (by kernel_rfl) (by kernel_rfl) (by kernel_rfl) (fun _ _ _ h => h) (Or.inl ⟨by rfl, fun w' hw' => (by dsimp only at hw'; go_simp)⟩) hc8 ?_
      simp only [Act.put, List.setIfInBounds_toArray, List.set_cons_zero, List.set_cons_succ]
      refine takeH (i := 13) (d := some 72) (v := .pointer (some ⟨bk, 0, none⟩)) rfl rfl (by kernel_rfl) (by kernel_rfl) (by kernel_rfl) (fun _ _ _ h => h) (Or.inl ⟨by rfl, fun w' hw' => (by dsimp only at hw'; go_simp)⟩) hc8 ?_
      simp only [Act.put, List.setIfInBounds_toArray, List.set_cons_zero, List.set_cons_succ]
      refine takeH (i := 14) (d := some 73) (v := .pointer (some ⟨bk, 0, none⟩)) rfl rfl (by kernel_rfl) (by kernel_rfl) (by kernel_rfl) (fun _ _ _ h => h) (Or.inl ⟨by rfl, fun w' hw' => (by dsimp only at hw'; go_simp)⟩) hc8 ?_
      simp only [Act.put, List.setIfInBounds_toArray, List.set_cons_zero, List.set_cons_succ]
      refine takeH (i := 15) (d := some 74) (v := .pointer (some ⟨bk, 8, none⟩)) rfl rfl (by kernel_rfl) (by kernel_rfl) (by kernel_rfl) (fun _ _ _ h => h) (Or.inl ⟨by rfl, fun w' hw' => (by dsimp only at hw'; go_simp)⟩) hc8 ?_
      simp only [Act.put, List.setIfInBounds_toArray, List.set_cons_zero, List.set_cons_succ]
      refine takeH (i := 16) (d := some 75) (v := .int .i64 m) rfl rfl (by kernel_rfl) (by kernel_rfl) (by kernel_rfl) (fun _ _ _ h => h) (Or.inl ⟨by rfl, fun w' hw' => (by dsimp only at hw'; go_simp)⟩) hc8 ?_
      simp only [Act.put, List.setIfInBounds_toArray, List.set_cons_zero, List.set_cons_succ]
      refine takeH (i := 17) (d := some 76) (v := .pointer (some ⟨bk, 0, none⟩)) rfl rfl (by kernel_rfl) (by kernel_rfl) (by kernel_rfl) (fun _ _ _ h => h) (Or.inl ⟨by rfl, fun w' hw' => (by dsimp only at hw'; go_simp)⟩) hc8 ?_
      simp only [Act.put, List.setIfInBounds_toArray, List.set_cons_zero, List.set_cons_succ]
      refine takeH (i := 18) (d := some 77) (v := .pointer (some ⟨bk, 0, none⟩)) rfl rfl (by kernel_rfl) (by kernel_rfl) (by kernel_rfl) (fun _ _ _ h => h) (Or.inl ⟨by rfl, fun w' hw' => (by dsimp only at hw'; go_simp)⟩) hc8 ?_
      simp only [Act.put, List.setIfInBounds_toArray, List.set_cons_zero, List.set_cons_succ]
      refine takeH (i := 19) (d := some 78) (v := .pointer (some ⟨bk, 8, none⟩)) rfl rfl (by kernel_rfl) (by kernel_rfl) (by kernel_rfl) (fun _ _ _ h => h) (Or.inl ⟨by rfl, fun w' hw' => (by dsimp only at hw'; go_simp)⟩) hc8 ?_
      simp only [Act.put, List.setIfInBounds_toArray, List.set_cons_zero, List.set_cons_succ]
      refine takeH (i := 20) (d := some 79) (v := .int .i64 m) rfl rfl (by kernel_rfl) (by kernel_rfl) (by kernel_rfl) (fun _ _ _ h => h) (Or.inl ⟨by rfl, fun w' hw' => (by dsimp only at hw'; go_simp)⟩) hc8 ?_
      simp only [Act.put, List.setIfInBounds_toArray, List.set_cons_zero, List.set_cons_succ]
      refine wpAnyH_all (rs := [4, 21]) (by kernel_rfl) (by simp) fun i hi => ?_
      have hi' : i = 4 ∨ i = 21 := by simpa using hi
      rcases hi' with rfl | rfl
      · refine runD (d := some 63) (v := .slice ma mn mc) (w' := w5.drew) rfl rfl rfl (by go_simp) ⟨hc8, ?_⟩
        simp only [Act.put, List.setIfInBounds_toArray, List.set_cons_zero, List.set_cons_succ]
        refine wpAnyH_all (rs := [21]) (by kernel_rfl) (by simp) fun i hi => ?_
        obtain rfl : i = 21 := by simpa using hi
        refine runD (d := some 80) (v := .slice (some ⟨w5.heap.size, 0, none⟩) 4 4) (w' := w5.drew.alloc (.cells #[.int .i64 m, .int .i64 m, .int .i64 m, .int .i64 m] 3)) rfl rfl rfl (by go_simp) ⟨hX8 _, ?_⟩
        simp only [Act.put, List.setIfInBounds_toArray, List.set_cons_zero, List.set_cons_succ]
        refine wpAnyH_all (rs := [22]) (by kernel_rfl) (by simp) fun i hi => ?_
        obtain rfl : i = 22 := by simpa using hi
        refine wpOp_step rfl fun K' hK => ?_
        refine step_append_vals rfl _ _ 25 3 rfl (.int .i64 0) 8 Try.underlying25 infoInt rfl (by omega) B _ E.length _ rfl (hrm.alloc _) (by omega) (by simp; omega) w5.heap.size 4 4 [.int .i64 m, .int .i64 m, .int .i64 m, .int .i64 m] rfl rfl (by omega) (news4 w5.drew _ _ _ _ 3) (oneI4 m) ?_
        intro v6 w6 r1 r2 r3
        obtain ⟨⟨hB6, hF6, hM6⟩, d0, df⟩ := HM.out.done r1 r2 r3 (by omega) hm1.1 hm1.2
        have d8 := HM.out.keep8' r2
        have d8' := HM.out.keep8 r2
        obtain ⟨a6, n6, c6, rfl⟩ := own_shape3 r1
        refine hK _ _ ⟨d8, ?_⟩
        clear hK r1 r2 r3
        change wpAnyH _ _ _ _ _ _ _ (Act.put _ (some 81) (.slice a6 n6 c6)) w6
        simp only [Act.put, List.setIfInBounds_toArray, List.set_cons_zero, List.set_cons_succ]
        refine takeH (i := 23) (d := some 82) (v := .pointer (some ⟨bk, 0, none⟩)) rfl rfl (by kernel_rfl) (by kernel_rfl) (by kernel_rfl) (fun _ _ _ h => h) (Or.inl ⟨by rfl, fun w' hw' => (by dsimp only at hw'; go_simp)⟩) d8 ?_
        simp only [Act.put, List.setIfInBounds_toArray, List.set_cons_zero, List.set_cons_succ]
        refine takeH (i := 24) (d := some 83) (v := .pointer (some ⟨bk, 1, none⟩)) rfl rfl (by kernel_rfl) (by kernel_rfl) (by kernel_rfl) (fun _ _ _ h => h) (Or.inl ⟨by rfl, fun w' hw' => (by dsimp only at hw'; go_simp)⟩) d8 ?_
        simp only [Act.put, List.setIfInBounds_toArray, List.set_cons_zero, List.set_cons_succ]
        refine wpAnyH_all (rs := [25]) (by kernel_rfl) (by simp) fun i hi => ?_
        obtain rfl : i = 25 := by simpa using hi
        refine runS (d := none) (w' := w6.setCell ⟨bk, 1, none⟩ (.slice a6 n6 c6)) rfl rfl rfl (by go_simp) ⟨d8' _, ?_⟩
        refine wpAnyH_done (by kernel_rfl) ?_ _
        go_end0
        have hnl := HNL.out
        subst hnl
        exact ⟨_, _, _, rfl, ⟨by rw [HMM.out]; exact hB6, rfl, fun x hx => HS3.out.moved x.1 (by simp at hx; rcases hx with rfl | rfl | rfl | rfl <;> simp), hF6, HM.out.mn, hM6⟩⟩
      · refine runD (d := some 80) (v := .slice (some ⟨w5.heap.size, 0, none⟩) 4 4) (w' := w5.drew.alloc (.cells #[.int .i64 m, .int .i64 m, .int .i64 m, .int .i64 m] 3)) rfl rfl rfl (by go_simp) ⟨hX8 _, ?_⟩
        simp only [Act.put, List.setIfInBounds_toArray, List.set_cons_zero, List.set_cons_succ]
        refine wpAnyH_all (rs := [4]) (by kernel_rfl) (by simp) fun i hi => ?_
        obtain rfl : i = 4 := by simpa using hi
        refine runD (d := some 63) (v := .slice ma mn mc) (w' := w5.drew.alloc (.cells #[.int .i64 m, .int .i64 m, .int .i64 m, .int .i64 m] 3)) rfl rfl rfl (by go_simp) ⟨hX8 _, ?_⟩
        simp only [Act.put, List.setIfInBounds_toArray, List.set_cons_zero, List.set_cons_succ]
        refine wpAnyH_all (rs := [22]) (by kernel_rfl) (by simp) fun i hi => ?_
        obtain rfl : i = 22 := by simpa using hi
        refine wpOp_step rfl fun K' hK => ?_
        refine step_append_vals rfl _ _ 25 3 rfl (.int .i64 0) 8 Try.underlying25 infoInt rfl (by omega) B _ E.length _ rfl (hrm.alloc _) (by omega) (by simp; omega) w5.heap.size 4 4 [.int .i64 m, .int .i64 m, .int .i64 m, .int .i64 m] rfl rfl (by omega) (news4 w5.drew _ _ _ _ 3) (oneI4 m) ?_
        intro v6 w6 r1 r2 r3
        obtain ⟨⟨hB6, hF6, hM6⟩, d0, df⟩ := HM.out.done r1 r2 r3 (by omega) hm1.1 hm1.2
        have d8 := HM.out.keep8' r2
        have d8' := HM.out.keep8 r2
        obtain ⟨a6, n6, c6, rfl⟩ := own_shape3 r1
        refine hK _ _ ⟨d8, ?_⟩
        clear hK r1 r2 r3
        change wpAnyH _ _ _ _ _ _ _ (Act.put _ (some 81) (.slice a6 n6 c6)) w6
        simp only [Act.put, List.setIfInBounds_toArray, List.set_cons_zero, List.set_cons_succ]
        refine takeH (i := 23) (d := some 82) (v := .pointer (some ⟨bk, 0, none⟩)) rfl rfl (by kernel_rfl) (by kernel_rfl) (by kernel_rfl) (fun _ _ _ h => h) (Or.inl ⟨by rfl, fun w' hw' => (by dsimp only at hw'; go_simp)⟩) d8 ?_
        simp only [Act.put, List.setIfInBounds_toArray, List.set_cons_zero, List.set_cons_succ]
        refine takeH (i := 24) (d := some 83) (v := .pointer (some ⟨bk, 1, none⟩)) rfl rfl (by kernel_rfl) (by kernel_rfl) (by kernel_rfl) (fun _ _ _ h => h) (Or.inl ⟨by rfl, fun w' hw' => (by dsimp only at hw'; go_simp)⟩) d8 ?_
        simp only [Act.put, List.setIfInBounds_toArray, List.set_cons_zero, List.set_cons_succ]
        refine wpAnyH_all (rs := [25]) (by kernel_rfl) (by simp) fun i hi => ?_
        obtain rfl : i = 25 := by simpa using hi
        refine runS (d := none) (w' := w6.setCell ⟨bk, 1, none⟩ (.slice a6 n6 c6)) rfl rfl rfl (by go_simp) ⟨d8' _, ?_⟩
        refine wpAnyH_done (by kernel_rfl) ?_ _
        go_end0
        have hnl := HNL.out
        subst hnl
        exact ⟨_, _, _, rfl, ⟨by rw [HMM.out]; exact hB6, rfl, fun x hx => HS3.out.moved x.1 (by simp at hx; rcases hx with rfl | rfl | rfl | rfl <;> simp), hF6, HM.out.mn, hM6⟩⟩

end Go.Proofs.Ytcpdadppblbndaa
