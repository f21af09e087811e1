/- The program: what holds while the parts of two places are joined. The program: the classes of two places are made one, and so on with their parts. -/
import Derived.Test.YtjnddclkdofgdaaDoorUAdd0M
namespace Go.Proofs.YtjnddclkdofgdaaDoor
open Go.RowKit Go.Shelf Go.WideMaps
set_option maxRecDepth 100000

/-- A new box of one cell. -/
theorem box_new (w : World) (x : Value) (t : TypeId) : (w.alloc (.cells #[x] t)).cell? ⟨w.heap.size, 0, none⟩ = some x ∧ (w.alloc (.cells #[x] t)).frozen? ⟨w.heap.size, 0, none⟩ = false := by
  have h : (w.alloc (.cells #[x] t)).heap[w.heap.size]? = some (.cells #[x] t) := by
    show (w.heap.push _)[w.heap.size]? = _
    simp
  constructor
  · unfold World.cell?
    rw [h]
    rfl
  · unfold World.frozen?
    rw [h]
    rfl
/-- Three new boxes. -/
theorem box3_new (w : World) (x y z : Value) (t1 t2 t3 : TypeId) : ∃ W, W = ((w.alloc (.cells #[x] t1)).alloc (.cells #[y] t2)).alloc (.cells #[z] t3) ∧ Below w.heap.size w W ∧ W.cell? ⟨w.heap.size, 0, none⟩ = some x ∧ W.frozen? ⟨w.heap.size, 0, none⟩ = false ∧ W.cell? ⟨w.heap.size + 1, 0, none⟩ = some y ∧ W.cell? ⟨w.heap.size + 1 + 1, 0, none⟩ = some z ∧ W.heap.size = w.heap.size + 3 := by
  refine ⟨_, rfl, (((Below.refl _ _).alloc (Nat.le_refl _) _).alloc (by simp) _).alloc (by simp; omega) _, ?_, ?_, ?_, ?_, by simp⟩
  · have h1 := (box_new w x t1).1
    have h2 := Below.at' ((Below.refl _ (w.alloc (.cells #[x] t1))).alloc (Nat.le_refl _) (.cells #[y] t2)) (Nat.le_refl _) h1
    exact Below.at' ((Below.refl _ ((w.alloc (.cells #[x] t1)).alloc (.cells #[y] t2))).alloc (Nat.le_refl _) (.cells #[z] t3)) (Nat.le_refl _) h2
  · have hb : Below (w.alloc (.cells #[x] t1)).heap.size (w.alloc (.cells #[x] t1)) (((w.alloc (.cells #[x] t1)).alloc (.cells #[y] t2)).alloc (.cells #[z] t3)) := ((Below.refl _ _).alloc (Nat.le_refl _) _).alloc (by simp) _
    rw [hb.frozen (p := ⟨w.heap.size, 0, none⟩) (by simp)]
    exact (box_new w x t1).2
  · have h1 := (box_new (w.alloc (.cells #[x] t1)) y t2).1
    rw [World.size_alloc] at h1
    exact Below.at' ((Below.refl _ ((w.alloc (.cells #[x] t1)).alloc (.cells #[y] t2))).alloc (Nat.le_refl _) (.cells #[z] t3)) (Nat.le_refl _) h1
  · have h1 := (box_new ((w.alloc (.cells #[x] t1)).alloc (.cells #[y] t2)) z t3).1
    rw [World.size_alloc, World.size_alloc] at h1
    exact h1
/-- The ends, as the iterator reads them. -/
theorem TmIn.ends {w : World} {B tb : Nat} {vn ve vl vs vm : Value} {L : List Nd} {F : List Nat} {S : List Int} (h : TmIn w B tb vn ve vl vs vm L F S) (h0 : 0 < L.length) : ∃ ge ce, ve = .slice (some ⟨ge, 0, none⟩) L.length ce ∧ ∀ p, p < L.length → w.cell? ⟨ge, p, none⟩ = some (.int .i64 (p + endGo (L.drop p) 1)) := by
  obtain ⟨a, c, e, hc⟩ := row_nats h.re (endsL_length L)
  obtain ⟨g, rfl, _⟩ := hc 0 (by rw [endsL_length]; exact h0)
  refine ⟨g, c, e, fun p hp => ?_⟩
  obtain ⟨g', hg, h1⟩ := hc p (by rw [endsL_length]; exact hp)
  simp at hg
  subst hg
  rw [h1]
  have := endsL_at L p hp
  rw [List.getElem?_eq_getElem (by rw [endsL_length]; exact hp)] at this
  simp at this
  rw [this]
  simp
theorem ItIn.of {w : World} {B tb : Nat} {vn vl vs vm : Value} {L : List Nd} {F : List Nat} {S : List Int} {ba bt ge ce a : Nat} (h : TmIn w B tb vn (.slice (some ⟨ge, 0, none⟩) L.length ce) vl vs vm L F S) (h0 : 0 < L.length) (ca : w.cell? ⟨ba, 0, none⟩ = some (.int .i64 a)) (ct : w.cell? ⟨bt, 0, none⟩ = some (.pointer (some ⟨tb, 0, none⟩))) : ItIn w ba bt tb ge L a := by
  obtain ⟨g, c, e, he⟩ := h.ends h0
  simp at e
  obtain ⟨rfl, rfl⟩ := e
  exact ⟨ca, ct, ⟨_, h.c1⟩, he⟩
theorem kpB_below {ks : List Nat} {w w' : World} (h : Below w.heap.size w w') (hk : ∀ k ∈ ks, k < w.heap.size) : KpB ks w w' := fun k hm => h.block k (hk k hm)

/-- What a join is asked under. -/
structure JC (L : List Nd) (rt : Nat → Nat) (a b : Nat) (Bs Q : Nat → Nat → Prop) : Prop where
  sound : ∀ i j, rt i = rt j → Cl (pgr L) Bs i j
  ab : Cl (pgr L) Bs a b
  mod : ClMod (pgr L) (fun i j => rt i = rt j) (Add1 Q a b)
/-- Where the k-th part of a place begins. -/
def othAt (L : List Nd) (rb k : Nat) : Nat := rb + 1 + endGo (L.drop (rb + 1)) k
theorem starts_at : ∀ (m : Nat) (s : List Nd) (b k : Nat), k < m → (starts s m b)[k]? = some (b + endGo s k) := by
  intro m
  induction m with
  | zero => intro s b k h; omega
  | succ m ih =>
    intro s b k h
    rw [starts_succ]
    cases k with
    | zero => simp
    | succ k =>
      rw [List.getElem?_cons_succ, ih _ _ k (by omega), show k + 1 = 1 + k by omega, endGo_add]
      simp
      omega
theorem ch_at {L : List Nd} {p : Nat} {n : Nd} (h : L[p]? = some n) {k : Nat} (hk : k < wants n) : ((pgr L).ch p)[k]? = some (othAt L p k) := by
  rw [pgr_ch h, starts_at _ _ _ _ hk]
  rfl
theorem ch_len {L : List Nd} {p : Nat} {n : Nd} (h : L[p]? = some n) : ((pgr L).ch p).length = wants n := by rw [pgr_ch h, starts_length]
theorem oth_lt {L : List Nd} (hL : Whole L) {p : Nat} {n : Nd} (h : L[p]? = some n) {k : Nat} (hk : k < wants n) : othAt L p k < L.length ∧ othAt L p (k + 1) = othAt L p k + endGo (L.drop (othAt L p k)) 1 := by
  obtain ⟨h1, h2⟩ := full_step (hL p n h) hk
  rw [List.length_drop] at h1
  rw [List.drop_drop] at h2
  unfold othAt
  refine ⟨by omega, ?_⟩
  rw [h2]
  omega
theorem ch_lt {L : List Nd} (hL : Whole L) {p : Nat} {n : Nd} (h : L[p]? = some n) : ∀ x ∈ (pgr L).ch p, x < L.length := by
  intro x hx
  obtain ⟨k, hk, rfl⟩ := List.getElem_of_mem hx
  have hk' : k < wants n := by rw [← ch_len h]; exact hk
  have := ch_at h hk'
  rw [List.getElem?_eq_getElem hk] at this
  simp at this
  rw [this]
  exact (oth_lt hL h hk').1
/-- Between two parts. -/
structure JLoop (w : World) (B tb gl cl : Nat) (vn ve vs vm : Value) (L : List Nd) (F0 : List Nat) (S : List Int) (rt rt0 : Nat → Nat) (a b ra rb ob N0 : Nat) (C pre : List Nat) (W : World) : Prop where
  big : N0 ≤ W.heap.size
  st : ∃ F' rt' d', TmIn W B tb vn ve (.slice (some ⟨gl, 0, none⟩) L.length cl) vs vm L F' S ∧ Forest F' rt' d' ∧ NamedRoot L rt' ∧ rootsN F' ≤ rootsN F0 ∧ (∀ i j, rt0 i = rt0 j → rt' i = rt' j) ∧
    (pre <+: C → ∀ Bs Q, JC L rt a b Bs Q → (∀ i j, rt' i = rt' j → Cl (pgr L) Bs i j) ∧ ClMod (pgr L) (fun i j => rt' i = rt' j) (PartsQ (pgr L) Q ra rb pre.length))
  far : w.grownBy W (some gl)
  x3 : W.cell? ⟨w.heap.size, 0, none⟩ = some (.pointer (some ⟨tb, 0, none⟩))
  x6 : W.cell? ⟨w.heap.size + 1, 0, none⟩ = some (.bool false)
  f6 : W.frozen? ⟨w.heap.size + 1, 0, none⟩ = false
  o0 : W.cell? ⟨ob, 0, none⟩ = some (.int .i64 (othAt L rb pre.length))
  of : W.frozen? ⟨ob, 0, none⟩ = false
/-- Behind a part that could not be joined. -/
structure JLeft (w : World) (B tb gl cl : Nat) (vn ve vs vm : Value) (L : List Nd) (F0 : List Nat) (S : List Int) (rt rt0 : Nat → Nat) (a b : Nat) (C : List Nat) (c : Code) (pre : List Nat) (W : World) : Prop where
  ret : c = .ret
  st : ∃ F' rt' d', TmIn W B tb vn ve (.slice (some ⟨gl, 0, none⟩) L.length cl) vs vm L F' S ∧ Forest F' rt' d' ∧ NamedRoot L rt' ∧ rootsN F' ≤ rootsN F0 ∧ (∀ i j, rt0 i = rt0 j → rt' i = rt' j)
  no : pre <+: C → ∀ Bs Q, JC L rt a b Bs Q → ¬ NoClash (pgr L) (Cl (pgr L) Bs)
  far : w.grownBy W (some gl)
  x6 : W.cell? ⟨w.heap.size + 1, 0, none⟩ = some (.bool false)
theorem grown_from {w W W' : World} {o row : Option Nat} (h : w.grownBy W o) (hg : W.grownBy W' row) (hr : ∀ r, row = some r → w.heap.size ≤ r) : w.grownBy W' o :=
  ⟨hg.os.trans h.os, hg.tape.trans h.tape, hg.output.trans h.output, Nat.le_trans h.size hg.size, fun k hk ho => by
    rw [hg.block k (Nat.lt_of_lt_of_le hk h.size) (fun e => by have := hr k e.symm; omega), h.block k hk ho]⟩
section
variable {w : World} {B tb gl cl : Nat} {vn ve vs vm : Value} {L : List Nd} {F0 : List Nat} {S : List Int} {rt rt0 : Nat → Nat} {a b ra rb ob N N0 : Nat} {C : List Nat}
theorem JLoop.own (hN : w.heap.size ≤ N) : OwnFrom N (fun (pre : List (PartOf C)) W => JLoop w B tb gl cl vn ve vs vm L F0 S rt rt0 a b ra rb ob N0 C (pre.map fun x => x.1) W) := by
  intro pre W W' row h hg hr
  have hr' : ∀ r, row = some r → ∃ o : Obj, W.heap[r]? = some o ∧ o.isCells = false := fun r e => (hr r e).2
  obtain ⟨F', rt', d', h1, h2⟩ := h.st
  exact ⟨Nat.le_trans h.big hg.size, ⟨F', rt', d', h1.others hg hr', h2⟩, grown_from h.far hg (fun r e => by have := (hr r e).1; omega), cell_kept h.x3 hg hr', cell_kept h.x6 hg hr', (frozen_kept h.x6 hg hr').trans h.f6, cell_kept h.o0 hg hr', (frozen_kept h.o0 hg hr').trans h.of⟩
theorem JLeft.own (hN : w.heap.size ≤ N) (c : Code) : OwnFrom N (fun (pre : List (PartOf C)) W => JLeft w B tb gl cl vn ve vs vm L F0 S rt rt0 a b C c (pre.map fun x => x.1) W) := by
  intro pre W W' row h hg hr
  have hr' : ∀ r, row = some r → ∃ o : Obj, W.heap[r]? = some o ∧ o.isCells = false := fun r e => (hr r e).2
  obtain ⟨F', rt', d', h1, h2⟩ := h.st
  exact ⟨h.ret, ⟨F', rt', d', h1.others hg hr', h2⟩, h.no, grown_from h.far hg (fun r e => by have := (hr r e).1; omega), cell_kept h.x6 hg hr'⟩
end

/-- What the walk wants of a world behind a join of two parts. -/
structure JNext (w W : World) (tb gl ge ce ob : Nat) (L : List Nd) (o : Nat) (ks : List Nat) (B0 : Nat) (W' : World) : Prop where
  x3 : W'.cell? ⟨w.heap.size, 0, none⟩ = some (.pointer (some ⟨tb, 0, none⟩))
  x6 : W'.cell? ⟨w.heap.size + 1, 0, none⟩ = some (.bool false)
  f6 : W'.frozen? ⟨w.heap.size + 1, 0, none⟩ = false
  o0 : W'.cell? ⟨ob, 0, none⟩ = some (.int .i64 o)
  of : W'.frozen? ⟨ob, 0, none⟩ = false
  c1 : W'.cell? ⟨tb, 1, none⟩ = some (.slice (some ⟨ge, 0, none⟩) L.length ce)
  en : W'.cell? ⟨ge, o, none⟩ = some (.int .i64 (o + endGo (L.drop o) 1))
  kp : KpB ks W W'
  kf : KeepsFrom B0 W W'
  far : w.grownBy W' (some gl)
theorem keeps_grown {W W' : World} {g : Nat} (B0 : Nat) (hg : W.grownBy W' (some g)) (hc : ∃ o : Obj, W.heap[g]? = some o ∧ o.isCells = true) : KeepsFrom B0 W W' := by
  obtain ⟨x, h1, h2⟩ := hc
  exact ⟨hg.size, fun k o _ hk ho => (hg.block k (Array.getElem?_eq_some_iff.1 hk).1 (fun e => by simp at e; subst e; rw [h1] at hk; simp at hk; subst hk; rw [h2] at ho; cases ho)).trans hk⟩
theorem keeps_set {W : World} {g : Nat} (B0 : Nat) {u : Value} (hc : W.cell? ⟨g, 0, none⟩ = some u) (v : Value) : KeepsFrom B0 W (W.setCell ⟨g, 0, none⟩ v) := by
  refine keeps_grown B0 (grown_setCell W ⟨g, 0, none⟩ v) ?_
  unfold World.cell? at hc
  simp only at hc
  split at hc
  · rename_i c e f h
    exact ⟨_, h, rfl⟩
  · cases hc
theorem kpB_grown {ks : List Nat} {W W' : World} {g : Nat} (hg : W.grownBy W' (some g)) (hk : ∀ k ∈ ks, k < W.heap.size ∧ k ≠ g) : KpB ks W W' := fun k hm => hg.block k (hk k hm).1 (fun e => (hk k hm).2 (by simpa using e))
theorem JNext.make {w W : World} {B tb gl cl ge ce : Nat} {vn vs vm : Value} {L : List Nd} {F0 : List Nat} {S : List Int} {rt rt0 : Nat → Nat} {a b ra rb ob N0 : Nat} {C pre : List Nat} {F' : List Nat} (h : JLoop w B tb gl cl vn (.slice (some ⟨ge, 0, none⟩) L.length ce) vs vm L F0 S rt rt0 a b ra rb ob N0 C pre W) (hT : TmIn W B tb vn (.slice (some ⟨ge, 0, none⟩) L.length ce) (.slice (some ⟨gl, 0, none⟩) L.length cl) vs vm L F' S)
    {W' : World} (hg : W.grownBy W' (some gl)) (hob : w.heap.size ≤ ob) (hgl : gl < w.heap.size) (ho : othAt L rb pre.length < L.length) {ks : List Nat} (hk : ∀ k ∈ ks, k < W.heap.size ∧ k ≠ gl) (B0 : Nat) : JNext w W tb gl ge ce ob L (othAt L rb pre.length) ks B0 W' := by
  obtain ⟨g, c, e, he⟩ := hT.ends (by omega)
  simp at e
  obtain ⟨rfl, rfl⟩ := e
  have hne : ge ≠ gl := fun e => hT.ab (by simp [Value.ownBlock, e])
  have htg : tb ≠ gl := fun e => own_ne_box hT.rl hT.box (by decide) (by simp [Value.ownBlock, e])
  have fz : ∀ {p : Addr} {v : Value}, W.cell? p = some v → p.block ≠ gl → W'.frozen? p = W.frozen? p := fun hc hn => World.frozen?_of_block (hg.block _ (World.block_lt_of_cell? W _ hc) (fun e => hn (by simpa using e)))
  exact ⟨hg.cell h.x3 (by simp; omega), hg.cell h.x6 (by simp; omega), (fz h.x6 (by simp; omega)).trans h.f6, hg.cell h.o0 (by simp; omega), (fz h.o0 (by simp; omega)).trans h.of, hg.cell hT.c1 (by simpa using htg), hg.cell (he _ ho) (by simpa using hne), kpB_grown hg hk, keeps_grown B0 hg (own_cells hT.rl rfl), h.far.trans hg⟩

theorem prefix_snoc {α : Type} {C : List Nat} {f : α → Nat} {pre : List α} {x : α} (h : (pre ++ [x]).map f <+: C) : pre.map f <+: C ∧ C[pre.length]? = some (f x) := by
  obtain ⟨r, rfl⟩ := h
  refine ⟨⟨[f x] ++ r, by simp⟩, ?_⟩
  rw [List.map_append, List.append_assoc, List.getElem?_append_right (by simp)]
  simp
/-- One part more: what join means there. -/
theorem JSem.part {L : List Nd} {rt rt' rt'' : Nat → Nat} {a b ra rb k p q : Nat} {ok : Bool} {Bs Q : Nat → Nat → Prop} (hc : JC L rt a b Bs Q) (hra : rt a = rt ra) (hrb : rt b = rt rb) (n1 : (pgr L).named ra) (n2 : (pgr L).named rb) (hs : ∀ i j, rt' i = rt' j → Cl (pgr L) Bs i j) (hm : ClMod (pgr L) (fun i j => rt' i = rt' j) (PartsQ (pgr L) Q ra rb k)) (hp : ((pgr L).ch ra)[k]? = some p) (hq : ((pgr L).ch rb)[k]? = some q) (h : JSem L rt' rt'' p q ok) :
    (ok = true → (∀ i j, rt'' i = rt'' j → Cl (pgr L) Bs i j) ∧ ClMod (pgr L) (fun i j => rt'' i = rt'' j) (PartsQ (pgr L) Q ra rb (k + 1))) ∧ (ok = false → ¬ NoClash (pgr L) (Cl (pgr L) Bs)) := by
  have hcl : Cl (pgr L) Bs p q := Cl.down (k := k) ((hc.sound _ _ hra.symm).trans (hc.ab.trans (hc.sound _ _ hrb))) n1 n2 hp hq
  obtain ⟨h1, h2⟩ := h Bs (PartsQ (pgr L) Q ra rb (k + 1)) hs hcl (hm.part hp hq)
  exact ⟨fun e => (h1 e).2, h2⟩

end Go.Proofs.YtjnddclkdofgdaaDoor

namespace Go.Proofs.YtjnddclkdofgdaaDoor
open Go.RowKit Go.Shelf Go.WideMaps
set_option maxRecDepth 100000
attribute [local go_sem] Oper.semAt_some

theorem ret_marks {n : Nat} {fn : Func} {R : Ending → World → Prop} {a : Act} {w : World} {v : Value} (hd : a.defers = []) (hr : (results fn a.tmps).run Tryd.prog w = .ok v w) (h : R (.returned v) w) : bodyPostM Fence.wide n Tryd.prog fn R .ret a w := by
  show LeavesInM Fence.wide n Tryd.prog fn a.tmps R a.defers .returning w
  rw [hd]
  exact ⟨v, hr, h⟩

theorem rootsN_pos {F : List Nat} {rt d : Nat → Nat} (h : Forest F rt d) {p : Nat} (hp : p < F.length) : 0 < rootsN F := by
  unfold rootsN
  rw [List.countP_pos_iff]
  exact ⟨rt p, by simpa using h.rt_lt hp, by simp [h.rootAt hp]⟩
theorem TmIn.node {w : World} {B tb : Nat} {vn ve vl vs vm : Value} {L : List Nd} {F : List Nat} {S : List Int} (h : TmIn w B tb vn ve vl vs vm L F S) {p : Nat} {n : Nd} (hp : L[p]? = some n) : ∃ gn cn, vn = .slice (some ⟨gn, 0, none⟩) L.length cn ∧ w.cell? ⟨gn, p * 2, none⟩ = some (.string n.1) ∧ w.cell? ⟨gn, p * 2 + 1, none⟩ = some (.int .i64 n.2) := by
  obtain ⟨a, c, e, hc⟩ := row_nodes h.rn
  obtain ⟨g, rfl, h1, h2⟩ := hc p n hp
  exact ⟨g, c, e, h1, h2⟩
theorem TmIn.leader {w : World} {B tb : Nat} {vn ve vl vs vm : Value} {L : List Nd} {F : List Nat} {S : List Int} (h : TmIn w B tb vn ve vl vs vm L F S) {p : Nat} (hp : p < L.length) : ∃ gl cl, vl = .slice (some ⟨gl, 0, none⟩) L.length cl ∧ (∃ u, w.cell? ⟨gl, p, none⟩ = some u) ∧ w.frozen? ⟨gl, p, none⟩ = false := by
  obtain ⟨a, c, e, hc⟩ := row_nats h.rl h.lf
  have hlf := h.lf
  obtain ⟨g, rfl, h1⟩ := hc p (by omega)
  subst e
  exact ⟨g, c, rfl, ⟨_, h1⟩, h.rl.frozenAt p⟩

/-- A leader is stored: what stays. -/
theorem join_store {w w1 w2 : World} {tb gl p : Nat} {v u u' vl t : Value} (hb2 : Below w1.heap.size w1 w2) (x3 : w1.cell? ⟨w.heap.size, 0, none⟩ = some t) (x6 : w1.cell? ⟨w.heap.size + 1, 0, none⟩ = some u) (f6 : w1.frozen? ⟨w.heap.size + 1, 0, none⟩ = false) (hu : w1.cell? ⟨gl, p, none⟩ = some u') (hfz : w1.frozen? ⟨gl, p, none⟩ = false) (c2 : w1.cell? ⟨tb, 2, none⟩ = some vl) (hgl : gl < w.heap.size) :
    w2.cell? ⟨tb, 2, none⟩ = some vl ∧ w2.cell? ⟨w.heap.size, 0, none⟩ = some t ∧ (∃ z, w2.cell? ⟨gl, p, none⟩ = some z) ∧ w2.frozen? ⟨gl, p, none⟩ = false ∧ (w2.setCell ⟨gl, p, none⟩ v).cell? ⟨w.heap.size, 0, none⟩ = some t ∧ (w2.setCell ⟨gl, p, none⟩ v).cell? ⟨w.heap.size + 1, 0, none⟩ = some u ∧ (w2.setCell ⟨gl, p, none⟩ v).frozen? ⟨w.heap.size + 1, 0, none⟩ = false := by
  have k3 := Below.at' hb2 (Nat.le_refl _) x3
  have k6 := Below.at' hb2 (Nat.le_refl _) x6
  refine ⟨Below.at' hb2 (Nat.le_refl _) c2, k3, ⟨_, Below.at' hb2 (Nat.le_refl _) hu⟩, (hb2.frozen (p := ⟨gl, p, none⟩) (World.block_lt_of_cell? _ _ hu)).trans hfz, cell_set_other k3 (by omega), cell_set_other k6 (by omega), ?_⟩
  rw [World.frozen?_setCell]
  exact (hb2.frozen (p := ⟨w.heap.size + 1, 0, none⟩) (World.block_lt_of_cell? _ _ x6)).trans f6
theorem TmIn.lts {w : World} {B tb : Nat} {vn ve vl vs vm : Value} {L : List Nd} {F : List Nat} {S : List Int} (h : TmIn w B tb vn ve vl vs vm L F S) {g : Nat} (hg : w.heap.size ≤ g) : some g ≠ some tb ∧ vn.ownBlock ≠ some g ∧ ve.ownBlock ≠ some g ∧ vl.ownBlock ≠ some g ∧ vs.ownBlock ≠ some g := by
  refine ⟨fun e => ?_, fun e => ?_, fun e => ?_, fun e => ?_, fun e => ?_⟩
  · have := (Array.getElem?_eq_some_iff.1 h.box).1
    simp at e
    omega
  · have := (own_lt h.rn g e).2; omega
  · have := (own_lt h.re g e).2; omega
  · have := (own_lt h.rl g e).2; omega
  · have := (own_lt h.rs g e).2; omega
/-- A box of the call's own is written. -/
theorem TmIn.boxed {w w3 : World} {B tb : Nat} {vn ve vl vs vm : Value} {L : List Nd} {F F0 : List Nat} {S S0 : List Int} (h : TmIn w3 B tb vn ve vl vs vm L F S) (h0 : TmIn w B tb vn ve vl vs vm L F0 S0) {g : Nat} (hg : w.heap.size ≤ g) (j : Nat) (u : Value) : TmIn (w3.setCell ⟨g, j, none⟩ u) B tb vn ve vl vs vm L F S := by
  obtain ⟨e0, e1, e2, e3, e4⟩ := h0.lts hg
  exact h.grown (grown_setCell w3 ⟨g, j, none⟩ u) e0 (Or.inr e1) (Or.inr e2) (Or.inr e3) (Or.inr e4)
theorem grown_new {w w2 w3 : World} {o : Option Nat} (hb : Below w.heap.size w w2) (hg : w2.grownBy w3 o) : w.grownBy w3 o := (grown_below hb).trans hg
theorem grown_box {w w3 : World} {o : Option Nat} (hg : w.grownBy w3 o) {g : Nat} (hgw : w.heap.size ≤ g) (j : Nat) (u : Value) : w.grownBy (w3.setCell ⟨g, j, none⟩ u) o := by
  have h := grown_setCell w3 ⟨g, j, none⟩ u
  exact ⟨h.os.trans hg.os, h.tape.trans hg.tape, h.output.trans hg.output, Nat.le_trans hg.size h.size, fun k hk ho => by
    rw [h.block k (Nat.lt_of_lt_of_le hk hg.size) (fun e => by simp at e; omega), hg.block k hk ho]⟩

/-- What the walk wants of a world in which a leader was stored. -/
structure JW (w : World) (B tb : Nat) (gn cn gl cl : Nat) (ve vs vm : Value) (L : List Nd) (F : List Nat) (S : List Int) (ra rb : Nat) (na nb : Nd) (wx : World) : Prop where
  tm : TmIn wx B tb (.slice (some ⟨gn, 0, none⟩) L.length cn) ve (.slice (some ⟨gl, 0, none⟩) L.length cl) vs vm L F S
  far : w.grownBy wx (some gl)
  x3 : wx.cell? ⟨w.heap.size, 0, none⟩ = some (.pointer (some ⟨tb, 0, none⟩))
  x6 : wx.cell? ⟨w.heap.size + 1, 0, none⟩ = some (.bool false)
  f6 : wx.frozen? ⟨w.heap.size + 1, 0, none⟩ = false
  c0 : wx.cell? ⟨tb, 0, none⟩ = some (.slice (some ⟨gn, 0, none⟩) L.length cn)
  y0 : wx.cell? ⟨gn, ra * 2, none⟩ = some (.string na.1)
  y1 : wx.cell? ⟨gn, ra * 2 + 1, none⟩ = some (.int .i64 na.2)
  z0 : wx.cell? ⟨gn, rb * 2, none⟩ = some (.string nb.1)
  z1 : wx.cell? ⟨gn, rb * 2 + 1, none⟩ = some (.int .i64 nb.2)
theorem JW.mk' {w : World} {B tb gn cn gl cl : Nat} {ve vs vm : Value} {L : List Nd} {F : List Nat} {S : List Int} {ra rb : Nat} {na nb : Nd} {wx : World} (h : TmIn wx B tb (.slice (some ⟨gn, 0, none⟩) L.length cn) ve (.slice (some ⟨gl, 0, none⟩) L.length cl) vs vm L F S) (hf : w.grownBy wx (some gl)) (hna : L[ra]? = some na) (hnb : L[rb]? = some nb)
    (x3 : wx.cell? ⟨w.heap.size, 0, none⟩ = some (.pointer (some ⟨tb, 0, none⟩))) (x6 : wx.cell? ⟨w.heap.size + 1, 0, none⟩ = some (.bool false)) (f6 : wx.frozen? ⟨w.heap.size + 1, 0, none⟩ = false) : JW w B tb gn cn gl cl ve vs vm L F S ra rb na nb wx := by
  obtain ⟨g1, c1, e1, y0, y1⟩ := h.node hna
  obtain ⟨g2, c2, e2, z0, z1⟩ := h.node hnb
  simp at e1 e2
  obtain ⟨rfl, rfl⟩ := e1
  obtain ⟨rfl, rfl⟩ := e2
  exact ⟨h, hf, x3, x6, f6, h.c0, y0, y1, z0, z1⟩
theorem JW.below {w : World} {B tb gn cn gl cl : Nat} {ve vs vm : Value} {L : List Nd} {F : List Nat} {S : List Int} {ra rb : Nat} {na nb : Nd} {wx wy : World} (h : JW w B tb gn cn gl cl ve vs vm L F S ra rb na nb wx) (k : Below wx.heap.size wx wy) : JW w B tb gn cn gl cl ve vs vm L F S ra rb na nb wy :=
  ⟨h.tm.below k, h.far.trans (grown_below k), Below.at' k (Nat.le_refl _) h.x3, Below.at' k (Nat.le_refl _) h.x6, (k.frozen (p := ⟨w.heap.size + 1, 0, none⟩) (World.block_lt_of_cell? _ _ h.x6)).trans h.f6, Below.at' k (Nat.le_refl _) h.c0, Below.at' k (Nat.le_refl _) h.y0, Below.at' k (Nat.le_refl _) h.y1, Below.at' k (Nat.le_refl _) h.z0, Below.at' k (Nat.le_refl _) h.z1⟩

set_option maxHeartbeats 2000000 in
theorem uJoin_any (B tb : Nat) (vn ve vl vs vm : Value) (L : List Nd) (S : List Int) (hL : Whole L) : ∀ (m : Nat) (F : List Nat) (rt d : Nat → Nat) (a b : Nat) (w : World), rootsN F ≤ m → TmIn w B tb vn ve vl vs vm L F S → Forest F rt d → NamedRoot L rt → a < L.length → b < L.length →
    Calls Tryd.prog 81 #[.pointer (some ⟨tb, 0, none⟩), .int .i64 a, .int .i64 b] w fun e w' => ∃ ok F' rt' d', e = .returned (.bool ok) ∧ JRes w B tb vn ve vl vs vm L F S rt a b ok w' F' rt' d' := by
  intro m
  induction m with
  | zero =>
    intro F rt d a b w hm h hF _ ha _
    have := rootsN_pos hF (p := a) (by rw [h.lf]; exact ha)
    omega
  | succ m ih =>
    intro F rt d a b w hm h hF hN ha hb
    have hb0 : Below w.heap.size w ((w.alloc (.cells #[.pointer (some ⟨tb, 0, none⟩)] 101)).alloc (.cells #[.bool false] 4)) := ((Below.refl _ _).alloc (Nat.le_refl _) _).alloc (by simp) _
    have CA := hide (fun d' (p : Nat) (hp : p < L.length) => uLeader_any B tb vn ve vl vs vm L F S rt d p (((w.alloc (.cells #[.pointer (some ⟨tb, 0, none⟩)] 101)).alloc (.cells #[.bool false] 4)).drewN d') ((h.below hb0).drewN d') hF hp)
    have HT := hide h
    have HF := hide hF
    have HN := hide hN
    have HM := hide hm
    have HB0 := hide hb0
    have IH := hide ih
    clear h hF hN hm hb0 ih
    refine (callsIn_wide (n := 3)).1 ?_
    refine callsIn_of_wp_marks Tryd.func81 rfl trivial ?_
    simp only [Tryd.ntmps81, List.size_toArray, List.length_cons, List.length_nil, Nat.reduceAdd, Nat.reduceSub, Array.replicate_succ, Array.replicate_zero, List.push_toArray, List.append_toArray, List.nil_append, List.cons_append]
    refine wpIn_wide.2 ?_
    go_wp2
    go_quiet ((go_at_call 100; exact Calls.quiet_of_same (unhide CA _ _ (by assumption))))
    have hb1 : Below w.heap.size w (((w.alloc (.cells #[.pointer (some ⟨tb, 0, none⟩)] 101)).alloc (.cells #[.bool false] 4)).drewN nq) := HB0.out.trans ((below_drawn ⟨nq, rfl⟩).mono HB0.out.size)
    have x3 : (((w.alloc (.cells #[.pointer (some ⟨tb, 0, none⟩)] 101)).alloc (.cells #[.bool false] 4)).drewN nq).cell? ⟨w.heap.size, 0, none⟩ = some (.pointer (some ⟨tb, 0, none⟩)) := by simp
    have x6 : (((w.alloc (.cells #[.pointer (some ⟨tb, 0, none⟩)] 101)).alloc (.cells #[.bool false] 4)).drewN nq).cell? ⟨w.heap.size + 1, 0, none⟩ = some (.bool false) := by simp
    have f6 : (((w.alloc (.cells #[.pointer (some ⟨tb, 0, none⟩)] 101)).alloc (.cells #[.bool false] 4)).drewN nq).frozen? ⟨w.heap.size + 1, 0, none⟩ = false := by simp
    generalize ((w.alloc (.cells #[.pointer (some ⟨tb, 0, none⟩)] 101)).alloc (.cells #[.bool false] 4)).drewN nq = w1 at *
    have HB1 := hide hb1
    clear CA HB0 hb1
    obtain ⟨ra, hra⟩ : ∃ ra, ra = rt a := ⟨_, rfl⟩
    obtain ⟨rb, hrb⟩ : ∃ rb, rb = rt b := ⟨_, rfl⟩
    rw [← hra, ← hrb]
    have HRA := hide hra
    have HRB := hide hrb
    clear hra hrb
    by_cases he : ra = rb
    · have hei : ((ra : Int) == (rb : Int)) = true := by rw [he]; simp
      have HE := hide he
      clear he
      go_wp2
      have hw6 := World.cell?_setCell_same' w1 ⟨w.heap.size + 1, 0, none⟩ (.bool true) (by rw [x6]; rfl)
      refine ret_marks (v := .bool true) rfl (by simp [results, Tryd.results81, go_sem, hw6]) ?_
      have hbf : Below w.heap.size w (w1.setCell ⟨w.heap.size + 1, 0, none⟩ (.bool true)) := HB1.out.setCell (by simp) _
      exact ⟨true, F, rt, d, rfl, ⟨HT.out.below hbf, HF.out, HN.out, Nat.le_refl _, grown_below hbf, fun _ _ e => e, JSem.same (by rw [← HRA.out, ← HRB.out, HE.out])⟩⟩
    · have hei : ((ra : Int) == (rb : Int)) = false := by rw [beq_eq_false_iff_ne]; omega
      have hlf := HT.out.lf
      have hral : ra < L.length := by rw [HRA.out, ← hlf]; exact HF.out.rt_lt (by omega)
      have hrbl : rb < L.length := by rw [HRB.out, ← hlf]; exact HF.out.rt_lt (by omega)
      have hraf : F[ra]? = some ra := by rw [HRA.out]; exact HF.out.rootAt (by omega)
      have hrbf : F[rb]? = some rb := by rw [HRB.out]; exact HF.out.rootAt (by omega)
      obtain ⟨na, hna⟩ : ∃ n, L[ra]? = some n := ⟨L[ra], List.getElem?_eq_getElem hral⟩
      obtain ⟨nb, hnb⟩ : ∃ n, L[rb]? = some n := ⟨L[rb], List.getElem?_eq_getElem hrbl⟩
      have hT1 := HT.out.below HB1.out
      obtain ⟨gn, cn, rfl, y0, y1⟩ := hT1.node hna
      obtain ⟨gn', cn', e', z0, z1⟩ := hT1.node hnb
      simp at e'
      obtain ⟨rfl, rfl⟩ := e'
      have c0 := hT1.c0
      obtain ⟨sa, xa⟩ := na
      obtain ⟨sb, xb⟩ := nb
      simp only at y0 y1 z0 z1
      have hrai : (ra : Int) < (L.length : Int) := by omega
      have hrbi : (rb : Int) < (L.length : Int) := by omega
      have hfew := HT.out.few
      have HRAF := hide hraf
      have HRBF := hide hrbf
      have HNA := hide hna
      have HNB := hide hnb
      have HNE := hide he
      have CV := hide (fun s x wx => isVariable_any s x wx)
      have hw1 := HB1.out.size
      clear hlf hraf hrbf hna hnb hT1 he
      by_cases hva : sa.toList.isEmpty = true
      · have HVA := hide (show varB (sa, xa) = true from hva)
        obtain ⟨gl, cl, rfl, ⟨u, hu⟩, hfz⟩ := (HT.out.below HB1.out).leader hral
        have c2 := (HT.out.below HB1.out).c2
        have CVA := hide (unhide CV sa xa)
        rw [hva] at CVA
        have hglw : gl < w.heap.size := (own_lt HT.out.rl gl rfl).2
        have HST := hide (fun (w2 : World) (hb2 : Below w1.heap.size w1 w2) => join_store (v := .int .i64 (rb : Int)) (u := .bool false) hb2 x3 x6 f6 hu hfz c2 hglw)
        have HFIN := hide (fun (w2 : World) (hb2 : Below w1.heap.size w1 w2) => ((HT.out.below HB1.out).below hb2).lead ra rb)
        clear hfz hu c2
        go_wp2_with (first
          | (go_at_call 47; refine (unhide CVA _).mono ?_; rintro e w2 ⟨rfl, hb2⟩; obtain ⟨k2, kx, ⟨ku, hku⟩, kfz, kS3, kS6, kSf⟩ := HST.out w2 hb2; have HB2 := hide hb2; clear hb2)
          | go_in)
        have hw6 := World.cell?_setCell_same' (w2.setCell ⟨gl, ra, none⟩ (.int .i64 (rb : Int))) ⟨w.heap.size + 1, 0, none⟩ (.bool true) (by rw [kS6]; rfl)
        refine ret_marks (v := .bool true) rfl (by simp [results, Tryd.results81, go_sem, hw6]) ?_
        obtain ⟨ht2, hg2⟩ := HFIN.out w2 HB2.out
        have ht3 := ht2.boxed HT.out (g := w.heap.size + 1) (by omega) 0 (.bool true)
        have hg3 := grown_box (grown_new (HB1.out.trans (HB2.out.mono hw1)) hg2) (g := w.heap.size + 1) (by omega) 0 (.bool true)
        refine ⟨true, F.set ra rb, rtJ rt ra rb, dJ rt d ra rb, rfl, ⟨ht3, HF.out.join HRAF.out HRBF.out HNE.out, HN.out.join (fun hn => ?_), Nat.le_of_lt (rootsN_join HRAF.out HNE.out), hg3, rtJ_mono rt ra rb, JSem.var (merged_rt HRA.out HRB.out) (Or.inl (HN.out.var ?_))⟩⟩
        · rw [pgr_isNamed HNA.out, HVA.out] at hn; cases hn
        · rw [← HRA.out, pgr_isNamed HNA.out, HVA.out]; simp
      · have HVA := hide (show varB (sa, xa) = false by simpa [varB] using hva)
        have hva' : sa.toList.isEmpty = false := by simpa using hva
        obtain ⟨gl, cl, rfl, ⟨u, hu⟩, hfz⟩ := (HT.out.below HB1.out).leader hrbl
        have c2 := (HT.out.below HB1.out).c2
        have CVA := hide (unhide CV sa xa)
        rw [hva'] at CVA
        have hglw : gl < w.heap.size := (own_lt HT.out.rl gl rfl).2
        have HST := hide (fun (w2 : World) (hb2 : Below w1.heap.size w1 w2) => join_store (v := .int .i64 (ra : Int)) (u := .bool false) hb2 x3 x6 f6 hu hfz c2 hglw)
        have HJW := hide (fun (w2 : World) (hb2 : Below w1.heap.size w1 w2) => (show JW w B tb gn cn gl cl ve vs vm L (F.set rb ra) S ra rb (sa, xa) (sb, xb) (w2.setCell ⟨gl, rb, none⟩ (.int .i64 (ra : Int))) from by
          obtain ⟨_, _, _, _, k3, k6, kf⟩ := HST.out w2 hb2
          obtain ⟨ht, hg⟩ := ((HT.out.below HB1.out).below hb2).lead rb ra
          exact JW.mk' ht (grown_new (HB1.out.trans (hb2.mono hw1)) hg) HNA.out HNB.out k3 k6 kf))
        have HFJ := hide (HF.out.join HRBF.out HRAF.out (fun e => HNE.out e.symm))
        have HRN := hide (rootsN_join HRBF.out (fun e => HNE.out e.symm))
        have HNJ := hide (HN.out.join (u := rb) (v := ra) (fun _ => by rw [pgr_isNamed HNA.out]; exact HVA.out))
        clear hfz hu c2
        by_cases hvb : sb.toList.isEmpty = true
        · have HVB := hide (show varB (sb, xb) = true from hvb)
          have CVB := hide (unhide CV sb xb)
          rw [hvb] at CVB
          go_wp2_with (first
            | (go_at_call 47; refine (unhide CVA _).mono ?_; clear CVA; rintro e w2 ⟨rfl, hb2⟩; obtain ⟨k2, kx, ⟨ku, hku⟩, kfz, _⟩ := HST.out w2 hb2; have hJ := HJW.out w2 hb2; have j1 := hJ.x3; have j2 := hJ.c0; have j3 := hJ.z0; have j4 := hJ.z1; have HJ := hide hJ; clear hJ hb2)
            | (go_at_call 47; refine (unhide CVB _).mono ?_; clear CVB; rintro e w3 ⟨rfl, hb3⟩; have hJ3 := HJ.out.below hb3; have m1 := hJ3.x6; have m2 := hJ3.f6; have HJ3 := hide hJ3; clear hJ3 hb3)
            | go_in)
          have hw6 := World.cell?_setCell_same' w3 ⟨w.heap.size + 1, 0, none⟩ (.bool true) (by rw [m1]; rfl)
          refine ret_marks (v := .bool true) rfl (by simp [results, Tryd.results81, go_sem, hw6]) ?_
          have ht3 := HJ3.out.tm.boxed HT.out (g := w.heap.size + 1) (by omega) 0 (.bool true)
          have hg3 := grown_box HJ3.out.far (g := w.heap.size + 1) (by omega) 0 (.bool true)
          refine ⟨true, F.set rb ra, rtJ rt rb ra, dJ rt d rb ra, rfl, ⟨ht3, HFJ.out, HNJ.out, Nat.le_of_lt HRN.out, hg3, rtJ_mono rt rb ra, JSem.var (merged_rt' HRB.out HRA.out) (Or.inr (HN.out.var ?_))⟩⟩
          rw [← HRB.out, pgr_isNamed HNB.out, HVB.out]; simp
        · have HVB := hide (show varB (sb, xb) = false by simpa [varB] using hvb)
          have hvb' : sb.toList.isEmpty = false := by simpa using hvb
          have CVB := hide (unhide CV sb xb)
          rw [hvb'] at CVB
          have hqn := eqNode sa sb xa xb
          have hqg := guard27
          have hnbq := nodeB_eq (sa, xa) (sb, xb)
          simp only at hnbq
          by_cases hll : (sa, xa) = (sb, xb)
          · rw [decide_eq_true hll] at hnbq
            have HLL := hide hll
            clear hll
            go_wp2_with (first
              | (go_at_call 47; refine (unhide CVA _).mono ?_; clear CVA; rintro e w2 ⟨rfl, hb2⟩; obtain ⟨k2, kx, ⟨ku, hku⟩, kfz, _⟩ := HST.out w2 hb2; have hJ := HJW.out w2 hb2; have j1 := hJ.x3; have j2 := hJ.c0; have j3 := hJ.z0; have j4 := hJ.z1; have HJ := hide hJ; clear hJ hb2)
              | (go_at_call 47; refine (unhide CVB _).mono ?_; clear CVB; rintro e w3 ⟨rfl, hb3⟩; have hJ3 := HJ.out.below hb3; have m1 := hJ3.x6; have m2 := hJ3.f6; have m3 := hJ3.x3; have m4 := hJ3.c0; have m5 := hJ3.y0; have m6 := hJ3.y1; have m7 := hJ3.z0; have m8 := hJ3.z1; have HJ3 := hide hJ3; clear hJ3 hb3)
              | go_in)
            go_quiet (fail)
            have hJ4 := HJ3.out.below (below_drawn (w1 := w3.drewN nq) ⟨_, rfl⟩)
            generalize w3.drewN nq = w4 at *
            have n3 := hJ4.x3
            have n6 := World.block_lt_of_cell? _ _ hJ4.x6
            simp only at n6
            have nA := fun X => Below.at' ((Below.refl w4.heap.size w4).alloc (Nat.le_refl _) X) (Nat.le_refl _) n3
            have HJ4 := hide hJ4
            have CP := hide (fun wx => uParts_any tb ra wx)
            clear hJ4 m1 m2 m3 m4 m5 m6 m7 m8 HJ3 hqn hqg hnbq
            go_wp2_with (first
              | (go_at_call 101; refine (unhide CP _).mono ?_; rintro e w5 ⟨rfl, rfl⟩)
              | go_in)
            clear nA CP n3
            obtain ⟨C, hC⟩ : ∃ C, (pgr L).ch ra = C := ⟨_, rfl⟩
            obtain ⟨ge, ce, rfl, _⟩ := HT.out.ends (by omega)
            obtain ⟨w6, hw6, hal, o0, of0, ot0, oa0, os0⟩ := box3_new w4 (.int .i64 ((rb : Int) + 1)) (.pointer (some ⟨tb, 0, none⟩)) (.int .i64 ra) 3 101 3
            rw [← hw6]
            clear hw6
            have hJ6 := HJ4.out.below hal
            have hIt : ItIn w6 (w4.heap.size + 1 + 1) (w4.heap.size + 1) tb ge L ra := ItIn.of hJ6.tm (by omega) oa0 ot0
            have htb6 := (Array.getElem?_eq_some_iff.1 hJ6.tm.box).1
            have hge6 := (own_lt hJ6.tm.re ge rfl).2
            have hks : ∀ k ∈ [w4.heap.size + 1 + 1, w4.heap.size + 1, tb, ge], k < w6.heap.size := by
              intro k hk
              simp at hk
              rcases hk with rfl | rfl | rfl | rfl <;> omega
            refine (wpIn_wide (n := 3)).1 ?_
            refine wpIn_rangeFunc_ownG rfl (by omega) (gf := 121) (lb := #[.pointer (some ⟨w4.heap.size + 1 + 1, 0, none⟩), .pointer (some ⟨w4.heap.size + 1, 0, none⟩)]) rfl trivial (enters_of Tryd.func121 (by kernel_rfl) rfl)
              (encs := fun x : PartOf C => #[.int .i64 (x.1 : Nat)]) (Kp := KpB [w4.heap.size + 1 + 1, w4.heap.size + 1, tb, ge]) (S := fun xs => xs.map (fun x => x.1) = C) (Sp := fun pre => pre.map (fun x => x.1) <+: C) (N := C.length) (w0 := w6)
              (fun l J Jx W hW hJ hJx hY h0 => by
                have := uParts1_in 2 l (w4.heap.size + 1 + 1) (w4.heap.size + 1) tb ge L ra (sa, xa) C hC (by omega) hL hfew HNA.out J Jx _ hJ hY W (hIt.kept (kpB_below hW hks)) h0
                simpa using this)
              (fun h k => h.trans k) (KpB.put hks) (Below.refl _ _) (fun _ => rfl)
              (fun pre W => JLoop w B tb gl cl (.slice (some ⟨gn, 0, none⟩) L.length cn) (.slice (some ⟨ge, 0, none⟩) L.length ce) vs vm L (F.set rb ra) S rt (rtJ rt rb ra) a b ra rb w4.heap.size w6.heap.size C (pre.map fun x => x.1) W)
              (fun c pre W => JLeft w B tb gl cl (.slice (some ⟨gn, 0, none⟩) L.length cn) (.slice (some ⟨ge, 0, none⟩) L.length ce) vs vm L (F.set rb ra) S rt (rtJ rt rb ra) a b C c (pre.map fun x => x.1) W)
              (JLoop.own (by omega)) (fun c => JLeft.own (by omega) c) ?h0 ?a1 ?assign ?body ?done ?stop
            case h0 =>
              have hm := merged_rt' (a := a) (b := b) HRB.out HRA.out
              refine ⟨Nat.le_refl _, ⟨F.set rb ra, rtJ rt rb ra, dJ rt d rb ra, hJ6.tm, HFJ.out, HNJ.out, Nat.le_refl _, fun _ _ e => e, fun _ Bs Q hc => ⟨hm.sound hc.sound (fun _ _ => Cl.symm) (fun _ _ _ => Cl.trans) hc.ab, ?_⟩⟩, hJ6.far, hJ6.x3, hJ6.x6, hJ6.f6, ?_, of0⟩
              · refine hc.mod.name (isEq_rt rt) hm (pgr_arity L) ?_ ?_ ?_ ?_ ?_
                · show rt a = rt ra
                  rw [HRA.out, HF.out.rt_rt]
                · show rt b = rt rb
                  rw [HRB.out, HF.out.rt_rt]
                · rw [pgr_isNamed HNA.out]; exact HVA.out
                · rw [pgr_isNamed HNB.out]; exact HVB.out
                · rw [pgr_lab HNA.out, pgr_lab HNB.out]; exact HLL.out
              · rw [o0]; simp [othAt]
            case assign =>
              intro l x W K hK
              gi_wp2
              exact hK
            case body =>
              rintro l pre x W hI hlen
              obtain ⟨F', rt', d', hT', hF', hN', hR', hmono, hsem⟩ := hI.st
              have hxp : x.1 < L.length := ch_lt hL HNA.out x.1 (by rw [hC]; exact x.2)
              have hCl : C.length = wants (sa, xa) := by rw [← hC]; exact ch_len HNA.out
              have hwb : wants (sb, xb) = wants (sa, xa) := by rw [HLL.out]
              have hpl : (pre.map fun x => x.1).length = pre.length := by simp
              have hol := oth_lt hL HNB.out (k := pre.length) (by omega)
              have CJ := IH.out F' rt' d' x.1 (othAt L rb pre.length) W (by have := HRN.out; have := HM.out; omega) hT' hF' hN' hxp hol.1
              have x3' := hI.x3
              have o0' := hI.o0
              rw [hpl] at o0'
              have hWs := hI.far.size
              have htbW := (Array.getElem?_eq_some_iff.1 hT'.box).1
              have hgeW := (own_lt hT'.re ge rfl).2
              have hW4 : w4.heap.size + 1 + 1 < W.heap.size := by have := hI.big; omega
              have hkk : ∀ k ∈ [w4.heap.size + 1 + 1, w4.heap.size + 1, tb, ge], k < W.heap.size ∧ k ≠ gl := by
                intro k hk
                simp at hk
                have h1 : tb ≠ gl := fun e => own_ne_box hT'.rl hT'.box (by decide) (by simp [Value.ownBlock, e])
                have h2 : ge ≠ gl := fun e => hT'.ab (by simp [Value.ownBlock, e])
                rcases hk with rfl | rfl | rfl | rfl
                · exact ⟨by omega, by omega⟩
                · exact ⟨by omega, by omega⟩
                · exact ⟨htbW, h1⟩
                · exact ⟨hgeW, h2⟩
              have HNX := hide (fun (W' : World) (hg : W.grownBy W' (some gl)) => (show JNext w W tb gl ge ce w4.heap.size L (othAt L rb pre.length) [w4.heap.size + 1 + 1, w4.heap.size + 1, tb, ge] w6.heap.size W' from by have := JNext.make hI hT' hg (by omega) hglw (by rw [hpl]; exact hol.1) hkk w6.heap.size; rw [hpl] at this; exact this))
              have HPX := hide hpl
              have HKK := hide (fun k hk => (hkk k hk).1)
              have HI := hide hI
              have HSEM := hide hsem
              have HMONO := hide hmono
              have HRR := hide hR'
              have HOL := hide hol
              have hO : othAt L rb pre.length < L.length := hol.1
              have HCJ := hide CJ
              generalize hoe : othAt L rb pre.length = oe at *
              have HOE := hide hoe
              clear hI hsem hmono hR' hol CJ hT' hF' hN' hkk hpl hoe
              gi_wp2_with (first
                | (refine ⟨trivial, ?_⟩; gi_at_call 81; refine (CallsIn.inRound l (callsIn_wide.2 (unhide HCJ))).mono ?_; rintro e W' ⟨ok, F'', rt'', d'', rfl, hres⟩; have hnx := HNX.out W' hres.far; have HRES := hide hres; have q1 := hnx.x3; have q2 := hnx.x6; have q3 := hnx.f6; have q4 := hnx.o0; have q5 := hnx.of; have q6 := hnx.c1; have q7 := hnx.en; have HNX2 := hide hnx; clear hnx hres)
                | fail)
              · have hok : ok = false := by simpa using ‹(!ok) = true›
                refine ⟨HNX2.out.kf.trans (keeps_set _ q2 _), ⟨rfl, ⟨F'', rt'', d'', HRES.out.tm.boxed HT.out (by omega) 0 _, HRES.out.forest, HRES.out.named, Nat.le_trans HRES.out.fewer HRR.out, fun i j e => HRES.out.mono _ _ (HMONO.out i j e)⟩, fun hp Bs Q hc => ?_, grown_box HNX2.out.far (by omega) 0 _, World.cell?_setCell_same' _ _ _ (by rw [q2]; rfl)⟩⟩
                obtain ⟨hp1, hp2⟩ := prefix_snoc hp
                obtain ⟨hs1, hm1⟩ := HSEM.out hp1 Bs Q hc
                rw [HPX.out] at hm1
                refine (JSem.part hc (by rw [HRA.out, HF.out.rt_rt]) (by rw [HRB.out, HF.out.rt_rt]) (by rw [pgr_isNamed HNA.out]; exact HVA.out) (by rw [pgr_isNamed HNB.out]; exact HVB.out) hs1 hm1 (by rw [hC]; exact hp2) ?_ HRES.out.sem).2 hok
                rw [ch_at HNB.out (by omega), HOE.out]
              · have hok : ok = true := by simpa using ‹(!ok) = false›
                have hmix : Tryd.prog.follows .mixedOrders = true := by kernel_rfl
                have hOi : (oe : Int) < (L.length : Int) := by omega
                have hOz : (0 : Int) ≤ (oe : Int) := Int.natCast_nonneg _
                have hOn : ((oe : Int)).toNat = oe := Int.toNat_natCast _
                gi_region_with_o (fail)
                all_goals
                  gi_wp2
                  have hbd : Below (W'.setCell ⟨w4.heap.size, 0, none⟩ (.int .i64 ((oe : Int) + (endGo (L.drop oe) 1 : Nat)))).heap.size (W'.setCell ⟨w4.heap.size, 0, none⟩ (.int .i64 ((oe : Int) + (endGo (L.drop oe) 1 : Nat)))) (W'.setCell ⟨w4.heap.size, 0, none⟩ (.int .i64 ((oe : Int) + (endGo (L.drop oe) 1 : Nat)))).drew := below_drawn ⟨1, rfl⟩
                  have hkn : ∀ k ∈ [w4.heap.size + 1 + 1, w4.heap.size + 1, tb, ge], k ≠ w4.heap.size := by
                    have h1 := (Array.getElem?_eq_some_iff.1 HT.out.box).1
                    have h2 := (own_lt HT.out.re ge rfl).2
                    intro k hk
                    simp at hk
                    rcases hk with rfl | rfl | rfl | rfl <;> omega
                  refine ⟨HNX2.out.kf.trans ((keeps_set _ q4 _).trans ⟨hbd.size, fun k o _ hk _ => (hbd.block k (Array.getElem?_eq_some_iff.1 hk).1).trans hk⟩), HNX2.out.kp.trans (fun k hk => (grown_setCell W' ⟨w4.heap.size, 0, none⟩ _).block k ?_ (by simpa using hkn k hk)), ⟨?_, ⟨F'', rt'', d'', (HRES.out.tm.boxed HT.out (g := w4.heap.size) (by omega) 0 _).below hbd, HRES.out.forest, HRES.out.named, Nat.le_trans HRES.out.fewer HRR.out, fun i j e => HRES.out.mono _ _ (HMONO.out i j e), fun hp Bs Q hc => ?_⟩, (grown_box HNX2.out.far (by omega) 0 _).trans (grown_below hbd), cell_set_other q1 (by omega), cell_set_other q2 (by omega), ?_, ?_, ?_⟩⟩
                  · exact Nat.lt_of_lt_of_le (HKK.out k hk) HRES.out.far.size
                  · have h1 := HI.out.big
                    have h2 := HRES.out.far.size
                    have h3 := (grown_setCell W' ⟨w4.heap.size, 0, none⟩ (.int .i64 ((oe : Int) + (endGo (L.drop oe) 1 : Nat)))).size
                    exact Nat.le_trans h1 (Nat.le_trans h2 h3)
                  · obtain ⟨hp1, hp2⟩ := prefix_snoc hp
                    obtain ⟨hs1, hm1⟩ := HSEM.out hp1 Bs Q hc
                    rw [HPX.out] at hm1
                    have := (JSem.part hc (by rw [HRA.out, HF.out.rt_rt]) (by rw [HRB.out, HF.out.rt_rt]) (by rw [pgr_isNamed HNA.out]; exact HVA.out) (by rw [pgr_isNamed HNB.out]; exact HVB.out) hs1 hm1 (by rw [hC]; exact hp2) (by rw [ch_at HNB.out (by omega), HOE.out]) HRES.out.sem).1 hok
                    simpa using this
                  · show (W'.setCell _ _).frozen? _ = false
                    rw [World.frozen?_setCell]; exact q3
                  · show (W'.setCell _ _).cell? _ = _
                    rw [World.cell?_setCell_same' W' ⟨w4.heap.size, 0, none⟩ _ (by rw [q4]; rfl)]
                    have := HOL.out.2
                    simp only [List.length_map, List.length_append, List.length_cons, List.length_nil]
                    rw [show pre.length + (0 + 1) = pre.length + 1 by omega, this]
                    simp
                  · show (W'.setCell _ _).frozen? _ = false
                    rw [World.frozen?_setCell]; exact q5
            case done =>
              rintro D ys W hD hS hI hK
              obtain ⟨F', rt', d', hT', hF', hN', hR', hmono, hsem⟩ := hI.st
              have x6' := hI.x6
              have f6' := hI.f6
              go_wp2
              have hK' := (KeepsOthers.setCell W ⟨w.heap.size + 1, 0, none⟩ (.bool true)).same D _ hK rfl
              refine ⟨by simp, .inl ⟨_, _, rfl, run_takeDeferred hK', ?_⟩⟩
              have hc5 := cell_kept (World.cell?_setCell_same' W ⟨w.heap.size + 1, 0, none⟩ (.bool true) (by rw [x6']; rfl)) (grownBy_putObj' _ D (.deferred none)) (fun r e => by cases e; exact ⟨_, hK', rfl⟩)
              refine ⟨.bool true, ?_, ?_⟩
              · simp [results, Tryd.results81, go_sem, hc5]
              · refine ⟨true, F', rt', d', rfl, ⟨(hT'.boxed HT.out (g := w.heap.size + 1) (by omega) 0 (.bool true)).others (grownBy_putObj' _ D (.deferred none)) (fun r e => by cases e; exact ⟨_, hK', rfl⟩), hF', hN', Nat.le_trans hR' (Nat.le_of_lt HRN.out), grown_from (grown_box hI.far (g := w.heap.size + 1) (by omega) 0 (.bool true)) (grownBy_putObj' _ D (.deferred none)) (fun r e => by cases e; omega), fun i j e => hmono _ _ (rtJ_mono rt rb ra i j e), fun Bs Q hs hab hc => ⟨fun _ => ?_, fun e => by cases e⟩⟩⟩
                obtain ⟨h1, h2⟩ := hsem (by rw [hS]; exact List.prefix_refl _) Bs Q ⟨hs, hab, hc⟩
                exact ⟨hmono a b ((merged_rt' (a := a) (b := b) HRB.out HRA.out).ab (isEq_rt rt)), h1, h2.allParts (by rw [hC]; have := congrArg List.length hS; omega)⟩
            case stop =>
              rintro D c pre W hD hS hI hK
              have hcr := hI.ret
              subst hcr
              refine wpIn_wide.2 ?_
              go_wp2
              refine ⟨by simp, .inl ⟨_, _, rfl, run_takeDeferred hK, ?_⟩⟩
              have hc5 := cell_kept hI.x6 (grownBy_putObj' _ D (.deferred none)) (fun r e => by cases e; exact ⟨_, hK, rfl⟩)
              refine ⟨.bool false, ?_, ?_⟩
              · simp [results, Tryd.results81, go_sem, hc5]
              · obtain ⟨F', rt', d', hT', hF', hN', hR', hmono⟩ := hI.st
                exact ⟨false, F', rt', d', rfl, ⟨hT'.others (grownBy_putObj' _ D (.deferred none)) (fun r e => by cases e; exact ⟨_, hK, rfl⟩), hF', hN', Nat.le_trans hR' (Nat.le_of_lt HRN.out), grown_from hI.far (grownBy_putObj' _ D (.deferred none)) (fun r e => by cases e; omega), fun i j e => hmono _ _ (rtJ_mono rt rb ra i j e), fun Bs Q hs hab hc => ⟨fun e => (by cases e), fun _ => hI.no hS Bs Q ⟨hs, hab, hc⟩⟩⟩⟩
          · rw [decide_eq_false hll] at hnbq
            have HLL := hide hll
            clear hll
            go_wp2_with (first
              | (go_at_call 47; refine (unhide CVA _).mono ?_; clear CVA; rintro e w2 ⟨rfl, hb2⟩; obtain ⟨k2, kx, ⟨ku, hku⟩, kfz, _⟩ := HST.out w2 hb2; have hJ := HJW.out w2 hb2; have j1 := hJ.x3; have j2 := hJ.c0; have j3 := hJ.z0; have j4 := hJ.z1; have HJ := hide hJ; clear hJ hb2)
              | (go_at_call 47; refine (unhide CVB _).mono ?_; clear CVB; rintro e w3 ⟨rfl, hb3⟩; have hJ3 := HJ.out.below hb3; have m1 := hJ3.x6; have m2 := hJ3.f6; have m3 := hJ3.x3; have m4 := hJ3.c0; have m5 := hJ3.y0; have m6 := hJ3.y1; have m7 := hJ3.z0; have m8 := hJ3.z1; have HJ3 := hide hJ3; clear hJ3 hb3)
              | go_in)
            go_quiet (fail)
            go_wp2
            have hw6 := World.cell?_setCell_same' (w3.drewN nq) ⟨w.heap.size + 1, 0, none⟩ (.bool false) (by simp [m1])
            refine ret_marks (v := .bool false) rfl (by simp [results, Tryd.results81, go_sem, hw6]) ?_
            have hJ4 := HJ3.out.below (below_drawn (w1 := w3.drewN nq) ⟨_, rfl⟩)
            have ht3 := hJ4.tm.boxed HT.out (g := w.heap.size + 1) (by omega) 0 (.bool false)
            have hg3 := grown_box hJ4.far (g := w.heap.size + 1) (by omega) 0 (.bool false)
            refine ⟨false, F.set rb ra, rtJ rt rb ra, dJ rt d rb ra, rfl, ⟨ht3, HFJ.out, HNJ.out, Nat.le_of_lt HRN.out, hg3, rtJ_mono rt rb ra, JSem.clash HF.out.rt_rt ?_ ?_ ?_⟩⟩
            · rw [← HRA.out, pgr_isNamed HNA.out]; exact HVA.out
            · rw [← HRB.out, pgr_isNamed HNB.out]; exact HVB.out
            · rw [← HRA.out, ← HRB.out, pgr_lab HNA.out, pgr_lab HNB.out]; exact HLL.out

end Go.Proofs.YtjnddclkdofgdaaDoor
