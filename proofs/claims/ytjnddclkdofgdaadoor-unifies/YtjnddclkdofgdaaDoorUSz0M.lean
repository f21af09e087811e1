/- The program: how great what a place was made is: pure words, and what holds on the way. The program: how great what a place was made is. -/
import Derived.Test.YtjnddclkdofgdaaDoorUJnLM
namespace Go.Proofs.YtjnddclkdofgdaaDoor
open Go.RowKit Go.Shelf Go.WideMaps
set_option maxRecDepth 100000

/-- One place is a part of another, at some depth. -/
inductive Rch (G : Gr) (E : Nat → Nat → Prop) : Nat → Nat → Prop
  | step {x j p y : Nat} : E x j → G.named j → p ∈ G.ch j → E p y → Rch G E x y
  | trans {x y z : Nat} : Rch G E x y → Rch G E y z → Rch G E x z
section
variable {G : Gr} {E : Nat → Nat → Prop}
theorem Rch.left (hE : Down G E) {x x' y : Nat} (h : Rch G E x y) (e : E x' x) : Rch G E x' y := by
  induction h generalizing x' with
  | step a b c d => exact Rch.step (hE.trans _ _ _ e a) b c d
  | trans _ h2 ih _ => exact Rch.trans (ih e) h2
theorem Rch.right (hE : Down G E) {x y y' : Nat} (h : Rch G E x y) (e : E y y') : Rch G E x y' := by
  induction h generalizing y' with
  | step a b c d => exact Rch.step a b c (hE.trans _ _ _ d e)
  | trans h1 _ _ ih => exact Rch.trans h1 (ih e)
/-- The first step of a way. -/
theorem Rch.first (hE : Down G E) {x y : Nat} (h : Rch G E x y) : ∃ j p, E x j ∧ G.named j ∧ p ∈ G.ch j ∧ (E p y ∨ Rch G E p y) := by
  induction h with
  | step a b c d => exact ⟨_, _, a, b, c, Or.inl d⟩
  | @trans x y z h1 h2 ih _ =>
    obtain ⟨j, p, a, b, c, d⟩ := ih
    refine ⟨j, p, a, b, c, Or.inr ?_⟩
    rcases d with d | d
    · exact h2.left hE d
    · exact Rch.trans d h2
theorem Ends.irrefl (hE : Down G E) {x : Nat} (h : Ends G E x) : ¬ Rch G E x x := by
  induction h with
  | mk x _ ih =>
    intro hr
    obtain ⟨j, p, a, b, c, d⟩ := hr.first hE
    refine ih j a b p c ?_
    rcases d with d | d
    · exact (hr.left hE d).right hE (hE.symm _ _ d)
    · exact Rch.trans d (Rch.step a b c (hE.refl p))
theorem clo_down (h : ClMod G E fun _ _ => False) (hE : IsEq E) : Down G E ∧ NoClash G E :=
  ⟨⟨hE.refl, hE.symm, hE.trans, fun i j k p q hij hi hj hp hq => ((h i j hij hi hj).2 k p q hp hq).le hE.refl hE.symm hE.trans fun i j hij => by
    rcases hij with hij | hij
    · exact hij
    · exact hij.elim⟩, fun i j hij hi hj => (h i j hij hi hj).1⟩
theorem ends_root (hE : Down G E) (hN : NoClash G E) (hA : G.Arity) {x r : Nat} (hxr : E x r) (hr : ∀ p ∈ G.ch r, Ends G E p) (hnr : ∀ j, E x j → G.named j → G.named r) : Ends G E x := by
  refine ⟨_, fun j hj hn p hp => ?_⟩
  have hn' := hnr j hj hn
  have ha := ch_same hE hN hA (hE.trans _ _ _ (hE.symm _ _ hxr) hj) hn' hn
  obtain ⟨q, hq, hqp⟩ := ha.mem_right hp
  exact (hr q hq).same hE hqp
theorem exp_all {rep : Nat → Nat} {xs : List Nat} {ls : List (List Nd)} (h : All2 (fun x l => Exp G E rep [x] l) xs ls) : Exp G E rep xs ls.flatten := by
  induction h with
  | nil => exact Exp.nil
  | cons h1 _ ih => exact h1.append ih
end

/-- What the sizes say. -/
def SzOk (L : List Nd) (rt : Nat → Nat) (S : List Int) : Prop := ∀ (p : Nat) (n : Int), S[p]? = some n → n = 0 ∨ n = -1 ∨ (Ends (pgr L) (fun i j => rt i = rt j) p ∧ ∃ l, Exp (pgr L) (fun i j => rt i = rt j) rt [p] l ∧ n = (min 501 l.length : Nat))
def zerosN (S : List Int) : Nat := S.countP fun x => x == 0
theorem zerosN_set (S : List Int) : ∀ (p : Nat) (v : Int), S[p]? = some 0 → v ≠ 0 → zerosN (S.set p v) < zerosN S := by
  induction S with
  | nil => intro p v h; simp at h
  | cons x r ih =>
    intro p v h hv
    unfold zerosN at ih ⊢
    cases p with
    | zero =>
      simp at h
      subst h
      simp [hv]
    | succ p =>
      have := ih p v (by simpa using h) hv
      rw [List.set_cons_succ, List.countP_cons, List.countP_cons]
      omega
theorem zerosN_le (S : List Int) : ∀ (p : Nat) (v : Int), v ≠ 0 → zerosN (S.set p v) ≤ zerosN S := by
  induction S with
  | nil => intro p v _; simp [zerosN]
  | cons x r ih =>
    intro p v hv
    unfold zerosN at ih ⊢
    cases p with
    | zero =>
      rw [List.set_cons_zero, List.countP_cons, List.countP_cons]
      simp [hv]
    | succ p =>
      have := ih p v hv
      rw [List.set_cons_succ, List.countP_cons, List.countP_cons]
      omega
/-- A size is written. -/
theorem TmIn.sized {w : World} {B tb : Nat} {vn ve vl vm : Value} {L : List Nd} {F : List Nat} {S : List Int} {gs cs : Nat} (h : TmIn w B tb vn ve vl (.slice (some ⟨gs, 0, none⟩) L.length cs) vm L F S) (p : Nat) (x : Int) : TmIn (w.setCell ⟨gs, p, none⟩ (.int .i64 x)) B tb vn ve vl (.slice (some ⟨gs, 0, none⟩) L.length cs) vm L F (S.set p x) ∧ w.grownBy (w.setCell ⟨gs, p, none⟩ (.int .i64 x)) (some gs) := by
  have hg := grown_setCell w ⟨gs, p, none⟩ (.int .i64 x)
  refine ⟨⟨?_, h.high, own_grown h.rn hg (own_apart h.rn h.rs (by decide)), own_grown h.re hg (Or.inr h.ac), own_grown h.rl hg (Or.inr h.bc), ?_, h.lf, by rw [List.length_set]; exact h.ls, h.few, h.short, h.ab, h.ac, h.bc⟩, hg⟩
  · rw [hg.block tb (Array.getElem?_eq_some_iff.1 h.box).1 (fun e => own_ne_box h.rs h.box (by decide) e.symm), h.box]
  · have r := (h.rs.stored p (.int .i64 x)).1
    rw [← List.map_set] at r
    exact r
theorem TmIn.size {w : World} {B tb : Nat} {vn ve vl vs vm : Value} {L : List Nd} {F : List Nat} {S : List Int} (h : TmIn w B tb vn ve vl vs vm L F S) {p : Nat} (hp : p < L.length) : ∃ gs cs n, vs = .slice (some ⟨gs, 0, none⟩) L.length cs ∧ S[p]? = some n ∧ w.cell? ⟨gs, p, none⟩ = some (.int .i64 n) ∧ w.frozen? ⟨gs, p, none⟩ = false := by
  obtain ⟨a, c, e, hc⟩ := row_ints h.rs h.ls
  have hls := h.ls
  have hp' : p < S.length := by omega
  obtain ⟨g, rfl, h1⟩ := hc p hp'
  subst e
  exact ⟨g, c, S[p], rfl, List.getElem?_eq_getElem hp', h1, h.rs.frozenAt p⟩

/-- Three new boxes, all to be written. -/
theorem box3_all (w : World) (x y z : Value) (t1 t2 t3 : TypeId) : ∃ W, W = ((w.alloc (.cells #[x] t1)).alloc (.cells #[y] t2)).alloc (.cells #[z] t3) ∧ Below w.heap.size w W ∧ W.cell? ⟨w.heap.size, 0, none⟩ = some x ∧ W.cell? ⟨w.heap.size + 1, 0, none⟩ = some y ∧ W.cell? ⟨w.heap.size + 1 + 1, 0, none⟩ = some z ∧ W.frozen? ⟨w.heap.size + 1, 0, none⟩ = false ∧ W.frozen? ⟨w.heap.size + 1 + 1, 0, none⟩ = false ∧ W.heap.size = w.heap.size + 3 := by
  obtain ⟨W, h1, h2, h3, _, h5, h6, h7⟩ := box3_new w x y z t1 t2 t3
  refine ⟨W, h1, h2, h3, h5, h6, ?_, ?_, h7⟩
  · subst h1
    have hb : Below ((w.alloc (.cells #[x] t1)).alloc (.cells #[y] t2)).heap.size ((w.alloc (.cells #[x] t1)).alloc (.cells #[y] t2)) (((w.alloc (.cells #[x] t1)).alloc (.cells #[y] t2)).alloc (.cells #[z] t3)) := (Below.refl _ _).alloc (Nat.le_refl _) _
    rw [hb.frozen (p := ⟨w.heap.size + 1, 0, none⟩) (by simp)]
    have := (box_new (w.alloc (.cells #[x] t1)) y t2).2
    rw [World.size_alloc] at this
    exact this
  · subst h1
    have := (box_new ((w.alloc (.cells #[x] t1)).alloc (.cells #[y] t2)) z t3).2
    rw [World.size_alloc, World.size_alloc] at this
    exact this
/-- What size answers. -/
structure SRes (w : World) (B tb : Nat) (vn ve vl vs vm : Value) (L : List Nd) (F : List Nat) (S : List Int) (rt : Nat → Nat) (a : Nat) (n : Int) (b : Bool) (w' : World) (S' : List Int) : Prop where
  tm : TmIn w' B tb vn ve vl vs vm L F S'
  far : w.grownBy w' vs.ownBlock
  few : zerosN S' ≤ zerosN S
  yes : b = true → SzOk L rt S' ∧ (∀ p : Nat, S'[p]? = some (-1) ↔ S[p]? = some (-1)) ∧ Ends (pgr L) (fun i j => rt i = rt j) a ∧ ∃ l, Exp (pgr L) (fun i j => rt i = rt j) rt [a] l ∧ n = (min 501 l.length : Nat)
  no : b = false → n = 0 ∧ ¬ Ends (pgr L) (fun i j => rt i = rt j) a
/-- Between two parts. -/
structure SLoop (w : World) (B tb gs cs : Nat) (vn ve vl vm : Value) (L : List Nd) (F : List Nat) (S0 : List Int) (rt : Nat → Nat) (cb N0 : Nat) (pre : List Nat) (W : World) : Prop where
  big : N0 ≤ W.heap.size
  st : ∃ S', TmIn W B tb vn ve vl (.slice (some ⟨gs, 0, none⟩) L.length cs) vm L F S' ∧ zerosN S' ≤ zerosN S0 ∧ SzOk L rt S' ∧ (∀ p : Nat, S'[p]? = some (-1) ↔ S0[p]? = some (-1))
  pts : ∃ ls, All2 (fun x l => Exp (pgr L) (fun i j => rt i = rt j) rt [x] l) pre ls ∧ (∀ x ∈ pre, Ends (pgr L) (fun i j => rt i = rt j) x) ∧ W.cell? ⟨cb, 0, none⟩ = some (.int .i64 ((min 501 (1 + (ls.map List.length).sum) : Nat) : Int))
  far : w.grownBy W (some gs)
  x0 : W.cell? ⟨w.heap.size, 0, none⟩ = some (.pointer (some ⟨tb, 0, none⟩))
  x1 : W.cell? ⟨w.heap.size + 1, 0, none⟩ = some (.int .i64 0)
  x2 : W.cell? ⟨w.heap.size + 1 + 1, 0, none⟩ = some (.bool false)
  f1 : W.frozen? ⟨w.heap.size + 1, 0, none⟩ = false
  f2 : W.frozen? ⟨w.heap.size + 1 + 1, 0, none⟩ = false
  cf : W.frozen? ⟨cb, 0, none⟩ = false
structure SLeft (w : World) (B tb gs cs : Nat) (vn ve vl vm : Value) (L : List Nd) (F : List Nat) (S0 : List Int) (rt : Nat → Nat) (c : Code) (pre : List Nat) (W : World) : Prop where
  ret : c = .ret
  st : ∃ S', TmIn W B tb vn ve vl (.slice (some ⟨gs, 0, none⟩) L.length cs) vm L F S' ∧ zerosN S' ≤ zerosN S0
  no : ∃ x ∈ pre, ¬ Ends (pgr L) (fun i j => rt i = rt j) x
  far : w.grownBy W (some gs)
  x1 : W.cell? ⟨w.heap.size + 1, 0, none⟩ = some (.int .i64 0)
  x2 : W.cell? ⟨w.heap.size + 1 + 1, 0, none⟩ = some (.bool false)
section
variable {w : World} {B tb gs cs : Nat} {vn ve vl vm : Value} {L : List Nd} {F : List Nat} {S0 : List Int} {rt : Nat → Nat} {cb N0 N : Nat} {C : List Nat}
theorem SLoop.own (hN : w.heap.size ≤ N) : OwnFrom N (fun (pre : List (PartOf C)) W => SLoop w B tb gs cs vn ve vl vm L F S0 rt cb N0 (pre.map fun x => x.1) W) := by
  intro pre W W' row h hg hr
  have hr' : ∀ r, row = some r → ∃ o : Obj, W.heap[r]? = some o ∧ o.isCells = false := fun r e => (hr r e).2
  obtain ⟨S', h1, h2⟩ := h.st
  obtain ⟨ls, h3, h4, h5⟩ := h.pts
  exact ⟨Nat.le_trans h.big hg.size, ⟨S', h1.others hg hr', h2⟩, ⟨ls, h3, h4, cell_kept h5 hg hr'⟩, grown_from h.far hg (fun r e => by have := (hr r e).1; omega), cell_kept h.x0 hg hr', cell_kept h.x1 hg hr', cell_kept h.x2 hg hr', (frozen_kept h.x1 hg hr').trans h.f1, (frozen_kept h.x2 hg hr').trans h.f2, (frozen_kept h5 hg hr').trans h.cf⟩
theorem SLeft.own (hN : w.heap.size ≤ N) (c : Code) : OwnFrom N (fun (pre : List (PartOf C)) W => SLeft w B tb gs cs vn ve vl vm L F S0 rt c (pre.map fun x => x.1) W) := by
  intro pre W W' row h hg hr
  have hr' : ∀ r, row = some r → ∃ o : Obj, W.heap[r]? = some o ∧ o.isCells = false := fun r e => (hr r e).2
  obtain ⟨S', h1, h2⟩ := h.st
  exact ⟨h.ret, ⟨S', h1.others hg hr', h2⟩, h.no, grown_from h.far hg (fun r e => by have := (hr r e).1; omega), cell_kept h.x1 hg hr', cell_kept h.x2 hg hr'⟩
end

end Go.Proofs.YtjnddclkdofgdaaDoor

namespace Go.Proofs.YtjnddclkdofgdaaDoor
open Go.RowKit Go.Shelf Go.WideMaps
set_option maxRecDepth 100000
attribute [local go_sem] Oper.semAt_some

theorem wrap64_small {x : Int} (h0 : 0 ≤ x) (h1 : x ≤ 1000000) : wrap64 x = x := by
  unfold wrap64
  omega
theorem min_add (a b : Nat) : min (wrap64 (((min 501 (1 + a) : Nat) : Int) + ((min 501 b : Nat) : Int))) 501 = ((min 501 (1 + (a + ([b] : List Nat).sum)) : Nat) : Int) := by
  have h1 : min 501 (1 + a) ≤ 501 := Nat.min_le_left _ _
  have h2 : min 501 b ≤ 501 := Nat.min_le_left _ _
  have h3 : ([b] : List Nat).sum = b := by simp
  rw [wrap64_small (by omega) (by omega), h3]
  rcases Nat.le_total 501 (1 + a) with ha | ha <;> rcases Nat.le_total 501 b with hb | hb <;> rcases Nat.le_total 501 (1 + (a + b)) with hc | hc <;> simp only [Nat.min_eq_left, Nat.min_eq_right, ha, hb, hc] <;> omega
/-- What stays behind a part's size. -/
theorem size_next {w W : World} {B tb gs cs : Nat} {vn ve vl vm : Value} {L : List Nd} {F : List Nat} {S0 : List Int} {rt : Nat → Nat} {cb N0 : Nat} {pre : List Nat} {u : Value} (h : SLoop w B tb gs cs vn ve vl vm L F S0 rt cb N0 pre W) (hcb : W.cell? ⟨cb, 0, none⟩ = some u) {W' : World} (hg : W.grownBy W' (some gs)) (hgs : gs < w.heap.size) {ks : List Nat} (hk : ∀ k ∈ ks, k < W.heap.size ∧ k ≠ gs) (hc : ∃ o : Obj, W.heap[gs]? = some o ∧ o.isCells = true) (B0 : Nat) (hb : w.heap.size ≤ cb := by omega) :
    W'.cell? ⟨w.heap.size + 1, 0, none⟩ = some (.int .i64 0) ∧ W'.cell? ⟨w.heap.size + 1 + 1, 0, none⟩ = some (.bool false) ∧ W'.frozen? ⟨w.heap.size + 1, 0, none⟩ = false ∧ W'.frozen? ⟨w.heap.size + 1 + 1, 0, none⟩ = false ∧ W'.cell? ⟨cb, 0, none⟩ = some u ∧ W'.frozen? ⟨cb, 0, none⟩ = false ∧ KpB ks W W' ∧ KeepsFrom B0 W W' ∧ w.grownBy W' (some gs) := by
  have fz : ∀ {p : Addr} {v : Value}, W.cell? p = some v → p.block ≠ gs → W'.frozen? p = W.frozen? p := fun hc hn => World.frozen?_of_block (hg.block _ (World.block_lt_of_cell? W _ hc) (fun e => hn (by simpa using e)))
  exact ⟨hg.cell h.x1 (by simp; omega), hg.cell h.x2 (by simp; omega), (fz h.x1 (by simp; omega)).trans h.f1, (fz h.x2 (by simp; omega)).trans h.f2, hg.cell hcb (by simp; omega), (fz hcb (by simp; omega)).trans h.cf, kpB_grown hg hk, keeps_grown B0 hg hc, h.far.trans hg⟩

/-- When all parts are gone through. -/
theorem size_done {L : List Nd} {rt : Nat → Nat} {r : Nat} {nd : Nd} {C : List Nat} {ls : List (List Nd)} (hnd : L[r]? = some nd) (hC : (pgr L).ch r = C) (hls : All2 (fun x l => Exp (pgr L) (fun i j => rt i = rt j) rt [x] l) C ls) (hen : ∀ x ∈ C, Ends (pgr L) (fun i j => rt i = rt j) x) (hN : NamedRoot L rt) (hD : Down (pgr L) fun i j => rt i = rt j) (hNC : NoClash (pgr L) fun i j => rt i = rt j) (hr : rt r = r) :
    Ends (pgr L) (fun i j => rt i = rt j) r ∧ ∃ l, Exp (pgr L) (fun i j => rt i = rt j) rt [r] l ∧ l.length = 1 + (ls.map List.length).sum := by
  have hnr : ∀ j, rt r = rt j → (pgr L).named j → (pgr L).named r := by
    intro j e hj
    have := hN j hj
    rwa [← e, hr] at this
  refine ⟨ends_root hD hNC (pgr_arity L) (hD.refl r) (by rw [hC]; exact hen) hnr, ?_⟩
  cases hv : varB nd with
  | false =>
    have hnm : (pgr L).named r := by rw [pgr_isNamed hnd]; exact hv
    refine ⟨_, Exp.name (hD.refl r) hnm (by rw [List.append_nil, hC]; exact exp_all hls), ?_⟩
    simp [List.length_flatten]
    omega
  | true =>
    have hnm : ¬ (pgr L).named r := by rw [pgr_isNamed hnd, hv]; simp
    refine ⟨_, Exp.var (fun j e hj => hnm (hnr j e hj)) Exp.nil, ?_⟩
    have hC0 : C = [] := by rw [← hC, pgr_ch hnd, wants_var hv]; rfl
    subst hC0
    cases hls
    simp
theorem szOk_set {L : List Nd} {rt : Nat → Nat} {S : List Int} (h : SzOk L rt S) {r : Nat} {n : Int} (hn : Ends (pgr L) (fun i j => rt i = rt j) r ∧ ∃ l, Exp (pgr L) (fun i j => rt i = rt j) rt [r] l ∧ n = (min 501 l.length : Nat)) : SzOk L rt (S.set r n) := by
  intro p x hp
  rw [List.getElem?_set] at hp
  split at hp
  · rename_i e
    subst e
    split at hp
    · simp at hp; subst hp; exact Or.inr (Or.inr hn)
    · cases hp
  · exact h p x hp
theorem asked_set {S S' : List Int} {r : Nat} {n : Int} (hn : n ≠ -1) (h0 : S[r]? = some 0) (h : ∀ p : Nat, S'[p]? = some (-1) ↔ (S.set r (-1))[p]? = some (-1)) : ∀ p : Nat, (S'.set r n)[p]? = some (-1) ↔ S[p]? = some (-1) := by
  intro p
  by_cases e : p = r
  · subst e
    rw [h0]
    constructor
    · intro hp
      rw [List.getElem?_set] at hp
      simp at hp
      exact absurd hp.2 hn
    · intro hp; simp at hp
  · rw [List.getElem?_set_ne (fun x => e x.symm), h p, List.getElem?_set_ne (fun x => e x.symm)]

set_option maxHeartbeats 2000000 in
theorem uSize_any (B tb : Nat) (vn ve vl vs vm : Value) (L : List Nd) (F : List Nat) (rt d : Nat → Nat) (hL : Whole L) (hF : Forest F rt d) (hN : NamedRoot L rt) (hC : ClMod (pgr L) (fun i j => rt i = rt j) fun _ _ => False) : ∀ (m : Nat) (S : List Int) (a : Nat) (w : World), zerosN S < m → TmIn w B tb vn ve vl vs vm L F S → SzOk L rt S → (∀ r : Nat, S[r]? = some (-1) → Rch (pgr L) (fun i j => rt i = rt j) r a) → a < L.length →
    Calls Tryd.prog 82 #[.pointer (some ⟨tb, 0, none⟩), .int .i64 a] w fun e w' => ∃ n b S', e = .returned (.tuple #[.int .i64 n, .bool b]) ∧ SRes w B tb vn ve vl vs vm L F S rt a n b w' S' := by
  obtain ⟨hD, hNC⟩ := clo_down hC (isEq_rt rt)
  intro m
  induction m with
  | zero => intro S a w hm; omega
  | succ m ih =>
    intro S a w hm h hS hR ha
    have HT := hide h
    have HF := hide hF
    have HN := hide hN
    have HM := hide hm
    have HS := hide hS
    have HR := hide hR
    have HD := hide hD
    have HNC := hide hNC
    have IH := hide ih
    obtain ⟨w1, hw1, hb1, x0, x1, x2, f1, f2, hs1⟩ := box3_all w (.pointer (some ⟨tb, 0, none⟩)) (.int .i64 0) (.bool false) 101 3 4
    have CA := hide (uLeader_any B tb vn ve vl vs vm L F S rt d a w1 (h.below hb1) hF ha)
    have HB1 := hide hb1
    have hra : rt a < L.length := by rw [← h.lf]; exact hF.rt_lt (by rw [h.lf]; exact ha)
    have hrr := hF.rt_rt a
    obtain ⟨gs, cs, n0, rfl, hn0, c1, cf1⟩ := (h.below hb1).size hra
    have cs1 := (h.below hb1).c3
    have hfew := h.few
    clear h hF hN hm hS hR hD hNC ih hC
    refine (callsIn_wide (n := 3)).1 ?_
    refine callsIn_of_wp_marks Tryd.func82 rfl trivial ?_
    simp only [Tryd.ntmps82, List.size_toArray, List.length_cons, List.length_nil, Nat.reduceAdd, Nat.reduceSub, Array.replicate_succ, Array.replicate_zero, List.push_toArray, List.append_toArray, List.nil_append, List.cons_append]
    refine wpIn_wide.2 ?_
    obtain ⟨r, hr⟩ : ∃ r, r = rt a := ⟨_, rfl⟩
    rw [← hr] at hra hrr hn0 c1 cf1 CA
    have HRT := hide hr
    have HRR := hide hrr
    have HN0 := hide hn0
    have hri : (r : Int) < (L.length : Int) := by omega
    clear hr hrr hn0
    by_cases hq1 : n0 = -1
    · subst hq1
      have HNE : Hid (¬ Ends (pgr L) (fun i j => rt i = rt j) a) := hide (fun he => he.irrefl HD.out ((HR.out r HN0.out).left HD.out (by show rt a = rt r; rw [HRR.out, HRT.out])))
      subst hw1
      go_wp2_with (first
        | (go_at_call 100; refine (unhide CA).mono ?_; rintro e w' ⟨rfl, rfl⟩)
        | go_in)
      refine ret_marks (v := .tuple #[.int .i64 0, .bool false]) rfl (by simp [results, Tryd.results82, go_sem, x1, x2]) ?_
      exact ⟨0, false, S, rfl, ⟨HT.out.below HB1.out, grown_below HB1.out, Nat.le_refl _, fun e => (by cases e), fun _ => ⟨rfl, HNE.out⟩⟩⟩
    · by_cases hq0 : n0 = 0
      · subst hq0
        have HZ := hide (zerosN_set S r (-1) HN0.out (by decide))
        have HT1 := hide (HT.out.below HB1.out)
        have HSZ := hide ((HT.out.below HB1.out).sized r (-1))
        have hgsw : gs < w.heap.size := (own_lt HT.out.rs gs rfl).2
        subst hw1
        go_upto_region 6 with (first
          | (go_at_call 100; refine (unhide CA).mono ?_; rintro e w' ⟨rfl, rfl⟩)
          | go_in)
        clear CA
        generalize ((w.alloc (.cells #[.pointer (some ⟨tb, 0, none⟩)] 101)).alloc (.cells #[.int .i64 0] 3)).alloc (.cells #[.bool false] 4) = w1 at *
        obtain ⟨ht2, hg2⟩ := HSZ.out
        have k0 := cell_set_other (j := r) (v := .int .i64 (-1)) x0 (by omega : w.heap.size ≠ gs)
        have k1 := cell_set_other (j := r) (v := .int .i64 (-1)) x1 (by omega : w.heap.size + 1 ≠ gs)
        have k2 := cell_set_other (j := r) (v := .int .i64 (-1)) x2 (by omega : w.heap.size + 1 + 1 ≠ gs)
        have kf1 : (w1.setCell ⟨gs, r, none⟩ (.int .i64 (-1))).frozen? ⟨w.heap.size + 1, 0, none⟩ = false := by rw [World.frozen?_setCell]; exact f1
        have kf2 : (w1.setCell ⟨gs, r, none⟩ (.int .i64 (-1))).frozen? ⟨w.heap.size + 1 + 1, 0, none⟩ = false := by rw [World.frozen?_setCell]; exact f2
        have hz2 : (w1.setCell ⟨gs, r, none⟩ (.int .i64 (-1))).heap.size = w.heap.size + 3 := by rw [← hs1]; simp [World.setCell]
        have HT2 := hide ht2
        have HG2 := hide (grown_new HB1.out hg2)
        have CP := hide (fun wx => uParts_any tb r wx)
        have nA := fun X => Below.at' ((Below.refl (w1.setCell ⟨gs, r, none⟩ (.int .i64 (-1))).heap.size (w1.setCell ⟨gs, r, none⟩ (.int .i64 (-1)))).alloc (Nat.le_refl _) X) (Nat.le_refl _) k0
        clear ht2 hg2 HSZ HT1
        go_wp2_with (first
          | (go_at_call 101; refine (unhide CP _).mono ?_; rintro e w5 ⟨rfl, rfl⟩)
          | go_in)
        clear nA CP
        generalize w1.setCell ⟨gs, r, none⟩ (.int .i64 (-1)) = w4 at *
        obtain ⟨C, hC⟩ : ∃ C, (pgr L).ch r = C := ⟨_, rfl⟩
        obtain ⟨ge, ce, rfl, _⟩ := HT.out.ends (by omega)
        obtain ⟨w6, hw6, hal, o0, of0, ot0, oa0, os0⟩ := box3_new w4 (.int .i64 1) (.pointer (some ⟨tb, 0, none⟩)) (.int .i64 r) 3 101 3
        rw [← hw6]
        clear hw6
        rw [hz2] at o0 of0 ot0 oa0 os0
        have hT6 := HT2.out.below hal
        have hIt : ItIn w6 (w.heap.size + 3 + 1 + 1) (w.heap.size + 3 + 1) tb ge L r := ItIn.of hT6 (by omega) oa0 ot0
        have htb6 := (Array.getElem?_eq_some_iff.1 HT.out.box).1
        have hge6 := (own_lt HT.out.re ge rfl).2
        have hks : ∀ k ∈ [w.heap.size + 3 + 1 + 1, w.heap.size + 3 + 1, tb, ge], k < w6.heap.size := by
          intro k hk
          simp at hk
          rcases hk with rfl | rfl | rfl | rfl <;> omega
        obtain ⟨nd, hnd⟩ : ∃ n, L[r]? = some n := ⟨L[r], List.getElem?_eq_getElem hra⟩
        have HG6 := hide (HG2.out.trans (grown_below hal))
        have y0 := Below.at' hal (Nat.le_refl _) k0
        have y1 := Below.at' hal (Nat.le_refl _) k1
        have y2 := Below.at' hal (Nat.le_refl _) k2
        have yf1 := (hal.frozen (p := ⟨w.heap.size + 1, 0, none⟩) (World.block_lt_of_cell? _ _ k1)).trans kf1
        have yf2 := (hal.frozen (p := ⟨w.heap.size + 1 + 1, 0, none⟩) (World.block_lt_of_cell? _ _ k2)).trans kf2
        refine (wpIn_wide (n := 3)).1 ?_
        refine wpIn_rangeFunc_ownG rfl (by omega) (gf := 121) (lb := #[.pointer (some ⟨w.heap.size + 3 + 1 + 1, 0, none⟩), .pointer (some ⟨w.heap.size + 3 + 1, 0, none⟩)]) rfl trivial (enters_of Tryd.func121 (by kernel_rfl) rfl)
          (encs := fun x : PartOf C => #[.int .i64 (x.1 : Nat)]) (Kp := KpB [w.heap.size + 3 + 1 + 1, w.heap.size + 3 + 1, tb, ge]) (S := fun xs => xs.map (fun x => x.1) = C) (Sp := fun pre => pre.map (fun x => x.1) <+: C) (N := C.length) (w0 := w6)
          (fun l J Jx W hW hJ hJx hY h0 => by
            have := uParts1_in 2 l (w.heap.size + 3 + 1 + 1) (w.heap.size + 3 + 1) tb ge L r nd C hC (by omega) hL hfew hnd J Jx _ hJ hY W (hIt.kept (kpB_below hW hks)) h0
            simpa using this)
          (fun h k => h.trans k) (KpB.put hks) (Below.refl _ _) (fun _ => rfl)
          (fun pre W => SLoop w B tb gs cs vn (.slice (some ⟨ge, 0, none⟩) L.length ce) vl vm L F (S.set r (-1)) rt (w.heap.size + 3) w6.heap.size (pre.map fun x => x.1) W)
          (fun c pre W => SLeft w B tb gs cs vn (.slice (some ⟨ge, 0, none⟩) L.length ce) vl vm L F (S.set r (-1)) rt c (pre.map fun x => x.1) W)
          (SLoop.own (by omega)) (fun c => SLeft.own (by omega) c) ?h0 ?a1 ?assign ?body ?done ?stop
        case h0 =>
          refine ⟨Nat.le_refl _, ⟨_, hT6, Nat.le_refl _, ?_, fun _ => Iff.rfl⟩, ⟨[], All2.nil, by simp, o0⟩, HG6.out, y0, y1, y2, yf1, yf2, of0⟩
          intro p n hp
          rw [List.getElem?_set] at hp
          split at hp
          · split at hp
            · simp at hp; exact Or.inr (Or.inl hp.symm)
            · cases hp
          · exact HS.out p n hp
        case assign =>
          intro l x W K hK
          gi_wp2
          exact hK
        case body =>
          rintro l pre x W hI hlen
          obtain ⟨S', hT', hZ', hS', hA'⟩ := hI.st
          obtain ⟨ls, hls, hen, hcb⟩ := hI.pts
          have hxp : x.1 < L.length := ch_lt hL hnd x.1 (by rw [hC]; exact x.2)
          have hnm : (pgr L).named r := by
            rw [pgr_isNamed hnd]
            cases hv : varB nd with
            | false => rfl
            | true =>
              have h1 : C = [] := by rw [← hC, pgr_ch hnd, wants_var hv]; rfl
              have h2 := x.2
              simp [h1] at h2
          have hstep : Rch (pgr L) (fun i j => rt i = rt j) r x.1 := Rch.step (j := r) rfl hnm (by rw [hC]; exact x.2) rfl
          have hask : ∀ q : Nat, S'[q]? = some (-1) → Rch (pgr L) (fun i j => rt i = rt j) q x.1 := by
            intro q hq
            have h1 := (hA' q).1 hq
            by_cases hqr : q = r
            · subst hqr; exact hstep
            · rw [List.getElem?_set_ne (fun e => hqr e.symm)] at h1
              exact Rch.trans ((HR.out q h1).right HD.out (by show rt a = rt r; rw [HRR.out, HRT.out])) hstep
          have CJ := IH.out S' x.1 W (by have := HZ.out; have := HM.out; omega) hT' hS' hask hxp
          have hWs := hI.far.size
          have hW6 := hI.big
          have htbW := (Array.getElem?_eq_some_iff.1 hT'.box).1
          have hgeW := (own_lt hT'.re ge rfl).2
          have hkk : ∀ k ∈ [w.heap.size + 3 + 1 + 1, w.heap.size + 3 + 1, tb, ge], k < W.heap.size ∧ k ≠ gs := by
            intro k hk
            simp at hk
            have h1 : tb ≠ gs := fun e => own_ne_box hT'.rs hT'.box (by decide) (by simp [Value.ownBlock, e])
            have h2 : ge ≠ gs := fun e => hT'.ac (by simp [Value.ownBlock, e])
            rcases hk with rfl | rfl | rfl | rfl
            · exact ⟨by omega, by omega⟩
            · exact ⟨by omega, by omega⟩
            · exact ⟨htbW, h1⟩
            · exact ⟨hgeW, h2⟩
          have HNX := hide (fun (W' : World) (hg : W.grownBy W' (some gs)) => size_next hI hcb hg hgsw hkk (own_cells hT'.rs rfl) w6.heap.size)
          have x0' := hI.x0
          have HI := hide hI
          have HLS := hide hls
          have HEN := hide hen
          have HZZ := hide hZ'
          have HAA := hide hA'
          have HCJ := hide CJ
          have HKK := hide (fun k hk => (hkk k hk).1)
          generalize hsm : (ls.map List.length).sum = sm at *
          have HSM := hide hsm
          clear hsm
          clear hI hls hen hcb hZ' hA' hS' hT' CJ hask hstep hnm hkk
          gi_wp2_with (first
            | (refine ⟨trivial, ?_⟩; gi_at_call 82; refine (CallsIn.inRound l (callsIn_wide.2 (unhide HCJ))).mono ?_; rintro e W' ⟨n, b, S'', rfl, hres⟩; obtain ⟨q1, q2, qf1, qf2, q3, qf3, hkp, hkf, hfar⟩ := HNX.out W' hres.far; have HRES := hide hres; have HKP := hide hkp; have HKF := hide hkf; have HFAR := hide hfar; clear hres hkp hkf hfar)
            | fail)
          · have hbf : b = false := by simpa using ‹(!b) = true›
            obtain ⟨_, hno⟩ := HRES.out.no hbf
            refine ⟨HKF.out.trans ((keeps_set _ q1 _).trans (keeps_set _ (cell_set_other q2 (by omega)) _)), ⟨rfl, ⟨S'', (HRES.out.tm.boxed HT.out (by omega) 0 _).boxed HT.out (by omega) 0 _, Nat.le_trans HRES.out.few HZZ.out⟩, ⟨x.1, by simp, hno⟩, grown_box (grown_box HFAR.out (by omega) 0 _) (by omega) 0 _, ?_, ?_⟩⟩
            · exact cell_set_other (World.cell?_setCell_same' _ _ _ (by rw [q1]; rfl)) (by omega)
            · exact World.cell?_setCell_same' _ _ _ (by rw [cell_set_other q2 (by omega)]; rfl)
          · have hbt : b = true := by simpa using ‹(!b) = false›
            obtain ⟨h1, h2, h3, lx, h4, h5⟩ := HRES.out.yes hbt
            have hval : min (wrap64 (((min 501 (1 + sm) : Nat) : Int) + n)) 501 = ((min 501 (1 + ((ls ++ [lx]).map List.length).sum) : Nat) : Int) := by
              rw [h5, List.map_append, List.sum_append, HSM.out]
              exact min_add sm lx.length
            rw [hval]
            have hkn : ∀ k ∈ [w.heap.size + 3 + 1 + 1, w.heap.size + 3 + 1, tb, ge], k ≠ w.heap.size + 3 := by
              intro k hk
              simp at hk
              rcases hk with rfl | rfl | rfl | rfl <;> omega
            refine ⟨HKF.out.trans (keeps_set _ q3 _), HKP.out.trans (fun k hk => (grown_setCell W' ⟨w.heap.size + 3, 0, none⟩ _).block k (Nat.lt_of_lt_of_le (HKK.out k hk) HRES.out.far.size) (by simpa using hkn k hk)), ⟨?_, ⟨S'', HRES.out.tm.boxed HT.out (by omega) 0 _, Nat.le_trans HRES.out.few HZZ.out, h1, fun p => (h2 p).trans (HAA.out p)⟩, ⟨ls ++ [lx], ?_, ?_, World.cell?_setCell_same' _ _ _ (by rw [q3]; rfl)⟩, grown_box HFAR.out (by omega) 0 _, cell_set_other ?_ (by omega), cell_set_other q1 (by omega), cell_set_other q2 (by omega), ?_, ?_, ?_⟩⟩
            · exact Nat.le_trans HI.out.big (Nat.le_trans HRES.out.far.size (grown_setCell W' ⟨w.heap.size + 3, 0, none⟩ _).size)
            · rw [List.map_append]; exact HLS.out.snoc h4
            · intro y hy
              rw [List.map_append, List.mem_append] at hy
              rcases hy with hy | hy
              · exact HEN.out y hy
              · simp at hy; subst hy; exact h3
            · exact HRES.out.far.cell x0' (by intro e; simp [Value.ownBlock] at e; omega)
            · rw [World.frozen?_setCell]; exact qf1
            · rw [World.frozen?_setCell]; exact qf2
            · rw [World.frozen?_setCell]; exact qf3
        case done =>
          rintro D ys W hD hSy hI hK
          obtain ⟨S', hT', hZ', hS', hA'⟩ := hI.st
          obtain ⟨ls, hls, hen, hcb⟩ := hI.pts
          have hcC := hI.cf
          rw [hSy] at hls hen
          have x0' := hI.x0
          have x1' := hI.x1
          have x2' := hI.x2
          have f1' := hI.f1
          have f2' := hI.f2
          have c3' := hT'.c3
          obtain ⟨gs', cs', nr, e', hnr, ccr, cfr⟩ := hT'.size hra
          simp at e'
          obtain ⟨rfl, rfl⟩ := e'
          generalize hsm : (ls.map List.length).sum = sm at *
          have HSM := hide hsm
          have HI := hide hI
          have HT' := hide hT'
          have HLS := hide hls
          have HEN := hide hen
          have HK := hide hK
          have HZ' := hide hZ'
          have HS' := hide hS'
          have HA' := hide hA'
          have hrz : (0 : Int) ≤ (r : Int) := Int.natCast_nonneg _
          have hrn : ((r : Int)).toNat = r := Int.toNat_natCast _
          obtain ⟨v, hv⟩ : ∃ v, v = Value.int .i64 ((min 501 (1 + sm) : Nat) : Int) := ⟨_, rfl⟩
          have d1 := cell_set_other (j := r) (v := v) x1' (by omega : w.heap.size + 1 ≠ gs)
          have d2 := cell_set_other (j := r) (v := v) x2' (by omega : w.heap.size + 1 + 1 ≠ gs)
          have d3 := cell_set_other (j := r) (v := v) hcb (by omega : w.heap.size + 3 ≠ gs)
          have df1 : (W.setCell ⟨gs, r, none⟩ v).frozen? ⟨w.heap.size + 1, 0, none⟩ = false := by rw [World.frozen?_setCell]; exact f1'
          have df2 : (W.setCell ⟨gs, r, none⟩ v).frozen? ⟨w.heap.size + 1 + 1, 0, none⟩ = false := by rw [World.frozen?_setCell]; exact f2'
          rw [hv] at d1 d2 d3 df1 df2
          clear hsm hI hT' hls hen hK hZ' hS' hA' hv
          go_wp2
          go_region
          all_goals
            go_wp2
            obtain ⟨hE, lr, hX, hXl⟩ := size_done hnd hC HLS.out HEN.out HN.out HD.out HNC.out HRR.out
            rw [HSM.out] at hXl
            have hra2 : rt r = rt a := by rw [HRR.out, HRT.out]
            have hv1 : (1 : Nat) ≤ min 501 (1 + sm) := by rw [Nat.le_min]; omega
            have hKF : KeepsFrom 0 W (((W.setCell ⟨gs, r, none⟩ (.int .i64 ((min 501 (1 + sm) : Nat) : Int))).setCell ⟨w.heap.size + 1, 0, none⟩ (.int .i64 ((min 501 (1 + sm) : Nat) : Int))).setCell ⟨w.heap.size + 1 + 1, 0, none⟩ (.bool true)) := (keeps_grown 0 (HT'.out.sized r ((min 501 (1 + sm) : Nat) : Int)).2 (own_cells HT'.out.rs rfl)).trans ((keeps_set 0 d1 _).trans (keeps_set 0 (cell_set_other d2 (by omega)) _))
            have hK' := hKF.same D _ (Nat.zero_le _) HK.out rfl
            have hg1 := World.cell?_setCell_same' (W.setCell ⟨gs, r, none⟩ (.int .i64 ((min 501 (1 + sm) : Nat) : Int))) ⟨w.heap.size + 1, 0, none⟩ (.int .i64 ((min 501 (1 + sm) : Nat) : Int)) (by rw [d1]; rfl)
            have hg1' := cell_set_other (j := 0) (v := .bool true) hg1 (by omega : w.heap.size + 1 ≠ w.heap.size + 1 + 1)
            have hg2 := World.cell?_setCell_same' ((W.setCell ⟨gs, r, none⟩ (.int .i64 ((min 501 (1 + sm) : Nat) : Int))).setCell ⟨w.heap.size + 1, 0, none⟩ (.int .i64 ((min 501 (1 + sm) : Nat) : Int))) ⟨w.heap.size + 1 + 1, 0, none⟩ (.bool true) (by rw [cell_set_other d2 (by omega)]; rfl)
            have htm := ((HT'.out.sized r ((min 501 (1 + sm) : Nat) : Int)).1.boxed HT.out (g := w.heap.size + 1) (by omega) 0 (.int .i64 ((min 501 (1 + sm) : Nat) : Int))).boxed HT.out (g := w.heap.size + 1 + 1) (by omega) 0 (.bool true)
            have hfr := grown_box (grown_box (HI.out.far.trans (HT'.out.sized r ((min 501 (1 + sm) : Nat) : Int)).2) (g := w.heap.size + 1) (by omega) 0 (.int .i64 ((min 501 (1 + sm) : Nat) : Int))) (g := w.heap.size + 1 + 1) (by omega) 0 (.bool true)
            generalize ((W.setCell ⟨gs, r, none⟩ (.int .i64 ((min 501 (1 + sm) : Nat) : Int))).setCell ⟨w.heap.size + 1, 0, none⟩ (.int .i64 ((min 501 (1 + sm) : Nat) : Int))).setCell ⟨w.heap.size + 1 + 1, 0, none⟩ (.bool true) = WF at *
            have hKd : WF.drew.heap[D]? = some (.deferred (some [])) := hK'
            refine ⟨by simp, .inl ⟨_, _, rfl, run_takeDeferred hKd, ?_⟩⟩
            have hc1 := cell_kept (show WF.drew.cell? _ = _ from hg1') (grownBy_putObj' WF.drew D (.deferred none)) (fun r e => by cases e; exact ⟨_, hKd, rfl⟩)
            have hc2 := cell_kept (show WF.drew.cell? _ = _ from hg2) (grownBy_putObj' WF.drew D (.deferred none)) (fun r e => by cases e; exact ⟨_, hKd, rfl⟩)
            refine ⟨.tuple #[.int .i64 ((min 501 (1 + sm) : Nat) : Int), .bool true], by simp [results, Tryd.results82, go_sem, hc1, hc2], ?_⟩
            have hbd : Below WF.heap.size WF WF.drew := below_drawn ⟨1, rfl⟩
            have hZ2 := HZ.out
            refine ⟨_, true, S'.set r ((min 501 (1 + sm) : Nat) : Int), rfl, ⟨(htm.below hbd).others (grownBy_putObj' WF.drew D (.deferred none)) (fun r e => by cases e; exact ⟨_, hKd, rfl⟩), grown_from (hfr.trans (grown_below hbd)) (grownBy_putObj' WF.drew D (.deferred none)) (fun r e => by cases e; omega), ?_, fun _ => ⟨szOk_set HS'.out ⟨hE, lr, hX, by rw [hXl]⟩, asked_set (by omega) HN0.out HA'.out, hE.same HD.out hra2, lr, hX.same HD.out (fun _ _ e => e) [a] (All2.cons hra2 All2.nil), by rw [hXl]⟩, fun e => (by cases e)⟩⟩
            have h1 := zerosN_le S' r ((min 501 (1 + sm) : Nat) : Int) (by omega)
            have h2 := HZ'.out
            omega
        case stop =>
          rintro D c pre W hD hSy hI hK
          have hcr := hI.ret
          subst hcr
          obtain ⟨S', hT', hZ'⟩ := hI.st
          obtain ⟨y, hy, hno⟩ := hI.no
          have x1' := hI.x1
          have x2' := hI.x2
          refine wpIn_wide.2 ?_
          go_wp2
          refine ⟨by simp, .inl ⟨_, _, rfl, run_takeDeferred hK, ?_⟩⟩
          have hc1 := cell_kept x1' (grownBy_putObj' _ D (.deferred none)) (fun r e => by cases e; exact ⟨_, hK, rfl⟩)
          have hc2 := cell_kept x2' (grownBy_putObj' _ D (.deferred none)) (fun r e => by cases e; exact ⟨_, hK, rfl⟩)
          refine ⟨.tuple #[.int .i64 0, .bool false], by simp [results, Tryd.results82, go_sem, hc1, hc2], ?_⟩
          refine ⟨0, false, S', rfl, ⟨hT'.others (grownBy_putObj' _ D (.deferred none)) (fun r e => by cases e; exact ⟨_, hK, rfl⟩), grown_from hI.far (grownBy_putObj' _ D (.deferred none)) (fun r e => by cases e; omega), Nat.le_trans hZ' (Nat.le_of_lt HZ.out), fun e => (by cases e), fun _ => ⟨rfl, fun he => hno ?_⟩⟩⟩
          have hym : y ∈ (pgr L).ch r := by rw [hC]; exact hSy.subset hy
          have hnm : (pgr L).named r := by
            rw [pgr_isNamed hnd]
            cases hv : varB nd with
            | false => rfl
            | true => rw [pgr_ch hnd, wants_var hv] at hym; simp at hym
          exact he.parts (j := r) (by show rt a = rt r; rw [HRR.out, HRT.out]) hnm hym
      · have HK := hide (show Ends (pgr L) (fun i j => rt i = rt j) a ∧ ∃ l, Exp (pgr L) (fun i j => rt i = rt j) rt [a] l ∧ n0 = (min 501 l.length : Nat) from by
          have hra : rt r = rt a := by rw [HRR.out, HRT.out]
          rcases HS.out r n0 HN0.out with e | e | ⟨h1, l, h2, h3⟩
          · exact absurd e hq0
          · exact absurd e hq1
          · exact ⟨h1.same HD.out hra, l, h2.same HD.out (fun _ _ e => e) [a] (All2.cons hra All2.nil), h3⟩)
        have hq1' : ((n0 : Int) == -1) = false := by simpa using hq1
        have hq0' : ((n0 : Int) != 0) = true := by simpa using hq0
        obtain ⟨w2, hw2, hb2, y0, y1, y2, _, _, hs2⟩ := box3_all w (.pointer (some ⟨tb, 0, none⟩)) (.int .i64 n0) (.bool true) 101 3 4
        subst hw1
        go_wp2_with (first
          | (go_at_call 100; refine (unhide CA).mono ?_; rintro e w' ⟨rfl, rfl⟩)
          | go_in)
        subst hw2
        refine ret_marks (v := .tuple #[.int .i64 n0, .bool true]) rfl (by simp [results, Tryd.results82, go_sem, y1, y2]) ?_
        exact ⟨n0, true, S, rfl, ⟨HT.out.below hb2, grown_below hb2, Nat.le_refl _, fun _ => ⟨HS.out, fun _ => Iff.rfl, HK.out⟩, fun e => (by cases e)⟩⟩

end Go.Proofs.YtjnddclkdofgdaaDoor
