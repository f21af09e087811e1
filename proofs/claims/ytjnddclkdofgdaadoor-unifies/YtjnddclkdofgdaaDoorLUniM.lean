/- Unify held against the document's own answer. The law looks at all lists again. The law of Unify. -/
import Derived.Test.YtjnddclkdofgdaaDoorLOwn
import Derived.Test.YtjnddclkdofgdaaDoorTUni
import Derived.Test.YtjnddclkdofgdaaDoorUInf2
import Derived.Test.YtjnddclkdofgdaaDoorRefs1M
namespace Go.Proofs.YtjnddclkdofgdaaDoor
open Go.RowKit Go.Shelf Go.WideMaps
set_option maxRecDepth 100000

theorem wpList_copy {ops : Array Oper} {rest : List Oper} {o : Oper} {a : Act} {w : World} {Q : Exit → Act → World → Prop} (hgd : o.guard = none) (s x : Operand) (hop : o.op = .call { callee := .builtin .append, args := #[s, x], argTypes := #[28, 28] }) (aa : Option Addr) (c : Nat) (l : List Nd) (hs : a.eval s = .slice none 0 0) (hx : a.eval x = .slice aa l.length c) (hn : NodesIn w aa l) (hz : aa = none → c = 0)
    (h : ∀ v w', w'.ownsRow w.heap.size 27 2 v l.length (nodeCells l) → w.grownBy w' none → wpList Tryd.prog ops Q rest (a.put o.dst v) w') : wpList Tryd.prog ops Q (o :: rest) a w := by
  refine wpList_plain hgd fun K hK' => ?_
  obtain ⟨v, w', hr, h1, h2⟩ := run_copy (ty := o.type) hn hz
  unfold Oper.wp execOp
  simp only [hop, resolve, invoke, builtin, Sem.run_bind, Sem.run_pure, Result.andThen_ok, List.map_toArray, List.map_cons, List.map_nil, hs, hx, hr]
  exact hK' _ _ (h v w' h1 h2)
theorem lnodes_any (a : Option Addr) (c : Nat) (l : List Nd) (w : World) (h : NodesIn w a l) (hz : a = none → c = 0) :
    Calls Tryd.prog 17 #[.slice a l.length c] w fun e w' => ∃ v, e = .returned v ∧ OwnN w' w.heap.size v l ∧ Below w.heap.size w w' := by
  have H := hide h
  have HZ := hide hz
  clear h hz
  go_enter Tryd.func17, Tryd.ntmps17
  go_wp2_with (first
    | (at_builtin; refine wpList_copy rfl _ _ rfl a c l rfl rfl H.out HZ.out ?_; intro v w1 h1 h2; have H1 := hide h1; have H2 := hide h2; clear h1 h2)
    | go_in)
  go_ret
  have h2 := H2.out
  exact ⟨_, rfl, H1.out, ⟨h2.os, h2.tape, h2.output, h2.size, fun k hk => h2.block k hk (by simp)⟩⟩
theorem same_self (a1 a2 : Option Addr) (c1 c2 : Nat) (l : List Nd) (w : World) (h1 : NodesIn w a1 l) (h2 : NodesIn w a2 l) :
    Calls Tryd.prog 20 #[.slice a1 l.length c1, .slice a2 l.length c2] w fun e w' => e = .returned (.bool true) ∧ Below w.heap.size w w' := by
  refine (sameNodes_any a1 a2 c1 c2 l l w h1 h2).mono ?_
  rintro e w' ⟨rfl, hd⟩
  exact ⟨by simp, below_drawn hd⟩
/-- A list of another owner. -/
theorem BFar.own {w w' : World} {bk B : Nat} {nv mv lv x : Value} {E : List (Value × Int)} {next : Int} {n : Nat} {xs : List Value} {B' : Nat} (h : BFar w w' bk nv mv lv) (hbk : BookIn w B' bk nv mv E next) (ho : w.ownsRow B 27 2 x n xs) (hx : x.ownBlock = none ∨ x.ownBlock ≠ lv.ownBlock) : w'.ownsRow B 27 2 x n xs := by
  have h0 : x.ownBlock ≠ some bk := own_ne_box ho hbk.box (by decide)
  have h1 := own_apart ho hbk.rn (by decide)
  have h2 := own_apart ho hbk.rm (by decide)
  obtain ⟨k1, ⟨rfl, k2⟩ | ⟨g, cap, cur, rfl, hb, hh, hr⟩⟩ := ho
  · exact ⟨k1, Or.inl ⟨rfl, k2⟩⟩
  · refine ⟨k1, Or.inr ⟨g, cap, cur, rfl, hb, ?_, hr⟩⟩
    have ne : ∀ {u : Value}, ((Value.slice (some ⟨g, 0, none⟩) n cap).ownBlock = none ∨ (Value.slice (some ⟨g, 0, none⟩) n cap).ownBlock ≠ u.ownBlock) → u.ownBlock ≠ some g := fun hu e => by
      rcases hu with hu | hu
      · simp [Value.ownBlock] at hu
      · exact hu (by rw [e]; rfl)
    rw [h.block g (Array.getElem?_eq_some_iff.1 hh).1 (fun e => h0 (by rw [← e]; rfl)) (ne h1) (ne h2) (ne hx), hh]
theorem Marks.lt {w : World} {v : Value} {m : Int} (h : Marks w v m) : ∀ g, v.ownBlock = some g → g < w.heap.size := by
  intro g hg
  rcases h with rfl | ⟨g', n, c, cur, rfl, hh, _⟩
  · simp [Value.ownBlock] at hg
  · simp [Value.ownBlock] at hg
    subst hg
    exact (Array.getElem?_eq_some_iff.1 hh).1
/-- The book, with a list that waits: its block lies in a span in which no list of the book lies. -/
structure WaitB (lo hi : Nat) (E : List (Value × Int)) : Prop where
  out : ∀ x ∈ E, ∀ g, x.1.ownBlock = some g → g < lo ∨ hi ≤ g
theorem WaitB.apart {w : World} {lo hi n : Nat} {E : List (Value × Int)} {v : Value} {xs : List Value} (h : WaitB lo hi E) (ho : w.ownsRow lo 27 2 v n xs) (hv : ∀ g, v.ownBlock = some g → g < hi) : ∀ x ∈ E, x.1.ownBlock = none ∨ x.1.ownBlock ≠ v.ownBlock := by
  intro x hx
  cases hb : x.1.ownBlock with
  | none => exact Or.inl rfl
  | some g =>
    right
    intro e
    have h1 := h.out x hx g hb
    have h2 := (own_lt ho g e.symm).1
    have h3 := hv g e.symm
    omega
theorem WaitB.more {w : World} {lo hi : Nat} {E E' : List (Value × Int)} {lv : Value} (h : WaitB lo hi E) (hn : ∀ x ∈ E', Moved w lv x.1) (h1 : ∀ g, lv.ownBlock = some g → g < lo ∨ hi ≤ g) (h2 : hi ≤ w.heap.size) : WaitB lo hi (E ++ E') := by
  refine ⟨fun x hx g hg => ?_⟩
  rcases List.mem_append.1 hx with hx | hx
  · exact h.out x hx g hg
  · rcases hn x hx with e | ⟨g', e, hgg⟩
    · exact h1 g (by rw [← e, hg])
    · rw [e] at hg
      simp at hg
      omega
/-- A list that waits to be taken into the book. -/
structure Waits (w : World) (E : List (Value × Int)) (v : Value) (lo hi : Nat) (l : List Nd) : Prop where
  own : w.ownsRow lo 27 2 v l.length (nodeCells l)
  below : ∀ g, v.ownBlock = some g → g < hi
  span : WaitB lo hi E
  top : hi ≤ w.heap.size
theorem Waits.next {w w' : World} {E E' : List (Value × Int)} {v u nv mv nv' mv' : Value} {lo hi lo' hi' B bk : Nat} {l l' : List Nd} {next : Int} (h : Waits w E v lo hi l) (k : Waits w E u lo' hi' l') (hd : hi ≤ lo' ∨ hi' ≤ lo) (hb : BookIn w B bk nv mv E next) (r : OwR w B bk nv mv v E next w' nv' mv' E') : Waits w' (E ++ E') u lo' hi' l' := by
  refine ⟨r.far.own hb k.own ?_, k.below, k.span.more r.new ?_ k.top, Nat.le_trans k.top r.far.size⟩
  · cases hu : u.ownBlock with
    | none => exact Or.inl rfl
    | some g =>
      right
      intro e
      have h1 := (own_lt k.own g hu).1
      have h2 := k.below g hu
      have h3 := (own_lt h.own g e.symm).1
      have h4 := h.below g e.symm
      omega
  · intro g hg
    have h3 := (own_lt h.own g hg).1
    have h4 := h.below g hg
    omega
theorem owns_wait {w : World} {E : List (Value × Int)} {v nv mv : Value} {lo hi B bk : Nat} {l : List Nd} {next : Int} (h : Waits w E v lo hi l) (hb : BookIn w B bk nv mv E next) (hB : B ≤ lo) (hBw : B ≤ w.heap.size) (hl : l.length ≤ 5864062014805) (hf : E.length ≤ 900) (hn : -900 ≤ next) :
    Calls Tryd.prog 21 #[.pointer (some ⟨bk, 0, none⟩), v] w fun e w' => ∃ nv' mv' E', e = .returned (.tuple #[]) ∧ OwR w B bk nv mv v E next w' nv' mv' E' :=
  ownsNodes_any B bk nv mv v E next l w hb (own_mono h.own hB) (h.span.apart h.own h.below) hl hf hn hBw
theorem Bl.trans {a b c : World} (h : Below a.heap.size a b) (k : Below b.heap.size b c) : Below a.heap.size a c := h.trans (k.mono h.size)
theorem Waits.start {w a b c : World} {E : List (Value × Int)} {v : Value} {l : List Nd} (hE : ∀ x ∈ E, ∀ g, x.1.ownBlock = some g → g < w.heap.size) (hw : w.heap.size ≤ a.heap.size) (h : OwnN b a.heap.size v l) (hb : Below b.heap.size b c) : Waits c E v a.heap.size b.heap.size l :=
  ⟨own_below h hb (Nat.le_refl _), fun g hg => (own_lt h g hg).2, ⟨fun x hx g hg => Or.inl (Nat.lt_of_lt_of_le (hE x hx g hg) hw)⟩, hb.size⟩
theorem nd_short {w : World} {a : Option Addr} {l : List Nd} (h : NodesIn w a l) : ∀ n ∈ l, n.1.size ≤ 140737488355328 := by
  intro n hn
  obtain ⟨k, hk, rfl⟩ := List.getElem_of_mem hn
  exact h.short k hk
/-- What the law's unify leaves. -/
structure LuR (w : World) (B bk : Nat) (E : List (Value × Int)) (next : Int) (w' : World) (nv' mv' : Value) (E' : List (Value × Int)) : Prop where
  book : BookIn w' B bk nv' mv' (E ++ E') (next - 4)
  len : E'.length = 16
  low : Below B w w'

set_option maxHeartbeats 4000000 in
theorem lunify_any (B bk : Nat) (nv mv : Value) (E : List (Value × Int)) (next : Int) (a1 a2 : Option Addr) (c1 c2 : Nat) (x y : List Nd) (w : World) (h : BookIn w B bk nv mv E next) (hB : B ≤ w.heap.size) (h1 : NodesIn w a1 x) (h2 : NodesIn w a2 y) (z1 : a1 = none → c1 = 0) (z2 : a2 = none → c2 = 0) (hT : Tabs w) (hfew : E.length ≤ 500) (hnx : -500 ≤ next) :
    Calls Tryd.prog 8 #[.pointer (some ⟨bk, 0, none⟩), .slice a1 x.length c1, .slice a2 y.length c2] w fun e w' => ∃ nv' mv' E', e = .returned (.bool true) ∧ LuR w B bk E next w' nv' mv' E' := by
  have C1 := hide (lnodes_any a1 c1 x w h1 z1)
  have H := hide h
  have H1 := hide h1
  have H2 := hide h2
  have Z2 := hide z2
  have HT := hide hT
  clear h h1 h2 z1 z2 hT
  have HF1 := hide H1.out.few
  have HF2 := hide H2.out.few
  go_enter Tryd.func8, Tryd.ntmps8
  go_upto_region 10 with (first
    | (go_at_call 17; refine (lnodes_any a2 c2 y w1 (H2.out.below B1.out (Nat.le_refl _)) Z2.out).mono ?_; rintro e w2 ⟨v2, rfl, o2, b2⟩; obtain ⟨a2', d2, rfl⟩ := own_shape o2; have O2 := hide o2; have B2 := hide b2; have BW2 := hide (Bl.trans B1.out b2); clear o2 b2)
    | (go_at_call 17; refine (unhide C1).mono ?_; rintro e w1 ⟨v1, rfl, o1, b1⟩; obtain ⟨a1', d1, rfl⟩ := own_shape o1; have O1 := hide o1; have B1 := hide b1; clear o1 b1)
    | (go_at_call 18; refine (mUnify_any a1' a2' d1 d2 x y w3 (own_nodesAt (own_below O1.out (Bl.trans B2.out B3.out) (Nat.le_refl _)) HF1.out (nd_short H1.out)) (own_nodesAt (own_below O2.out B3.out (Nat.le_refl _)) HF2.out (nd_short H2.out)) (HT.out.below (Bl.trans BW2.out B3.out) (Nat.le_refl _))).mono ?_; rintro e w4 ⟨v4, y4, e4, rfl, r4⟩; obtain ⟨l4, u4, o4, q4, s4⟩ := r4.out; obtain ⟨a4', d4, rfl⟩ := own_shape o4; have O4 := hide o4; have U4 := hide u4; have B4 := hide r4.low; clear o4 u4 q4 s4 r4)
    | (go_at_call 18; refine (mUnify_any a1' a2' d1 d2 x y w2 (own_nodesAt (own_below O1.out B2.out (Nat.le_refl _)) HF1.out (nd_short H1.out)) (own_nodesAt O2.out HF2.out (nd_short H2.out)) (HT.out.below BW2.out (Nat.le_refl _))).mono ?_; rintro e w3 ⟨v3, y3, e3, rfl, r3⟩; obtain ⟨l3, u3, o3, q3, s3⟩ := r3.out; obtain ⟨a3', d3, rfl⟩ := own_shape o3; have O3 := hide o3; have U3 := hide u3; have Q3 := hide q3; have S3 := hide s3; have B3 := hide r3.low; clear o3 u3 q3 s3 r3)
    | (go_at_call 19; refine (rUnify_any a1 a2 c1 c2 x y w4 (H1.out.below (Bl.trans BW2.out (Bl.trans B3.out B4.out)) (Nat.le_refl _)) (H2.out.below (Bl.trans BW2.out (Bl.trans B3.out B4.out)) (Nat.le_refl _))).mono ?_; rintro e w5 ⟨v5, y5, e5, rfl, r5⟩; obtain ⟨l5, u5, o5, q5, s5⟩ := r5.out; obtain ⟨h51, h52, h53⟩ := out_one U3.out u5; obtain ⟨h41, h42, h43⟩ := out_one U4.out u5; subst h51; subst h52; subst h53; subst h41; subst h42; subst h43; obtain ⟨a5', d5, rfl⟩ := own_shape o5; have O5 := hide o5; have B5 := hide r5.low; clear o5 u5 q5 s5 r5)
    | (go_at_call 20; refine (same_self a2' a2 d2 c2 y w8 (own_nodesAt (own_below O2.out (Bl.trans B3.out (Bl.trans B4.out (Bl.trans B5.out (Bl.trans B6.out (Bl.trans B7.out B8.out))))) (Nat.le_refl _)) HF2.out (nd_short H2.out)) (H2.out.below (Bl.trans BW2.out (Bl.trans B3.out (Bl.trans B4.out (Bl.trans B5.out (Bl.trans B6.out (Bl.trans B7.out B8.out)))))) (Nat.le_refl _))).mono ?_; rintro e w9 ⟨rfl, b9⟩; have B9 := hide b9; clear b9)
    | (go_at_call 20; refine (same_self a1' a1 d1 c1 x w7 (own_nodesAt (own_below O1.out (Bl.trans B2.out (Bl.trans B3.out (Bl.trans B4.out (Bl.trans B5.out (Bl.trans B6.out B7.out))))) (Nat.le_refl _)) HF1.out (nd_short H1.out)) (H1.out.below (Bl.trans BW2.out (Bl.trans B3.out (Bl.trans B4.out (Bl.trans B5.out (Bl.trans B6.out B7.out))))) (Nat.le_refl _))).mono ?_; rintro e w8 ⟨rfl, b8⟩; have B8 := hide b8; clear b8)
    | (go_at_call 20; refine (same_self a4' a5' d4 d5 _ w6 (own_nodesAt (own_below O4.out (Bl.trans B5.out B6.out) (Nat.le_refl _)) (Nat.le_trans Q3.out (by decide)) S3.out) (own_nodesAt (own_below O5.out B6.out (Nat.le_refl _)) (Nat.le_trans Q3.out (by decide)) S3.out)).mono ?_; rintro e w7 ⟨rfl, b7⟩; have B7 := hide b7; clear b7)
    | (go_at_call 20; refine (same_self a3' a5' d3 d5 _ w5 (own_nodesAt (own_below O3.out (Bl.trans B4.out B5.out) (Nat.le_refl _)) (Nat.le_trans Q3.out (by decide)) S3.out) (own_nodesAt O5.out (Nat.le_trans Q3.out (by decide)) S3.out)).mono ?_; rintro e w6 ⟨rfl, b6⟩; have B6 := hide b6; clear b6))
  have hE : ∀ x ∈ E, ∀ g, x.1.ownBlock = some g → g < w.heap.size := fun x hx => (H.out.mks x hx).lt
  have s1 := B1.out.size
  have s2 := B2.out.size
  have s3 := B3.out.size
  have s4 := B4.out.size
  have b49 := Bl.trans B5.out (Bl.trans B6.out (Bl.trans B7.out (Bl.trans B8.out B9.out)))
  have b39 := Bl.trans B4.out b49
  have b29 := Bl.trans B3.out b39
  have b19 := Bl.trans B2.out b29
  have bw9 := Bl.trans B1.out b19
  have s9 := b49.size
  have BK9 := hide (H.out.below bw9)
  have WL := hide (Waits.start hE (Nat.le_trans s1 s2) O3.out b39)
  have WK := hide (Waits.start hE (Nat.le_trans s1 (Nat.le_trans s2 s3)) O4.out b49)
  have WO := hide (Waits.start hE (Nat.le_refl _) O1.out b19)
  have WT := hide (Waits.start hE s1 O2.out b29)
  have BW9 := hide bw9
  have hl4 := Q3.out
  have hx4 := HF1.out
  have hy4 := HF2.out
  clear hE b49 b39 b29 b19 bw9 O1 O2 O3 O4 O5 B1 B2 B3 B4 B5 B6 B7 B8 B9 U3 U4 H1 H2 HT Z2 C1
  go_wp2_with (first
    | (go_at_call 21; refine (owns_wait WT3.out R3.out.book (by omega) (by omega) hy4 (by simp [L1, L2, L3]; omega) (by omega)).mono ?_; rintro e w13 ⟨nv4, mv4, E4, rfl, r⟩; have R4 := hide r; clear r)
    | (go_at_call 21; refine (owns_wait WO2.out R2.out.book (by omega) (by omega) hx4 (by simp [L1, L2]; omega) (by omega)).mono ?_; rintro e w12 ⟨nv3, mv3, E3, rfl, r⟩; have R3 := hide r; have L3 := r.len; have t3 := r.far.size; have WT3 := hide (WO2.out.next WT2.out (Or.inl (Nat.le_refl _)) R2.out.book r); clear r)
    | (go_at_call 21; refine (owns_wait WK1.out R1.out.book (by omega) (by omega) (by omega) (by simp [L1]; omega) (by omega)).mono ?_; rintro e w11 ⟨nv2, mv2, E2, rfl, r⟩; have R2 := hide r; have L2 := r.len; have t2 := r.far.size; have WO2 := hide (WK1.out.next WO1.out (Or.inr (by omega)) R1.out.book r); have WT2 := hide (WK1.out.next WT1.out (Or.inr (by omega)) R1.out.book r); clear r)
    | (go_at_call 21; refine (owns_wait WL.out BK9.out (by omega) (by omega) (by omega) (by omega) (by omega)).mono ?_; rintro e w10 ⟨nv1, mv1, E1, rfl, r⟩; have R1 := hide r; have L1 := r.len; have t1 := r.far.size; have WK1 := hide (WL.out.next WK.out (Or.inl (Nat.le_refl _)) BK9.out r); have WO1 := hide (WL.out.next WO.out (Or.inr (by omega)) BK9.out r); have WT1 := hide (WL.out.next WT.out (Or.inr (by omega)) BK9.out r); clear r)
    | (go_at_call 16; refine (num_any _ _).mono ?_; rintro e wn ⟨rfl, rfl⟩))
  go_ret
  refine ⟨nv4, mv4, E1 ++ E2 ++ E3 ++ E4, rfl, ⟨?_, ?_, ?_⟩⟩
  · have := R4.out.book
    rw [show next - 1 - 1 - 1 - 1 = next - 4 by omega] at this
    simpa [List.append_assoc] using this
  · simp [R1.out.len, R2.out.len, R3.out.len, R4.out.len]
  · have low : ∀ {w w' : World} {nv mv v nv' mv' : Value} {E E' : List (Value × Int)} {next : Int} {lo hi : Nat} {l : List Nd}, BookIn w B bk nv mv E next → Waits w E v lo hi l → B ≤ lo → B ≤ w.heap.size → OwR w B bk nv mv v E next w' nv' mv' E' → Below B w w' := fun hb hw hl hB r => r.far.low hb.high (fun k e => (own_lt hb.rn k e).1) (fun k e => (own_lt hb.rm k e).1) (fun k e => Nat.le_trans hl (own_lt hw.own k e).1) hB
    exact (BW9.out.mono hB).trans ((low BK9.out WL.out (by omega) (by omega) R1.out).trans ((low R1.out.book WK1.out (by omega) (by omega) R2.out).trans ((low R2.out.book WO2.out (by omega) (by omega) R3.out).trans (low R3.out.book WT3.out (by omega) (by omega) R4.out))))

end Go.Proofs.YtjnddclkdofgdaaDoor

namespace Go.Proofs.YtjnddclkdofgdaaDoor
open Go.RowKit Go.Shelf Go.WideMaps
set_option maxRecDepth 100000

theorem Marks.view {w : World} {v : Value} {m : Int} (h : Marks w v m) : ∃ a n c, v = .slice a n c ∧ n ≤ 5864062014809 ∧ ∀ k, k < n → ∃ g, a = some ⟨g, 0, none⟩ ∧ w.cell? ⟨g, k * 2, none⟩ = some (.string ⟨#[35]⟩) ∧ w.cell? ⟨g, k * 2 + 1, none⟩ = some (.int .i64 m) := by
  rcases h with rfl | ⟨g, n, c, cur, rfl, hh, hk, hn⟩
  · exact ⟨none, 0, 0, rfl, by omega, fun k hk => by omega⟩
  · refine ⟨_, n, c, rfl, hn, fun k hkn => ⟨g, rfl, ?_, ?_⟩⟩
    · simp [World.cell?, hh, (hk k hkn).1]
    · simp [World.cell?, hh, (hk k hkn).2]
theorem row_vals {w : World} {B : Nat} {e : TypeId} {v : Value} {n : Nat} {xs : List Value} (h : w.ownsRow B e 1 v n xs) : ∃ a cap, v = .slice a n cap ∧ ∀ k x, xs[k]? = some x → ∃ g, a = some ⟨g, 0, none⟩ ∧ w.cell? ⟨g, k, none⟩ = some x := by
  obtain ⟨h1, ⟨rfl, h2⟩ | ⟨g, cap, cur, rfl, hb, hh, hc, hm, hz, ht⟩⟩ := h
  · refine ⟨none, 0, by rw [h2], fun k x hx => ?_⟩
    have := (List.getElem?_eq_some_iff.1 hx).1
    omega
  · have ho : w.ownsRow B e 1 (.slice (some ⟨g, 0, none⟩) n cap) n xs := ⟨h1, Or.inr ⟨g, cap, cur, rfl, hb, hh, hc, hm, hz, ht⟩⟩
    refine ⟨_, _, rfl, fun k x hx => ⟨g, rfl, ?_⟩⟩
    have hk := (List.getElem?_eq_some_iff.1 hx).1
    rw [ho.cellAt k (by omega), hx]
theorem BookIn.cn {w : World} {B bk : Nat} {nv mv : Value} {E : List (Value × Int)} {next : Int} (h : BookIn w B bk nv mv E next) : w.cell? ⟨bk, 2, none⟩ = some (.slice none 0 0) ∧ w.cell? ⟨bk, 3, none⟩ = some (.slice none 0 0) ∧ w.cell? ⟨bk, 4, none⟩ = some (.slice none 0 0) ∧ w.cell? ⟨bk, 6, none⟩ = some (.slice none 0 0) := by
  refine ⟨?_, ?_, ?_, ?_⟩ <;> simp [World.cell?, h.box]

theorem bookreads_any (B bk : Nat) (nv mv : Value) (E : List (Value × Int)) (next : Int) (w : World) (h : BookIn w B bk nv mv E next) :
    Calls Tryd.prog 23 #[.pointer (some ⟨bk, 0, none⟩)] w fun e w' => e = .returned (.bool true) ∧ ∃ d, w' = w.drewN d := by
  obtain ⟨n2, n3, n4, n6⟩ := h.cn
  clear h n2 n3
  go_enter Tryd.func23, Tryd.ntmps23
  go_wp2
  go_loopw [3] (fun i wr => i = .int .i64 0 ∧ wr = w) (fun _ _ => 0)
  case atStart => exact ⟨rfl, rfl⟩
  case round =>
    obtain ⟨rfl, rfl⟩ := hrel
    go_wp2
    go_loopw [6] (fun i wx => i = .int .i64 0 ∧ wx = wr) (fun _ _ => 0)
    case atStart => exact ⟨rfl, rfl⟩
    case round =>
      obtain ⟨rfl, rfl⟩ := hrel
      go_wp2
      go_ret
      exact ⟨rfl, 0, rfl⟩

set_option maxHeartbeats 4000000 in
theorem looks_any (B bk : Nat) (nv mv : Value) (E : List (Value × Int)) (next : Int) (w : World) (h : BookIn w B bk nv mv E next) :
    Calls Tryd.prog 9 #[.pointer (some ⟨bk, 0, none⟩)] w fun e w' => e = .returned (.bool true) ∧ ∃ d, w' = w.drewN d := by
  obtain ⟨n2, n3, n4, n6⟩ := h.cn
  have c0 := h.c0
  have c1 := h.c1
  have hfew := h.few
  obtain ⟨na, nc, rfl, hN⟩ := row_vals h.rn
  obtain ⟨ma, mc, rfl, hM⟩ := row_vals h.rm
  have HN := hide hN
  have HM := hide hM
  have H := hide h
  have CR := hide (fun d => bookreads_any B bk _ _ E next (w.drewN d) (h.below (below_drawn ⟨d, rfl⟩)))
  clear h hN hM n4 n6
  go_enter Tryd.func9, Tryd.ntmps9
  go_wp2
  go_loopw [3] (fun c wr => ∃ i : Nat, i ≤ E.length ∧ c = .int .i64 i ∧ ∃ d, wr = w.drewN d) (fun c _ => E.length - (intOf c).toNat)
  case atStart => exact ⟨0, Nat.zero_le _, rfl, 0, rfl⟩
  case round =>
    obtain ⟨i, hi, rfl, d, rfl⟩ := hrel
    by_cases hlt : i < E.length
    · have hlti : (i : Int) < (E.length : Int) := by omega
      obtain ⟨gn, rfl, e0⟩ := HN.out i E[i].1 (by simp [hlt])
      obtain ⟨gm, rfl, e1⟩ := HM.out i (.int .i64 E[i].2) (by simp [hlt])
      obtain ⟨a, n, c, hv, hn, hc⟩ := (H.out.mks E[i] (List.getElem_mem _)).view
      rw [hv] at e0
      generalize E[i].2 = m at *
      have HC := hide hc
      clear hv hc
      go_wp2
      go_loopw [4] (fun c wr => ∃ k : Nat, k ≤ n ∧ c = .int .i64 k ∧ ∃ d, wr = w.drewN d) (fun c _ => n - (intOf c).toNat)
      case atStart => exact ⟨0, Nat.zero_le _, rfl, d, rfl⟩
      case round =>
        obtain ⟨k, hk, rfl, d', rfl⟩ := hrel
        by_cases hkn : k < n
        · have hkni : (k : Int) < (n : Int) := by omega
          obtain ⟨g, rfl, f0, f1⟩ := HC.out k hkn
          have hnb := nodeB_eq (⟨#[35]⟩, m) (⟨#[35]⟩, m)
          have g9 := guard27
          have q9 := eqNode ⟨#[35]⟩ ⟨#[35]⟩ m m
          rw [decide_eq_true rfl] at hnb
          simp only at hnb
          go_wp2
          go_quiet (fail)
          go_wp2
          go_roundw
          case rel => exact ⟨k + 1, by omega, by go_num, (by first | exact draw2 _ _ _ | exact ⟨_, rfl⟩)⟩
          case measure => simp [intOf]; omega
        · have hkn' : k = n := by omega
          subst hkn'
          go_wp2
          go_roundw
          case rel => exact ⟨i + 1, by omega, by go_num, (by first | exact draw2 _ _ _ | exact ⟨_, rfl⟩)⟩
          case measure => simp [intOf]; omega
    · have hie : i = E.length := by omega
      subst hie
      go_wp2
      go_loopw [5] (fun c wr => c = .int .i64 0 ∧ wr = w.drewN d) (fun _ _ => 0)
      case atStart => exact ⟨rfl, rfl⟩
      case round =>
        obtain ⟨rfl, rfl⟩ := hrel
        go_wp2
        go_loopw [9] (fun c wr => c = .int .i64 0 ∧ wr = w.drewN d) (fun _ _ => 0)
        case atStart => exact ⟨rfl, rfl⟩
        case round =>
          obtain ⟨rfl, rfl⟩ := hrel
          go_wp2_with (go_at_call 23; refine (unhide CR d).mono ?_; rintro e w2 ⟨rfl, d2, rfl⟩)
          go_ret
          exact ⟨rfl, (by first | exact draw2 _ _ _ | exact ⟨_, rfl⟩)⟩

end Go.Proofs.YtjnddclkdofgdaaDoor

namespace Go.Proofs.YtjnddclkdofgdaaDoor
open Go.RowKit Go.Shelf Go.WideMaps
set_option maxRecDepth 100000

theorem book_new (w : World) : BookIn (w.alloc (.cells (bookC (.slice none 0 0) (.slice none 0 0) 0) 40)) w.heap.size w.heap.size (.slice none 0 0) (.slice none 0 0) [] 0 :=
  ⟨heap_alloc_new _ _, Nat.le_refl _, World.ownsRow_nil _ _ _ _, World.ownsRow_nil _ _ _ _, fun x hx => by simp at hx, by simp, by omega, by omega⟩
/-- The world with the book and the two known terms. -/
abbrev knownU (w : World) : World := ((w.alloc (.cells (bookC (.slice none 0 0) (.slice none 0 0) 0) 40)).alloc (.cells #[.string ⟨#[102]⟩, .int .i64 1, .string ⟨#[]⟩, .int .i64 3] 27)).alloc (.cells #[.string ⟨#[]⟩, .int .i64 7] 27)
theorem knownU_below (w : World) : Below w.heap.size w (knownU w) := (((Below.refl _ _).alloc (Nat.le_refl _) _).alloc (by simp) _).alloc (by simp; omega) _
theorem knownU_book (w : World) : BookIn (knownU w) w.heap.size w.heap.size (.slice none 0 0) (.slice none 0 0) [] 0 :=
  (book_new w).below (((Below.refl _ _).alloc (Nat.le_refl _) _).alloc (by simp) _)
theorem knownU_one (w : World) : NodesIn (knownU w) (some ⟨w.heap.size + 1, 0, none⟩) [(⟨#[102]⟩, 1), (⟨#[]⟩, 3)] := by
  have hh : (knownU w).heap[w.heap.size + 1]? = some (.cells #[.string ⟨#[102]⟩, .int .i64 1, .string ⟨#[]⟩, .int .i64 3] 27) := by
    have hs : (w.alloc (.cells (bookC (.slice none 0 0) (.slice none 0 0) 0) 40)).heap.size = w.heap.size + 1 := by simp
    have h := heap_alloc_new (w.alloc (.cells (bookC (.slice none 0 0) (.slice none 0 0) 0) 40)) (.cells #[.string ⟨#[102]⟩, .int .i64 1, .string ⟨#[]⟩, .int .i64 3] 27)
    rw [hs] at h
    exact heap_old h
  refine ⟨by simp, fun k hk => ?_, fun k hk => ⟨w.heap.size + 1, 0, rfl, ?_⟩⟩
  · match k, hk with
    | 0, _ => exact Nat.le_of_ble_eq_true rfl
    | 1, _ => exact Nat.le_of_ble_eq_true rfl
  · match k, hk with
    | 0, _ => exact ⟨by unfold World.cell?; rw [hh]; rfl, by unfold World.cell?; rw [hh]; rfl⟩
    | 1, _ => exact ⟨by unfold World.cell?; rw [hh]; rfl, by unfold World.cell?; rw [hh]; rfl⟩
theorem knownU_two (w : World) : NodesIn (knownU w) (some ⟨w.heap.size + 2, 0, none⟩) [(⟨#[]⟩, 7)] := by
  have hh : (knownU w).heap[w.heap.size + 2]? = some (.cells #[.string ⟨#[]⟩, .int .i64 7] 27) := by
    have hs : ((w.alloc (.cells (bookC (.slice none 0 0) (.slice none 0 0) 0) 40)).alloc (.cells #[.string ⟨#[102]⟩, .int .i64 1, .string ⟨#[]⟩, .int .i64 3] 27)).heap.size = w.heap.size + 2 := by simp
    have h := heap_alloc_new ((w.alloc (.cells (bookC (.slice none 0 0) (.slice none 0 0) 0) 40)).alloc (.cells #[.string ⟨#[102]⟩, .int .i64 1, .string ⟨#[]⟩, .int .i64 3] 27)) (.cells #[.string ⟨#[]⟩, .int .i64 7] 27)
    rw [hs] at h
    exact h
  refine ⟨by simp, fun k hk => ?_, fun k hk => ⟨w.heap.size + 2, 0, rfl, ?_⟩⟩
  · match k, hk with
    | 0, _ => exact Nat.le_of_ble_eq_true rfl
  · match k, hk with
    | 0, _ => exact ⟨by unfold World.cell?; rw [hh]; rfl, by unfold World.cell?; rw [hh]; rfl⟩

set_option maxHeartbeats 1000000 in
theorem lunifies_any (a1 a2 : Option Addr) (c1 c2 : Nat) (x y : List Nd) (w : World) (h1 : NodesIn w a1 x) (h2 : NodesIn w a2 y) (z1 : a1 = none → c1 = 0) (z2 : a2 = none → c2 = 0) (hT : Tabs w) :
    Calls Tryd.prog 4 #[.slice a1 x.length c1, .slice a2 y.length c2] w fun e w' => e = .returned (.bool true) ∧ Below w.heap.size w w' := by
  have CK : Hid (Calls Tryd.prog 8 #[.pointer (some ⟨w.heap.size, 0, none⟩), .slice (some ⟨w.heap.size + 1, 0, none⟩) 2 2, .slice (some ⟨w.heap.size + 2, 0, none⟩) 1 1] (knownU w) fun e w' => ∃ nv' mv' E', e = .returned (.bool true) ∧ LuR (knownU w) w.heap.size w.heap.size [] 0 w' nv' mv' E') :=
    hide (lunify_any w.heap.size w.heap.size _ _ [] 0 (some ⟨w.heap.size + 1, 0, none⟩) (some ⟨w.heap.size + 2, 0, none⟩) 2 1 [(⟨#[102]⟩, 1), (⟨#[]⟩, 3)] [(⟨#[]⟩, 7)] (knownU w) (knownU_book w) (knownU_below w).size (knownU_one w) (knownU_two w) (by simp) (by simp) (hT.below (knownU_below w) (Nat.le_refl _)) (by simp) (by omega))
  have CL := hide (fun (nv mv : Value) (E : List (Value × Int)) (next : Int) (wx : World) (hb : BookIn wx w.heap.size w.heap.size nv mv E next) (hx : Below w.heap.size w wx) (hf : E.length ≤ 500) (hn : -500 ≤ next) => lunify_any w.heap.size w.heap.size nv mv E next a1 a2 c1 c2 x y wx hb hx.size (h1.below hx (Nat.le_refl _)) (h2.below hx (Nat.le_refl _)) z1 z2 (hT.below hx (Nat.le_refl _)) hf hn)
  have CR := hide (fun (nv mv : Value) (E : List (Value × Int)) (next : Int) (wx : World) (hb : BookIn wx w.heap.size w.heap.size nv mv E next) (hx : Below w.heap.size w wx) (hf : E.length ≤ 500) (hn : -500 ≤ next) => lunify_any w.heap.size w.heap.size nv mv E next a2 a1 c2 c1 y x wx hb hx.size (h2.below hx (Nat.le_refl _)) (h1.below hx (Nat.le_refl _)) z2 z1 (hT.below hx (Nat.le_refl _)) hf hn)
  have HK := hide (knownU_below w)
  clear h1 h2 z1 z2 hT
  go_enter Tryd.func4, Tryd.ntmps4
  go_wp2_with (first
    | (go_at_call 8; refine (unhide CR nv2 mv2 _ _ w2 R2.out.book B2.out (by simp [L1, L2]) (by omega)).mono ?_; rintro e w3 ⟨nv3, mv3, E3, rfl, r⟩; have R3 := hide r; have B3 := hide (B2.out.trans r.low); clear r)
    | (go_at_call 8; refine (unhide CL nv1 mv1 _ _ w1 R1.out.book B1.out (by simp [L1]) (by omega)).mono ?_; rintro e w2 ⟨nv2, mv2, E2, rfl, r⟩; have R2 := hide r; have L2 := r.len; have B2 := hide (B1.out.trans r.low); clear r)
    | (go_at_call 8; refine (unhide CK).mono ?_; rintro e w1 ⟨nv1, mv1, E1, rfl, r⟩; have R1 := hide r; have L1 := r.len; have B1 := hide (HK.out.trans r.low); clear r)
    | (go_at_call 9; refine (looks_any _ _ _ _ _ _ w3 R3.out.book).mono ?_; rintro e w4 ⟨rfl, hd⟩; have B4 := hide (B3.out.trans ((below_drawn hd).mono B3.out.size)); clear hd))
  go_ret
  exact ⟨rfl, B4.out⟩

end Go.Proofs.YtjnddclkdofgdaaDoor
