/- The program: what the term at a place was made. The program: two terms are made the same. -/
import Derived.Test.YtjnddclkdofgdaaDoorUWr
import Derived.Test.YtjnddclkdofgdaaDoorUSame2
import Derived.Lib.SliceRun
namespace Go.Proofs.YtjnddclkdofgdaaDoor
open Go.RowKit Go.Shelf Go.WideMaps
set_option maxRecDepth 100000
attribute [local go_sem] Oper.semAt_some

theorem own_base {w : World} {B B' : Nat} {e : TypeId} {size : Nat} {v : Value} {n : Nat} {xs : List Value} (h : w.ownsRow B' e size v n xs) (hB : B ≤ B') : w.ownsRow B e size v n xs := by
  obtain ⟨h1, ⟨rfl, h2⟩ | ⟨g, cap, cur, rfl, hb, hr⟩⟩ := h
  · exact ⟨h1, Or.inl ⟨rfl, h2⟩⟩
  · exact ⟨h1, Or.inr ⟨g, cap, cur, rfl, Nat.le_trans hB hb, hr⟩⟩
/-- What Made answers. -/
structure MRes (w : World) (B tb : Nat) (vn ve vl vs vm : Value) (L : List Nd) (F : List Nat) (S : List Int) (rt : Nat → Nat) (a : Nat) (v : Value) (b : Bool) (w' : World) (S' : List Int) : Prop where
  tm : TmIn w' B tb vn ve vl vs vm L F S'
  far : w.grownBy w' vs.ownBlock
  keep : Ends (pgr L) (fun i j => rt i = rt j) a → SzOk L rt S' ∧ ∀ p : Nat, S'[p]? = some (-1) ↔ S[p]? = some (-1)
  yes : b = true → Ends (pgr L) (fun i j => rt i = rt j) a ∧ v.ownBlock ≠ none ∧ ∃ l, Exp (pgr L) (fun i j => rt i = rt j) rt [a] l ∧ l.length ≤ 500 ∧ w'.ownsRow w.heap.size 27 2 v l.length (nodeCells l)
  no : b = false → v = .slice none 0 0 ∧ (¬ Ends (pgr L) (fun i j => rt i = rt j) a ∨ ∃ l, Exp (pgr L) (fun i j => rt i = rt j) rt [a] l ∧ 500 < l.length)

set_option maxHeartbeats 1000000 in
theorem uMade_any (B tb : Nat) (vn ve vl vs vm : Value) (L : List Nd) (F : List Nat) (rt d : Nat → Nat) (hL : Whole L) (hF : Forest F rt d) (hN : NamedRoot L rt) (hC : ClMod (pgr L) (fun i j => rt i = rt j) fun _ _ => False) (S : List Int) (a : Nat) (w : World) (h : TmIn w B tb vn ve vl vs vm L F S) (hS : SzOk L rt S) (hR : ∀ r : Nat, S[r]? = some (-1) → Rch (pgr L) (fun i j => rt i = rt j) r a) (ha : a < L.length) :
    Calls Tryd.prog 59 #[.pointer (some ⟨tb, 0, none⟩), .int .i64 a] w fun e w' => ∃ v b S', e = .returned (.tuple #[v, .bool b]) ∧ MRes w B tb vn ve vl vs vm L F S rt a v b w' S' := by
  have CS := hide (uSize_any B tb vn ve vl vs vm L F rt d hL hF hN hC (zerosN S + 1) S a w (by omega) h hS hR ha)
  have HC := hide hC
  have HF := hide hF
  have HN := hide hN
  have HVS := hide h.rs
  clear h hS hR hC hF hN
  obtain ⟨iN, hN, hN0, hN1, hN2⟩ := info_parts infoNode
  go_enter Tryd.func59, Tryd.ntmps59
  go_upto_region 2 with (first
    | (go_at_call 82; refine (unhide CS).mono ?_; rintro e w1 ⟨n, b, S1, rfl, hres⟩)
    | go_in)
  clear CS
  cases b with
  | false =>
    obtain ⟨rfl, hno⟩ := hres.no rfl
    have HRES := hide hres
    clear hres
    go_wp2
    go_ret2
    refine ⟨.slice none 0 0, false, S1, rfl, ⟨HRES.out.tm, HRES.out.far, fun e => absurd e hno, fun e => (by cases e), fun _ => ⟨rfl, Or.inl hno⟩⟩⟩
  | true =>
    obtain ⟨k1, k2, k3, l, k4, k5⟩ := hres.yes rfl
    obtain ⟨k, hk⟩ : ∃ k, k = min 501 l.length := ⟨_, rfl⟩
    rw [← hk] at k5
    subst k5
    have HRES := hide hres
    have HK1 := hide k1
    have HK2 := hide k2
    have HK3 := hide k3
    have HK4 := hide k4
    have HKL := hide hk
    clear hres k1 k2 k3 k4 hk
    by_cases hbig : 500 < k
    · have hbi : (500 : Int) < (k : Int) := by omega
      go_wp2
      go_ret2
      refine ⟨.slice none 0 0, false, S1, rfl, ⟨HRES.out.tm, HRES.out.far, fun _ => ⟨HK1.out, HK2.out⟩, fun e => (by cases e), fun _ => ⟨rfl, Or.inr ⟨l, HK4.out, by have := HKL.out; omega⟩⟩⟩⟩
    · have hbi : ¬ (500 : Int) < (k : Int) := by omega
      have hkl : k = l.length := by have := HKL.out; omega
      subst hkl
      have hl5 : l.length ≤ 500 := by omega
      have HWR := hide (fun (w2 : World) (ho : w2.ownsRow w1.heap.size 27 2 (.slice (some ⟨w1.heap.size, 0, none⟩) 0 l.length) 0 []) (hg : w1.grownBy w2 none) => uWrite_any B tb vn ve vl vs vm L F S1 rt d hL HF.out HN.out HC.out w1 HRES.out.tm w1.heap.size (Nat.le_refl _) (l.length + 1) a l [] _ w2 (by omega) HK4.out (HRES.out.tm.grown hg (by simp) (by cases vn.ownBlock <;> simp) (by cases ve.ownBlock <;> simp) (by cases vl.ownBlock <;> simp) (by cases vs.ownBlock <;> simp)) ho (by simp [Value.ownBlock]) hg.size (by have := Nat.mul_le_mul hl5 hl5; simp; omega) ha)
      go_wp2_with (first
        | (at_make; refine wpList_make_own _ rfl _ _ 28 rfl w1.heap.size 27 iN (.agg #[.string ⟨#[]⟩, .int .i64 0]) 2 Tryd.underlying28 hN hN0 hN1 .i64 .i64 _ l.length rfl rfl rfl (by rw [hN2]; omega) (by unfold maxLen; omega) (Nat.le_refl _) ?_; intro w2 ho hg; have HO := hide ho; have HG := hide hg; clear ho hg)
        | (go_at_call 83; refine (unhide HWR w2 HO.out HG.out).mono ?_; rintro e w3 ⟨v3, rfl, hres3⟩; have HR3 := hide hres3; clear hres3)
        | go_in)
      go_ret2
      have hr3 := HR3.out
      have hrow : w3.ownsRow w1.heap.size 27 2 v3 l.length (nodeCells l) := by simpa using hr3.row
      refine ⟨v3, true, S1, rfl, ⟨hr3.tm, ?_, fun _ => ⟨HK1.out, HK2.out⟩, fun _ => ⟨HK3.out, hr3.some, l, HK4.out, hl5, ?_⟩, fun e => (by cases e)⟩⟩
      · have h1 := HRES.out.far
        exact grown_from (grown_from h1 HG.out (fun r e => by cases e)) hr3.far (fun r e => by simp [Value.ownBlock] at e; have := h1.size; omega)
      · exact own_base hrow HRES.out.far.size

end Go.Proofs.YtjnddclkdofgdaaDoor

namespace Go.Proofs.YtjnddclkdofgdaaDoor
open Go.RowKit Go.Shelf Go.WideMaps
set_option maxRecDepth 100000
attribute [local go_sem] Oper.semAt_some

/-- All sizes are unknown again. -/
theorem TmIn.cleared {B tb : Nat} {vn ve vl vm : Value} {L : List Nd} {F : List Nat} {gs cs : Nat} : ∀ (m o : Nat) (w : World) (S : List Int), TmIn w B tb vn ve vl (.slice (some ⟨gs, 0, none⟩) L.length cs) vm L F S → o + m = L.length → (∀ i, i < o → S[i]? = some 0) →
    ∃ S', TmIn (w.setCells gs o (List.replicate m (.int .i64 0))) B tb vn ve vl (.slice (some ⟨gs, 0, none⟩) L.length cs) vm L F S' ∧ (∀ i, i < L.length → S'[i]? = some 0) ∧ w.grownBy (w.setCells gs o (List.replicate m (.int .i64 0))) (some gs) := by
  intro m
  induction m with
  | zero =>
    intro o w S h ho h0
    exact ⟨S, h, fun i hi => h0 i (by omega), World.grownBy.refl _ _⟩
  | succ m ih =>
    intro o w S h ho h0
    obtain ⟨h1, h2⟩ := h.sized o 0
    have hls := h.ls
    obtain ⟨S', k1, k2, k3⟩ := ih (o + 1) _ _ h1 (by omega) (fun i hi => by
      by_cases e : i = o
      · subst e; rw [List.getElem?_set_self (by omega)]
      · rw [List.getElem?_set_ne (fun x => e x.symm)]; exact h0 i (by omega))
    exact ⟨S', k1, k2, h2.trans k3⟩
theorem below_grownB' {w w' : World} {o : Option Nat} {B : Nat} (ho : ∀ g, o = some g → B ≤ g) (hB : B ≤ w.heap.size) (hg : w.grownBy w' o) : Below B w w' :=
  ⟨hg.os, hg.tape, hg.output, hg.size, fun k hk => hg.block k (by omega) (fun e => by have := ho k e.symm; omega)⟩
/-- What Unify answers. -/
structure URes (w : World) (B tb : Nat) (vn ve vl vs vm : Value) (L : List Nd) (rt : Nat → Nat) (a b : Nat) (ok : Bool) (w' : World) : Prop where
  size : w.heap.size ≤ w'.heap.size
  low : Below B w w'
  yes : ok = true ↔ NoClash (pgr L) (Cl (pgr L) fun i j => rt i = rt j ∨ (i = a ∧ j = b)) ∧ Ends (pgr L) (Cl (pgr L) fun i j => rt i = rt j ∨ (i = a ∧ j = b)) a
  st : ok = true → ∃ F' S' rt' d', TmIn w' B tb vn ve vl vs vm L F' S' ∧ Forest F' rt' d' ∧ NamedRoot L rt' ∧ ClMod (pgr L) (fun i j => rt' i = rt' j) (fun _ _ => False) ∧ (∀ i j, rt' i = rt' j ↔ Cl (pgr L) (fun i j => rt i = rt j ∨ (i = a ∧ j = b)) i j) ∧ SzOk L rt' S' ∧ ∀ r : Nat, S'[r]? ≠ some (-1)

set_option maxHeartbeats 1000000 in
theorem uUnify_any (B tb : Nat) (vn ve vl vs vm : Value) (L : List Nd) (F : List Nat) (rt d : Nat → Nat) (hL : Whole L) (hF : Forest F rt d) (hN : NamedRoot L rt) (hC : ClMod (pgr L) (fun i j => rt i = rt j) fun _ _ => False) (S : List Int) (a b : Nat) (w : World) (h : TmIn w B tb vn ve vl vs vm L F S) (ha : a < L.length) (hb : b < L.length) :
    Calls Tryd.prog 58 #[.pointer (some ⟨tb, 0, none⟩), .int .i64 a, .int .i64 b] w fun e w' => ∃ ok : Bool, e = .returned (.bool ok) ∧ URes w B tb vn ve vl vs vm L rt a b ok w' := by
  obtain ⟨gs, cs, n0, rfl, hn0, c1, cf1⟩ := h.size ha
  have hls := h.ls
  have hcl : ∀ ty, (Builtin.clear_ #[34] ty #[.slice (some ⟨gs, 0, none⟩) L.length cs]).run Tryd.prog w = .ok (.tuple #[]) (w.setCells gs 0 (List.replicate L.length (.int .i64 0))) := fun ty =>
    Lib.run_clear_slice w _ 3 ty (.int .i64 0) Tryd.underlying34 (fun w => by obtain ⟨iI, hI, hI0, hI1, hI2⟩ := info_parts infoInt; simp [zeroValue, typeInfo, hI, hI0]) rfl rfl gs 0 _ _ (by omega) (fun j hj => by
      obtain ⟨g', c', n', e1, e2, e3, e4⟩ := h.size hj
      simp at e1
      obtain ⟨rfl, _⟩ := e1
      rw [Nat.zero_add, e3]; rfl) (fun j hj => by
      obtain ⟨g', c', n', e1, e2, e3, e4⟩ := h.size hj
      simp at e1
      obtain ⟨rfl, _⟩ := e1
      rw [Nat.zero_add, e4])
  obtain ⟨S1, h1, h2, h3⟩ := TmIn.cleared L.length 0 w S h (by omega) (fun i hi => by omega)
  have c3 := h.c3
  clear c1 cf1 hn0 hls
  generalize w.setCells gs 0 (List.replicate L.length (.int .i64 0)) = w1 at *
  have CJ := hide (uJoin_any B tb vn ve vl _ vm L S1 hL (rootsN F + 1) F rt d a b w1 (by omega) h1 hF hN ha hb)
  have HH := hide h
  have H2 := hide h2
  have H3 := hide h3
  have HC := hide hC
  have HRB := hide (own_lt h.rs gs rfl).1
  clear h h1 h2 h3 hF hN hC
  go_enter Tryd.func58, Tryd.ntmps58
  go_wp2_with (first
    | (go_at_call 81; refine (unhide CJ).mono ?_)
    | go_in)
  rintro e w2 ⟨ok, F2, rt2, d2, rfl, hres⟩
  clear CJ hcl c3
  have hbl : ∀ w3, w2.grownBy w3 (some gs) → Below B w w3 := fun w3 hg => by
    have hB : B ≤ w.heap.size := Nat.le_trans HRB.out (Nat.le_of_lt (own_lt HH.out.rs gs rfl).2)
    have s1 := H3.out.size
    have s2 := hres.far.size
    exact ((below_grownB' (fun g e => by simp at e; subst e; exact HRB.out) hB H3.out).trans (below_grownB' (fun g e => (own_lt HH.out.rl g e).1) (by omega) hres.far)).trans (below_grownB' (fun g e => by simp at e; subst e; exact HRB.out) (by omega) hg)
  have hsem := hres.sem (fun i j => rt i = rt j ∨ (i = a ∧ j = b)) (fun _ _ => False) (fun i j e => Cl.base (Or.inl e)) (Cl.base (Or.inr ⟨rfl, rfl⟩)) (HC.out.mono fun _ _ e => e.elim)
  cases ok with
  | false =>
    have HR := hide (hsem.2 rfl)
    have HBL := hide (hbl w2 (World.grownBy.refl _ _))
    clear hres hsem hbl
    go_wp2
    go_ret
    exact ⟨false, rfl, HBL.out.size, HBL.out, ⟨fun e => (by cases e), fun e => absurd e.1 HR.out⟩, fun e => (by cases e)⟩
  | true =>
    obtain ⟨j1, j2, j3⟩ := hsem.1 rfl
    obtain ⟨k1, k2⟩ := j3.done (isEq_rt rt2) j2 (fun i j e => by
      rcases e with e | ⟨rfl, rfl⟩
      · exact hres.mono i j e
      · exact j1)
    have hz : ∀ r : Nat, S1[r]? ≠ some (-1) := fun r e => by
      have hr := (List.getElem?_eq_some_iff.1 e).1
      rw [hres.tm.ls] at hr
      rw [H2.out r hr] at e
      cases e
    have CS := hide (uSize_any B tb vn ve vl _ vm L F2 rt2 d2 hL hres.forest hres.named j3 (zerosN S1 + 1) S1 a w2 (by omega) hres.tm (fun p n e => by
      have hr := (List.getElem?_eq_some_iff.1 e).1
      rw [hres.tm.ls] at hr
      rw [H2.out p hr] at e
      simp at e
      exact Or.inl e.symm) (fun r e => absurd e (hz r)) ha)
    have HK1 := hide k1
    have HK2 := hide k2
    have HJ3 := hide j3
    have HZ := hide hz
    have HBL := hide hbl
    have HRES := hide hres
    clear hres hsem hbl j1 j2 j3 k1 k2 hz
    go_wp2_with (first
      | (go_at_call 82; refine (unhide CS).mono ?_; rintro e w3 ⟨n, bs, S3, rfl, hsz⟩; have HSZ := hide hsz; clear hsz)
      | go_in)
    go_ret
    have hsz := HSZ.out
    have hlow := HBL.out w3 hsz.far
    have hie : ∀ i, Ends (pgr L) (fun i j => rt2 i = rt2 j) i ↔ Ends (pgr L) (Cl (pgr L) fun i j => rt i = rt j ∨ (i = a ∧ j = b)) i := fun i => Ends.iff HK1.out
    refine ⟨bs, rfl, hlow.size, hlow, ?_, ?_⟩
    · cases bs with
      | true => exact ⟨fun _ => ⟨HK2.out, (hie a).1 (hsz.yes rfl).2.2.1⟩, fun _ => rfl⟩
      | false => exact ⟨fun e => (by cases e), fun e => absurd ((hie a).2 e.2) (hsz.no rfl).2⟩
    · rintro rfl
      obtain ⟨z1, z2, z3, z4⟩ := hsz.yes rfl
      exact ⟨F2, S3, rt2, d2, hsz.tm, HRES.out.forest, HRES.out.named, HJ3.out, HK1.out, z1, fun r e => HZ.out r ((z2 r).1 e)⟩

end Go.Proofs.YtjnddclkdofgdaaDoor
