/- Covers held against the document's own answer. -/
import Derived.Test.YtjnddclkdofgdaaDoorRCov6
import Derived.Test.YtjnddclkdofgdaaDoorPCopy
namespace Go.Proofs.YtjnddclkdofgdaaDoor
open Go.RowKit Go.Shelf
set_option maxRecDepth 100000

theorem own_len {w : World} {B : Nat} {e : TypeId} {size n m cap : Nat} {a : Option Addr} {xs : List Value} (h : w.ownsRow B e size (.slice a m cap) n xs) : n ≤ cap ∧ m = n := by
  obtain ⟨_, ⟨h, h0⟩ | ⟨g, cap', cur, hv, _, _, hc, _⟩⟩ := h
  · obtain ⟨-, rfl, rfl⟩ : a = none ∧ m = 0 ∧ cap = 0 := by simpa using h
    omega
  · obtain ⟨-, rfl, rfl⟩ : a = some ⟨g, 0, none⟩ ∧ m = n ∧ cap = cap' := by simpa using hv
    exact ⟨hc, rfl⟩

set_option maxHeartbeats 1000000 in
theorem lcovers_any (bv : Value) (a1 a2 : Option Addr) (c1 c2 : Nat) (l1 l2 : List Lt) (w : World) (h1 : LitsIn w a1 l1) (h2 : LitsIn w a2 l2) (z1 : NilsIn w a1 l1) (z2 : NilsIn w a2 l2) (k1 : CapsIn w a1 l1) (k2 : CapsIn w a2 l2) (hT : Tabs w) :
    Calls Tryd.prog 11 #[bv, .slice a1 l1.length c1, .slice a2 l2.length c2] w fun e w' => e = .returned (.bool true) ∧ Below w.heap.size w w' := by
  have CC1 := hide (copied_any a1 c1 l1 w h1 z1)
  have HF1 := hide h1.few
  have HS1 := hide h1.shorts
  have HF2 := hide h2.few
  have HS2 := hide h2.shorts
  have H1 := hide h1
  have H2 := hide h2
  have Z2 := hide z2
  have K1 := hide k1
  have K2 := hide k2
  have HT := hide hT
  clear h1 h2 z1 z2 k1 k2 hT
  go_enter Tryd.func11, Tryd.ntmps11
  go_wp2_with (first
    | (go_at_call 13; refine (unhide CC2).mono ?_; rintro e w2 ⟨v2, Q2, rfl, hQ2, ho2, hA2, hb2⟩; obtain ⟨a2', cp2', rfl, hl2⟩ := own_clause hQ2 ho2 hA2 HF2.out HS2.out; have hcp2 : CapsIn w2 a2' l2 := (by have := own_caps ho2 hA2 rfl; rwa [hQ2] at this); have CM := hide (mCovers_any a1' a2' cp1' cp2' l1 l2 w2 (HL1.out.below hb2 (Nat.le_refl _)) hl2 (HK1.out.below HL1.out hb2 (Nat.le_refl _)) hcp2 HC1.out (HT.out.below (HB1.out.trans (hb2.mono hb1s)) (Nat.le_refl _))); have HL1' := hide (HL1.out.below hb2 (Nat.le_refl _)); have HL2 := hide hl2; have HB2 := hide (HB1.out.trans (hb2.mono hb1s)); have hb2s := HB2.out.size; clear hQ2 ho2 hA2 hl2 hcp2 hb2)
    | (go_at_call 13; refine (unhide CC1).mono ?_; rintro e w1 ⟨v1, Q1, rfl, hQ1, ho1, hA1, hb1⟩; obtain ⟨a1', cp1', rfl, hl1⟩ := own_clause hQ1 ho1 hA1 HF1.out HS1.out; have hcp1 : CapsIn w1 a1' l1 := (by have := own_caps ho1 hA1 rfl; rwa [hQ1] at this); have HC1 : Hid (l1.length ≤ cp1') := hide (by have := own_len ho1; omega); have HL1 := hide hl1; have HK1 := hide hcp1; have CC2 := hide (copied_any a2 c2 l2 w1 (H2.out.below hb1 (Nat.le_refl _)) (Z2.out.below H2.out hb1)); have HB1 := hide hb1; have hb1s := hb1.size; clear hQ1 ho1 hA1 hl1 hcp1 hb1)
    | (go_at_call 10; refine (unhide CM).mono ?_; rintro e w3 ⟨r, x, rfl, hr, hb3⟩; have HR := hide hr; have HB3 := hide (HB2.out.trans (hb3.mono hb2s)); have hb3s := HB3.out.size; have HL13 := hide (HL1'.out.below hb3 (Nat.le_refl _)); have HL23 := hide (HL2.out.below hb3 (Nat.le_refl _)); have CR := hide (rCovers_any a1 a2 c1 c2 l1 l2 w3 (H1.out.below HB3.out (Nat.le_refl _)) (H2.out.below HB3.out (Nat.le_refl _)) (K1.out.below H1.out HB3.out (Nat.le_refl _)) (K2.out.below H2.out HB3.out (Nat.le_refl _))); clear hr hb3)
    | (go_at_call 25; refine (unhide CR).mono ?_; rintro e w4 ⟨r', x', rfl, hr, hb4⟩; obtain ⟨ht, he⟩ := CovR.one hr HR.out; subst ht; subst he; have HB4 := hide (HB3.out.trans (hb4.mono hb3s)); have hb4s := HB4.out.size; have HL24 := hide (HL23.out.below hb4 (Nat.le_refl _)); have CS1 := hide (sameClause_any a1' a1 cp1' c1 l1 l1 w4 (HL13.out.below hb4 (Nat.le_refl _)) (H1.out.below HB4.out (Nat.le_refl _))); clear hr hb4)
    | (go_at_call 15; refine (unhide CS2).mono ?_; rintro e w6 ⟨rfl, hd⟩; have HB6 := hide (HB5.out.trans ((below_drawn hd).mono HB5.out.size)); clear hd)
    | (go_at_call 15; refine (unhide CS1).mono ?_; rintro e w5 ⟨rfl, hd⟩; have HB5 := hide (HB4.out.trans ((below_drawn hd).mono hb4s)); have CS2 := hide (sameClause_any a2' a2 cp2' c2 l2 l2 w5 (HL24.out.drawn hd) (H2.out.below HB5.out (Nat.le_refl _))); clear hd)
    | (go_at_call 16; refine (num_any _ _).mono ?_; rintro e w7 ⟨rfl, rfl⟩))
  go_ret
  exact ⟨rfl, HB6.out⟩

/-- A clause of one literal of two nodes, as it is laid. -/
abbrev pairW (u : World) (s1 s2 : ByteArray) (n1 n2 : Int) : World := (u.alloc (.cells #[.string s1, .int .i64 n1, .string s2, .int .i64 n2] 27)).alloc (.cells #[.bool false, .slice (some ⟨u.heap.size, 0, none⟩) 2 2] 30)
theorem pair_below (u : World) (s1 s2 : ByteArray) (n1 n2 : Int) : Below u.heap.size u (pairW u s1 s2 n1 n2) := ((Below.refl _ _).alloc (Nat.le_refl _) _).alloc (by show _ ≤ (u.heap.push _).size; simp) _
theorem pair_heap (u : World) (s1 s2 : ByteArray) (n1 n2 : Int) : (pairW u s1 s2 n1 n2).heap[u.heap.size]? = some (.cells #[.string s1, .int .i64 n1, .string s2, .int .i64 n2] 27) ∧ (pairW u s1 s2 n1 n2).heap[u.heap.size + 1]? = some (.cells #[.bool false, .slice (some ⟨u.heap.size, 0, none⟩) 2 2] 30) := by
  have e : (pairW u s1 s2 n1 n2).heap = (u.heap.push (.cells #[.string s1, .int .i64 n1, .string s2, .int .i64 n2] 27)).push (.cells #[.bool false, .slice (some ⟨u.heap.size, 0, none⟩) 2 2] 30) := rfl
  rw [e]
  constructor
  · rw [Array.getElem?_push, if_neg (by simp)]; simp
  · rw [Array.getElem?_push, if_pos (by simp)]
def pairC (s1 s2 : ByteArray) (n1 n2 : Int) : List Lt := [(false, [(s1, n1), (s2, n2)])]
theorem pair_in (u : World) (s1 s2 : ByteArray) (n1 n2 : Int) (q1 : s1.size ≤ 140737488355328) (q2 : s2.size ≤ 140737488355328) : LitsIn (pairW u s1 s2 n1 n2) (some ⟨u.heap.size + 1, 0, none⟩) (pairC s1 s2 n1 n2) := by
  obtain ⟨h0, h1⟩ := pair_heap u s1 s2 n1 n2
  refine ⟨by show 1 ≤ _; decide, fun k hk => ?_⟩
  have hk0 : k = 0 := by simp [pairC] at hk; exact hk
  subst hk0
  refine ⟨u.heap.size + 1, 0, some ⟨u.heap.size, 0, none⟩, 2, rfl, (cell_of_row _ _ _ _ _ _ h1).trans rfl, (cell_of_row _ _ _ _ _ _ h1).trans rfl, ⟨Nat.le_of_ble_eq_true rfl, ?_, ?_⟩⟩
  · intro j hj
    have hj2 : j = 0 ∨ j = 1 := by simp [pairC] at hj; omega
    rcases hj2 with rfl | rfl
    · exact q1
    · exact q2
  · intro j hj
    have hj2 : j = 0 ∨ j = 1 := by simp [pairC] at hj; omega
    rcases hj2 with rfl | rfl
    · exact ⟨_, _, rfl, (cell_of_row _ _ _ _ _ _ h0).trans rfl, (cell_of_row _ _ _ _ _ _ h0).trans rfl⟩
    · exact ⟨_, _, rfl, (cell_of_row _ _ _ _ _ _ h0).trans rfl, (cell_of_row _ _ _ _ _ _ h0).trans rfl⟩
theorem pair_caps (u : World) (s1 s2 : ByteArray) (n1 n2 : Int) : CapsIn (pairW u s1 s2 n1 n2) (some ⟨u.heap.size + 1, 0, none⟩) (pairC s1 s2 n1 n2) := by
  obtain ⟨h0, h1⟩ := pair_heap u s1 s2 n1 n2
  intro k hk b o aa n cap ha hc
  have hk0 : k = 0 := by simp [pairC] at hk; exact hk
  subst hk0
  obtain ⟨rfl, rfl⟩ : u.heap.size + 1 = b ∧ 0 = o := by simpa using ha
  rw [cell_of_row _ _ _ _ _ _ h1] at hc
  have hc' : some (Value.slice (some ⟨u.heap.size, 0, none⟩) 2 2) = some (Value.slice aa n cap) := hc
  obtain ⟨-, rfl, rfl⟩ : some ⟨u.heap.size, 0, none⟩ = aa ∧ 2 = n ∧ 2 = cap := by simpa using hc'
  exact Nat.le_refl _
/-- p of a variable, and p of a. -/
abbrev kcC : List Lt := pairC ⟨#[112]⟩ ⟨#[]⟩ 1 0
abbrev kdC : List Lt := pairC ⟨#[112]⟩ ⟨#[97]⟩ 1 0
theorem kc_clause : isClauseL kcC = true := by decide +kernel
theorem kd_clause : isClauseL kdC = true := by decide +kernel
theorem known_cov : Cov kdC kcC [] := by
  have ha : termGo [((⟨#[97]⟩ : ByteArray), (0 : Int))] 1 = true := by decide +kernel
  have hv : varB ((⟨#[]⟩ : ByteArray), (0 : Int)) = true := by decide +kernel
  have hp : varB ((⟨#[112]⟩ : ByteArray), (1 : Int)) = false := by decide +kernel
  refine ⟨fun _ => [(⟨#[97]⟩, 0)], fun _ => ha, fun x t h => by simp [look] at h, fun l hl => ?_⟩
  simp [kcC, pairC] at hl
  subst hl
  simp [kdC, pairC, subst, hv, hp]
theorem known_covR {r : Bool} {x : Int} (h : CovR kcC kdC r x) : r = true ∧ x = 0 := by
  rcases h with ⟨_, _, rfl, h⟩ | ⟨h, _⟩
  · exact ⟨h.2 ⟨Nat.le_refl _, known_cov⟩, rfl⟩
  · exact absurd ⟨kc_clause, kd_clause⟩ h

end Go.Proofs.YtjnddclkdofgdaaDoor
