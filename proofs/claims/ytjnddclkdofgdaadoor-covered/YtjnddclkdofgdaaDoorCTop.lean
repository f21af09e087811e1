/- The law of Covers. -/
import Derived.Test.YtjnddclkdofgdaaDoorCLaw
namespace Go.Proofs.YtjnddclkdofgdaaDoor
open Go.RowKit Go.Shelf
set_option maxRecDepth 100000

/-- An empty book. -/
abbrev bookO : Obj := .cells #[.slice none 0 0, .slice none 0 0, .slice none 0 0, .slice none 0 0, .slice none 0 0, .slice none 0 0, .slice none 0 0, .slice none 0 0, .int .i64 0] 40
/-- The world with the book and the two known clauses. -/
abbrev knownW2 (w : World) : World := ((((w.alloc bookO).alloc (.cells #[.string ⟨#[112]⟩, .int .i64 1, .string ⟨#[]⟩, .int .i64 0] 27)).alloc (.cells #[.bool false, .slice (some ⟨w.heap.size + 1, 0, none⟩) 2 2] 30)).alloc (.cells #[.string ⟨#[112]⟩, .int .i64 1, .string ⟨#[97]⟩, .int .i64 0] 27)).alloc (.cells #[.bool false, .slice (some ⟨w.heap.size + 3, 0, none⟩) 2 2] 30)
theorem knownW2_eq (w : World) : pairW (pairW (w.alloc bookO) ⟨#[112]⟩ ⟨#[]⟩ 1 0) ⟨#[112]⟩ ⟨#[97]⟩ 1 0 = knownW2 w := by simp [pairW, knownW2]
theorem known2_below (w : World) : Below w.heap.size w (knownW2 w) := by
  rw [← knownW2_eq]
  have h0 : Below w.heap.size w (w.alloc bookO) := (Below.refl _ _).alloc (Nat.le_refl _) _
  exact (h0.trans ((pair_below (w.alloc bookO) ⟨#[112]⟩ ⟨#[]⟩ 1 0).mono h0.size)).trans ((pair_below (pairW (w.alloc bookO) ⟨#[112]⟩ ⟨#[]⟩ 1 0) ⟨#[112]⟩ ⟨#[97]⟩ 1 0).mono (by simp; omega))
theorem known2_kc (w : World) : LitsIn (knownW2 w) (some ⟨w.heap.size + 2, 0, none⟩) kcC ∧ CapsIn (knownW2 w) (some ⟨w.heap.size + 2, 0, none⟩) kcC := by
  rw [← knownW2_eq]
  have e : (w.alloc bookO).heap.size + 1 = w.heap.size + 2 := by simp
  have h1 := pair_in (w.alloc bookO) ⟨#[112]⟩ ⟨#[]⟩ 1 0 (Nat.le_of_ble_eq_true rfl) (Nat.le_of_ble_eq_true rfl)
  have h2 := pair_caps (w.alloc bookO) ⟨#[112]⟩ ⟨#[]⟩ 1 0
  rw [e] at h1 h2
  exact ⟨h1.below (pair_below _ _ _ _ _) (Nat.le_refl _), h2.below h1 (pair_below _ _ _ _ _) (Nat.le_refl _)⟩
theorem known2_kd (w : World) : LitsIn (knownW2 w) (some ⟨w.heap.size + 4, 0, none⟩) kdC ∧ CapsIn (knownW2 w) (some ⟨w.heap.size + 4, 0, none⟩) kdC := by
  rw [← knownW2_eq]
  have e : (pairW (w.alloc bookO) ⟨#[112]⟩ ⟨#[]⟩ 1 0).heap.size + 1 = w.heap.size + 4 := by simp [pairW]
  have h1 := pair_in (pairW (w.alloc bookO) ⟨#[112]⟩ ⟨#[]⟩ 1 0) ⟨#[112]⟩ ⟨#[97]⟩ 1 0 (Nat.le_of_ble_eq_true rfl) (Nat.le_of_ble_eq_true rfl)
  have h2 := pair_caps (pairW (w.alloc bookO) ⟨#[112]⟩ ⟨#[]⟩ 1 0) ⟨#[112]⟩ ⟨#[97]⟩ 1 0
  rw [e] at h1 h2
  exact ⟨h1, h2⟩

set_option maxHeartbeats 1000000 in
theorem lcovered_any (a1 a2 : Option Addr) (c1 c2 : Nat) (l1 l2 : List Lt) (w : World) (h1 : LitsIn w a1 l1) (h2 : LitsIn w a2 l2) (z1 : NilsIn w a1 l1) (z2 : NilsIn w a2 l2) (k1 : CapsIn w a1 l1) (k2 : CapsIn w a2 l2) (hT : Tabs w) :
    Calls Tryd.prog 5 #[.slice a1 l1.length c1, .slice a2 l2.length c2] w fun e w' => e = .returned (.bool true) ∧ Below w.heap.size w w' := by
  have CK : Hid (Calls Tryd.prog 10 #[.slice (some ⟨w.heap.size + 2, 0, none⟩) 1 1, .slice (some ⟨w.heap.size + 4, 0, none⟩) 1 1] (knownW2 w) fun e w' => ∃ r x, e = .returned (.tuple #[.bool r, .int .i64 x]) ∧ CovR kcC kdC r x ∧ Below (knownW2 w).heap.size (knownW2 w) w') := hide (mCovers_any (some ⟨w.heap.size + 2, 0, none⟩) (some ⟨w.heap.size + 4, 0, none⟩) 1 1 kcC kdC (knownW2 w) (known2_kc w).1 (known2_kd w).1 (known2_kc w).2 (known2_kd w).2 (Nat.le_refl _) (hT.below (known2_below w) (Nat.le_refl _)))
  have CL := hide (fun bv wx (hx : Below w.heap.size w wx) => lcovers_any bv a1 a2 c1 c2 l1 l2 wx (h1.below hx (Nat.le_refl _)) (h2.below hx (Nat.le_refl _)) (z1.below h1 hx) (z2.below h2 hx) (k1.below h1 hx (Nat.le_refl _)) (k2.below h2 hx (Nat.le_refl _)) (hT.below hx (Nat.le_refl _)))
  have CR := hide (fun bv wx (hx : Below w.heap.size w wx) => lcovers_any bv a2 a1 c2 c1 l2 l1 wx (h2.below hx (Nat.le_refl _)) (h1.below hx (Nat.le_refl _)) (z2.below h2 hx) (z1.below h1 hx) (k2.below h2 hx (Nat.le_refl _)) (k1.below h1 hx (Nat.le_refl _)) (hT.below hx (Nat.le_refl _)))
  have CS := hide (fun bv wx (hx : Below w.heap.size w wx) => lcovers_any bv a1 a1 c1 c1 l1 l1 wx (h1.below hx (Nat.le_refl _)) (h1.below hx (Nat.le_refl _)) (z1.below h1 hx) (z1.below h1 hx) (k1.below h1 hx (Nat.le_refl _)) (k1.below h1 hx (Nat.le_refl _)) (hT.below hx (Nat.le_refl _)))
  have HK := hide (known2_below w)
  clear h1 h2 z1 z2 k1 k2 hT
  go_enter Tryd.func5, Tryd.ntmps5
  go_wp2_with (first
    | (go_at_call 10; refine (unhide CK).mono ?_; rintro e w1 ⟨r, x, rfl, hr, hb1⟩; obtain ⟨rfl, rfl⟩ := known_covR hr; have HB1 := hide (HK.out.trans (hb1.mono HK.out.size)); have hb1s := HB1.out.size; clear hr hb1)
    | (go_at_call 11; refine (unhide CS _ _ HB3.out).mono ?_; rintro e w4 ⟨rfl, hb4⟩; have HB4 := hide (HB3.out.trans (hb4.mono hb3s)); clear hb4)
    | (go_at_call 11; refine (unhide CR _ _ HB2.out).mono ?_; rintro e w3 ⟨rfl, hb3⟩; have HB3 := hide (HB2.out.trans (hb3.mono hb2s)); have hb3s := HB3.out.size; clear hb3)
    | (go_at_call 11; refine (unhide CL _ _ HB1.out).mono ?_; rintro e w2 ⟨rfl, hb2⟩; have HB2 := hide (HB1.out.trans (hb2.mono hb1s)); have hb2s := HB2.out.size; clear hb2))
  go_ret
  exact ⟨rfl, HB4.out⟩

end Go.Proofs.YtjnddclkdofgdaaDoor
