/- Print held against the document's own answer. -/
import Derived.Test.YtjnddclkdofgdaaDoorPMoot
import Derived.Test.YtjnddclkdofgdaaDoorPCopy
import Derived.Test.YtjnddclkdofgdaaDoorRPrint
namespace Go.Proofs.YtjnddclkdofgdaaDoor
open Go.RowKit
set_option maxRecDepth 100000

set_option maxHeartbeats 1000000 in
theorem lprint_any (a : Option Addr) (cp : Nat) (c : List Lt) (w : World) (h : LitsIn w a c) (hz : NilsIn w a c) (hT : Tabs w) :
    Calls Tryd.prog 7 #[.slice a c.length cp] w fun e w' => e = .returned (.bool true) ∧ Below w.heap.size w w' := by
  have CC := hide (copied_any a cp c w h hz)
  have HF := hide h.few
  have HS := hide h.shorts
  have HH := hide h
  have HT := hide hT
  clear h hz hT
  go_enter Tryd.func7, Tryd.ntmps7
  go_wp2_with (first
    | (go_at_call 13; refine (unhide CC).mono ?_; rintro e w1 ⟨v, Q, rfl, hQ, ho, hA, hb⟩; obtain ⟨a1, cp1, rfl, hl⟩ := own_clause hQ ho hA HF.out HS.out; have hcp : CapsIn w1 a1 c := (by have := own_caps ho hA rfl; rwa [hQ] at this); have CP := hide (mPrint_any a1 cp1 c w1 hl hcp (HT.out.below hb (Nat.le_refl _))); have HL := hide hl; have HB := hide hb; have hbs := hb.size; clear hQ ho hA hl hcp hb)
    | (go_at_call 6; refine (unhide CP).mono ?_; rintro e w2 ⟨t, r, rfl, hr, hb2⟩; have HR := hide hr; have HB2 := hide (HB.out.trans (hb2.mono hbs)); have HL2 := hide (HL.out.below hb2 (Nat.le_refl _)); have CR := hide (rPrint_any a cp c w2 (HH.out.below HB2.out (Nat.le_refl _))); have hb2s := HB2.out.size; clear hr hb2)
    | (go_at_call 14; refine (unhide CR).mono ?_; rintro e w3 ⟨t', r', rfl, hr, hb3⟩; obtain ⟨ht, he⟩ := PrintR.one hr HR.out; subst ht; subst he; have HB3 := hide (HB2.out.trans (hb3.mono hb2s)); have CS := hide (sameClause_any a1 a cp1 cp c c w3 (HL2.out.below hb3 (Nat.le_refl _)) (HH.out.below HB3.out (Nat.le_refl _))); clear hr hb3)
    | (go_at_call 15; refine (unhide CS).mono ?_; rintro e w4 ⟨rfl, hd⟩; have HB4 := hide (HB3.out.trans ((below_drawn hd).mono HB3.out.size)); clear hd)
    | (go_at_call 16; refine (num_any _ _).mono ?_; rintro e w5 ⟨rfl, rfl⟩))
  go_ret
  exact ⟨rfl, HB4.out⟩

end Go.Proofs.YtjnddclkdofgdaaDoor
