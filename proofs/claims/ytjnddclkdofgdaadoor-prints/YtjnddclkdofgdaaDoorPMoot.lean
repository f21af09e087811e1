/- The program's call Print, and the number of an error. -/
import Derived.Test.YtjnddclkdofgdaaDoorPPrint
namespace Go.Proofs.YtjnddclkdofgdaaDoor
open Go.RowKit
set_option maxRecDepth 100000

theorem mPrint_any (a : Option Addr) (cp : Nat) (c : List Lt) (w : World) (h : LitsIn w a c) (hcap : CapsIn w a c) (hT : Tabs w) :
    Calls Tryd.prog 6 #[.slice a c.length cp] w fun e w' => ∃ t r, e = .returned (.tuple #[.string ⟨t.toArray⟩, .int .i64 r]) ∧ PrintR c t r ∧ Below w.heap.size w w' := by
  have C := hide (sPrint_any a cp c w h hcap hT)
  clear h hcap hT
  go_enter Tryd.func6, Tryd.ntmps6
  go_wp2_with (go_at_call 12; refine (unhide C).mono ?_; rintro e w1 ⟨t, r, rfl, hr, hb⟩; have HR := hide hr; have HB := hide hb; clear hr hb)
  go_ret2
  exact ⟨t, r, ret_two rfl rfl, HR.out, HB.out⟩

end Go.Proofs.YtjnddclkdofgdaaDoor
