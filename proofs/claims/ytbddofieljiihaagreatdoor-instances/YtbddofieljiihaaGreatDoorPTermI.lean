/- The program: names, nodes, terms, atoms, sizes. -/
import Derived.Test.YtbddofieljiihaaGreatDoorNameEqI
import Derived.Test.YtbddofieljiihaaGreatDoorShelfI
import Derived.Test.YtbddofieljiihaaGreatDoorRTermI
import Derived.Test.YtbddofieljiihaaGreatDoorPCl0I
namespace Go.Proofs.YtbddofieljiihaaGreatDoor
open Go.RowKit Go.Shelf
set_option maxRecDepth 100000
def gL (w:World):Prop:=Lib.Utf8Tabs (uF.g 3) (uF.g 4) w
theorem gL.below {w w1:World} (h:gL w) {B:Nat} (k:Below B w w1) (hB:w.heap.size≤B):gL w1:=
 ⟨fun c hc=>Below.at' k hB (h.1 c hc),fun i hi=>⟨Below.at' k hB (h.2 i hi).1,Below.at' k hB (h.2 i hi).2⟩⟩
set_option maxHeartbeats 400000 in
theorem aPg (s:ByteArray) (w:World) (hs:s.size≤140737488355328) (hT:gL w) :
  Calls Tryz.prog 106 #[.string s] w fun e w'=>e=.returned (.bool (dW s))∧Below w.heap.size w w':=by
 by_cases h80:s.size≤80
 ·have cV:Calls Tryz.prog 126 #[.string s] w _:=Any.utf8_ValidString aFh s w (by omega) hT
  have cC:=fun wx=>(Any.strings_Contains_one aQs s 10 wx:Calls Tryz.prog 127 #[.string s,.string ⟨#[10]⟩] wx _)
  have cR:=fun wx=>(Any.utf8_RuneCountInString aQt s wx (by omega):Calls Tryz.prog 128 #[.string s] wx _)
  have heq:=aOn s
  have hrc:=Lib.runeCount_le s
  generalize Lib.validD s.data.toList=v at *
  generalize decide (0≤Lib.indexByte s.data.toList 10)=n at *
  generalize Lib.runeCount s=r at *
  have HE:=aA heq
  have HV:=aA cV
  have HC:=aA cC
  have HR:=aA cR
  clear heq cV cC cR hT
  cases v
  ·go_enter Tryz.func106,Tryz.ntmps106
   go_wp2_with (go_at_call 126;refine (aB HV).mono ?_;rintro e w' ⟨rfl,hb⟩;have HB:=aA hb;clear hb)
   go_ret
   exact ⟨cO (by rw [HE.out];rfl),HB.out⟩
  ·cases n
   ·go_enter Tryz.func106,Tryz.ntmps106
    go_wp2_with (first
     | (go_at_call 126;refine (aB HV).mono ?_;rintro e w' ⟨rfl,hb⟩;have HB:=aA hb;clear hb)
     | (go_at_call 127;refine (aB HC _).mono ?_;rintro e w2 ⟨rfl,rfl⟩)
     | (go_at_call 128;refine (aB HR _).mono ?_;rintro e w3 ⟨rfl,pos,rfl⟩))
    all_goals
     go_ret
     refine ⟨cO ?_,HB.out.alloc HB.out.size _⟩
     rw [HE.out,Bool.eq_iff_iff]
     simp
     omega
   ·go_enter Tryz.func106,Tryz.ntmps106
    go_wp2_with (first
     | (go_at_call 126;refine (aB HV).mono ?_;rintro e w' ⟨rfl,hb⟩;have HB:=aA hb;clear hb)
     | (go_at_call 127;refine (aB HC _).mono ?_;rintro e w2 ⟨rfl,rfl⟩))
    go_ret
    exact ⟨cO (by rw [HE.out];rfl),HB.out⟩
 ·have HE:Hid (dW s=false):=by
   cases h:dW s
   ·exact rfl
   ·have:=(aFt s h).2;omega
  clear hT
  go_enter Tryz.func106,Tryz.ntmps106
  go_wp2
  go_ret
  exact ⟨cO HE.out.symm,Below.refl _ _⟩
end Go.Proofs.YtbddofieljiihaaGreatDoor
