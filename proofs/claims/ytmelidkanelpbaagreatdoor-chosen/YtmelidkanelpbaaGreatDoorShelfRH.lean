import Derived.Shelf.Strings.Runes
import Derived.Shelf.Strings.Prefix
import Derived.Test.YtmelidkanelpbaaGreatDoorProg
namespace Go.Proofs.YtmelidkanelpbaaGreatDoor
open _root_.Go.Proofs.Tryz renaming underlying3→zz,underlying4→zy,underlying9→zx
set_option maxRecDepth 100000
open Go.Shelf Go.Proofs
def aM0:Go.Shelf.Ren:=⟨fun|99=>56|119=>124|137=>123|151=>90|152=>108|206=>85|217=>140|224=>125|225=>126|266=>145|n=>n,fun|0=>0|3=>3|4=>4|5=>5|9=>9|21=>21|46=>172|n=>n,fun|n=>n⟩
theorem aZx:Lays.n99 Tryz.prog aM0:={
 mixed:=by kernel_rfl
 f99:=Tryz.func56.trans (congrArg some (by kernel_rfl))
 f206:=Tryz.func85.trans (congrArg some (by kernel_rfl))
 t3:=zz
 a3:=Tryz.isAgg3
 z3:=Tryz.sizeOf3
 v3:=Tryz.zeroValue3
 t4:=zy
 a4:=Tryz.isAgg4
 z4:=Tryz.sizeOf4
 v4:=Tryz.zeroValue4
 t9:=zx
 a9:=Tryz.isAgg9
 z9:=Tryz.sizeOf9
 v9:=Tryz.zeroValue9}
theorem aBd:Lays.n151 Tryz.prog aM0:={
 mixed:=by kernel_rfl
 f119:=Tryz.func124.trans (congrArg some (by kernel_rfl))
 f137:=Tryz.func123.trans (congrArg some (by kernel_rfl))
 f151:=Tryz.func90.trans (congrArg some (by kernel_rfl))
 f152:=Tryz.func108.trans (congrArg some (by kernel_rfl))
 f217:=Tryz.func140.trans (congrArg some (by kernel_rfl))
 f224:=Tryz.func125.trans (congrArg some (by kernel_rfl))
 f225:=Tryz.func126.trans (congrArg some (by kernel_rfl))
 f266:=Tryz.func145.trans (congrArg some (by kernel_rfl))
 t0:=Tryz.underlying0
 a0:=Tryz.isAgg0
 z0:=Tryz.sizeOf0
 v0:=Tryz.zeroValue0
 t3:=zz
 a3:=Tryz.isAgg3
 z3:=Tryz.sizeOf3
 v3:=Tryz.zeroValue3
 t4:=zy
 a4:=Tryz.isAgg4
 z4:=Tryz.sizeOf4
 v4:=Tryz.zeroValue4
 t5:=Tryz.underlying5
 a5:=Tryz.isAgg5
 z5:=Tryz.sizeOf5
 v5:=Tryz.zeroValue5
 t9:=zx
 a9:=Tryz.isAgg9
 z9:=Tryz.sizeOf9
 v9:=Tryz.zeroValue9
 t21:=Tryz.underlying21
 a21:=Tryz.isAgg21
 z21:=Tryz.sizeOf21
 v21:=Tryz.zeroValue21
 t46:=Tryz.underlying172
 a46:=Tryz.isAgg172
 z46:=Tryz.sizeOf172
 v46:=Tryz.zeroValue172}
