/- The library's functions that this program calls: their numbers here, for the library's contracts. The program: names, nodes, terms, atoms, sizes. The program: nodes, terms, atoms, sizes. -/
import Derived.Shelf.Strings.BuilderK
import Derived.Shelf.Strings.BuilderRune
import Derived.Shelf.Strings.Search3
import Derived.Shelf.Utf8.RuneCount
import Derived.Shelf.Unicode.ValidAny
import Derived.Shelf.Strconv.Itoa3
import Derived.Test.YthicbnejchpmgaaGreatDoorProg
import Derived.Test.YthicbnejchpmgaaGreatDoorText0D
import Derived.Test.YthicbnejchpmgaaGreatDoorRTermD
import Derived.Test.YthicbnejchpmgaaGreatDoorPCl0D
namespace Go.Proofs.YthicbnejchpmgaaGreatDoor
open Go.Shelf Go.Proofs
set_option maxRecDepth 100000
def uG:Go.Shelf.Ren:=⟨fun | 143=>100 | 144=>68 | 195=>69 | 196=>67 | 217=>129 | 219=>118 | 224=>131 | 225=>130 | 259=>99 | 266=>144 | 267=>132 | 314=>145 | n=>n,fun | 0=>0 | 3=>3 | 4=>4 | 5=>5 | 9=>9 | 12=>12 | 46=>156 | 51=>185 | 53=>172 | 119=>152 | 138=>154 | 139=>155 | 146=>186 | n=>n,fun | 1=>2 | 3=>0 | 4=>1 | n=>n⟩
theorem aP4:Lays.n144 Tryz.prog uG:={
 mixed:=by kernel_rfl
 f143:=Tryz.func100.trans (congrArg some (by kernel_rfl))
 f144:=Tryz.func68.trans (congrArg some (by kernel_rfl))
 f217:=Tryz.func129.trans (congrArg some (by kernel_rfl))
 f219:=Tryz.func118.trans (congrArg some (by kernel_rfl))
 f224:=Tryz.func131.trans (congrArg some (by kernel_rfl))
 f225:=Tryz.func130.trans (congrArg some (by kernel_rfl))
 f266:=Tryz.func144.trans (congrArg some (by kernel_rfl))
 f267:=Tryz.func132.trans (congrArg some (by kernel_rfl))
 f314:=Tryz.func145.trans (congrArg some (by kernel_rfl))
 t3:=Tryz.underlying3
 a3:=Tryz.isAgg3
 z3:=Tryz.sizeOf3
 v3:=Tryz.zeroValue3
 t4:=Tryz.underlying4
 a4:=Tryz.isAgg4
 z4:=Tryz.sizeOf4
 v4:=Tryz.zeroValue4
 t5:=Tryz.underlying5
 a5:=Tryz.isAgg5
 z5:=Tryz.sizeOf5
 v5:=Tryz.zeroValue5
 t9:=Tryz.underlying9
 a9:=Tryz.isAgg9
 z9:=Tryz.sizeOf9
 v9:=Tryz.zeroValue9
 t46:=Tryz.underlying156
 a46:=Tryz.isAgg156
 z46:=Tryz.sizeOf156
 v46:=Tryz.zeroValue156
 t51:=Tryz.underlying185
 a51:=Tryz.isAgg185
 z51:=Tryz.sizeOf185
 v51:=Tryz.zeroValue185
 t146:=Tryz.underlying186
 a146:=Tryz.isAgg186
 z146:=Tryz.sizeOf186
 v146:=Tryz.zeroValue186
 g1:=by kernel_rfl}
theorem aP5:Lays.n195 Tryz.prog uG:={
 mixed:=by kernel_rfl
 f195:=Tryz.func69.trans (congrArg some (by kernel_rfl))
 t0:=Tryz.underlying0
 a0:=Tryz.isAgg0
 z0:=Tryz.sizeOf0
 v0:=Tryz.zeroValue0
 t3:=Tryz.underlying3
 a3:=Tryz.isAgg3
 z3:=Tryz.sizeOf3
 v3:=Tryz.zeroValue3
 t4:=Tryz.underlying4
 a4:=Tryz.isAgg4
 z4:=Tryz.sizeOf4
 v4:=Tryz.zeroValue4
 t9:=Tryz.underlying9
 a9:=Tryz.isAgg9
 z9:=Tryz.sizeOf9
 v9:=Tryz.zeroValue9}
theorem aF3:Lays.n196 Tryz.prog uG:={
 mixed:=by kernel_rfl
 f196:=Tryz.func67.trans (congrArg some (by kernel_rfl))
 f259:=Tryz.func99.trans (congrArg some (by kernel_rfl))
 t0:=Tryz.underlying0
 a0:=Tryz.isAgg0
 z0:=Tryz.sizeOf0
 v0:=Tryz.zeroValue0
 t3:=Tryz.underlying3
 a3:=Tryz.isAgg3
 z3:=Tryz.sizeOf3
 v3:=Tryz.zeroValue3
 t4:=Tryz.underlying4
 a4:=Tryz.isAgg4
 z4:=Tryz.sizeOf4
 v4:=Tryz.zeroValue4
 t5:=Tryz.underlying5
 a5:=Tryz.isAgg5
 z5:=Tryz.sizeOf5
 v5:=Tryz.zeroValue5
 t9:=Tryz.underlying9
 a9:=Tryz.isAgg9
 z9:=Tryz.sizeOf9
 v9:=Tryz.zeroValue9
 t12:=Tryz.underlying12
 a12:=Tryz.isAgg12
 z12:=Tryz.sizeOf12
 v12:=Tryz.zeroValue12
 t46:=Tryz.underlying156
 a46:=Tryz.isAgg156
 z46:=Tryz.sizeOf156
 v46:=Tryz.zeroValue156
 t53:=Tryz.underlying172
 a53:=Tryz.isAgg172
 z53:=Tryz.sizeOf172
 v53:=Tryz.zeroValue172
 t119:=Tryz.underlying152
 a119:=Tryz.isAgg152
 z119:=Tryz.sizeOf152
 t138:=Tryz.underlying154
 a138:=Tryz.isAgg154
 z138:=Tryz.sizeOf154
 v138:=Tryz.zeroValue154
 t139:=Tryz.underlying155
 a139:=Tryz.isAgg155
 z139:=Tryz.sizeOf155
 v139:=Tryz.zeroValue155
 g3:=by kernel_rfl
 g4:=by kernel_rfl}
end Go.Proofs.YthicbnejchpmgaaGreatDoor
namespace Go.Proofs.YthicbnejchpmgaaGreatDoor
open Go.RowKit Go.Shelf
set_option maxRecDepth 100000
def gW (w:World):Prop:=Lib.Utf8Tabs (uG.g 3) (uG.g 4) w
theorem gW.below {w w1:World} (h:gW w) {B:Nat} (k:Below B w w1) (hB:w.heap.size≤B):gW w1:=
 ⟨fun c hc=>Below.at' k hB (h.1 c hc),fun i hi=>⟨Below.at' k hB (h.2 i hi).1,Below.at' k hB (h.2 i hi).2⟩⟩
set_option maxHeartbeats 400000 in
theorem aP6 (s:ByteArray) (w:World) (hs:s.size≤140737488355328) (hT:gW w) :
  Calls Tryz.prog 45 #[.string s] w fun e w'=>e=.returned (.bool (gR s))∧Below w.heap.size w w':=by
 by_cases h80:s.size≤80
 ·have cV:Calls Tryz.prog 67 #[.string s] w _:=Any.utf8_ValidString aF3 s w (by omega) hT
  have cC:=fun wx=>(Any.strings_Contains_one aP4 s 10 wx:Calls Tryz.prog 68 #[.string s,.string ⟨#[10]⟩] wx _)
  have cR:=fun wx=>(Any.utf8_RuneCountInString aP5 s wx (by omega):Calls Tryz.prog 69 #[.string s] wx _)
  have heq:=aQ1 s
  have hrc:=Lib.runeCount_le s
  generalize Lib.validD s.data.toList=v at *
  generalize decide (0≤Lib.indexByte s.data.toList 10)=n at *
  generalize Lib.runeCount s=r at *
  have HE:=aA heq
  have HV:=aA cV
  have HC:=aA cC
  have HR:=aA cR
  clear heq cV cC cR hT
  cases v
  ·go_enter Tryz.func45,Tryz.ntmps45
   go_wp2_with (go_at_call 67;refine (aB HV).mono ?_;rintro e w' ⟨rfl,hb⟩;have HB:=aA hb;clear hb)
   go_ret
   exact ⟨cS (by rw [HE.out];rfl),HB.out⟩
  ·cases n
   ·go_enter Tryz.func45,Tryz.ntmps45
    go_wp2_with (first
     | (go_at_call 67;refine (aB HV).mono ?_;rintro e w' ⟨rfl,hb⟩;have HB:=aA hb;clear hb)
     | (go_at_call 68;refine (aB HC _).mono ?_;rintro e w2 ⟨rfl,rfl⟩)
     | (go_at_call 69;refine (aB HR _).mono ?_;rintro e w3 ⟨rfl,pos,rfl⟩))
    all_goals
     go_ret
     refine ⟨cS ?_,HB.out.alloc HB.out.size _⟩
     rw [HE.out,Bool.eq_iff_iff]
     simp
     omega
   ·go_enter Tryz.func45,Tryz.ntmps45
    go_wp2_with (first
     | (go_at_call 67;refine (aB HV).mono ?_;rintro e w' ⟨rfl,hb⟩;have HB:=aA hb;clear hb)
     | (go_at_call 68;refine (aB HC _).mono ?_;rintro e w2 ⟨rfl,rfl⟩))
    go_ret
    exact ⟨cS (by rw [HE.out];rfl),HB.out⟩
 ·have HE:Hid (gR s=false):=by
   cases h:gR s
   ·exact rfl
   ·have:=(aFe s h).2;omega
  clear hT
  go_enter Tryz.func45,Tryz.ntmps45
  go_wp2
  go_ret
  exact ⟨cS HE.out.symm,Below.refl _ _⟩
theorem aAh (s:ByteArray) (x:Int) (w:World) :
  Calls Tryz.prog 23 #[.agg #[.string s,.int .i64 x]] w fun e w'=>e=.returned (.int .i64 (if s.toList.isEmpty then 0 else x))∧Below w.heap.size w w':=by
 have CV:=aA (fun wx=>nK s x wx)
 cases hv:s.toList.isEmpty
 all_goals
  rw [hv] at CV
  clear hv
  go_enter Tryz.func23,Tryz.ntmps23
  go_wp2_with (go_at_call 44;refine (aB CV _).mono ?_;rintro e w1 ⟨rfl,hb1⟩;obtain ⟨q1,q2,q3⟩:=gK hb1;have HB1:=aA q3;clear hb1 q3)
  go_ret
  exact ⟨rfl,HB1.out⟩
set_option maxHeartbeats 400000 in
theorem aP7 (s:ByteArray) (x:Int) (w:World) (hs:s.size≤140737488355328) (hT:gW w) :
  Calls Tryz.prog 22 #[.agg #[.string s,.int .i64 x]] w fun e w'=>e=.returned (.bool (dH (s,x)))∧Below w.heap.size w w':=by
 have CV:=aA (fun wx=>nK s x wx)
 have hb0:Below w.heap.size w (w.alloc (.cells #[.string s,.int .i64 x] 28)):=(Below.refl _ _).alloc (Nat.le_refl _) _
 have HB0:=aA hb0
 have HT:=aA hT
 clear hb0 hT
 cases hv:s.toList.isEmpty
 ·have HE:Hid (dH (s,x)=(gR s && (decide (0≤x) && decide (x≤5)))):=aA (by simp [dH,aG,hv])
  rw [hv] at CV
  by_cases h0:0≤x
  ·by_cases h5:x≤5
   ·have CN:=aA (fun wx (hx:gW wx)=>aP6 s wx hs hx)
    clear hv
    go_enter Tryz.func22,Tryz.ntmps22
    go_wp2_with (first
     | (go_at_call 44;refine (aB CV _).mono ?_;rintro e w1 ⟨rfl,hb1⟩;obtain ⟨q1,q2,q3⟩:=gK hb1;have HB1:=aA q3;clear hb1 q3)
     | (go_at_call 45;refine (aB CN _ (HT.out.below HB1.out (Nat.le_refl _))).mono ?_;rintro e w2 ⟨rfl,hb2⟩;have HB2:=aA (HB1.out.trans (hb2.mono HB1.out.size));clear hb2))
    go_ret
    refine ⟨cS ?_,HB2.out⟩
    rw [HE.out]
    simp [h0,h5]
   ·clear hv
    go_enter Tryz.func22,Tryz.ntmps22
    go_wp2_with (first
     | (go_at_call 44;refine (aB CV _).mono ?_;rintro e w1 ⟨rfl,hb1⟩;obtain ⟨q1,q2,q3⟩:=gK hb1;have HB1:=aA q3;clear hb1 q3))
    go_ret
    refine ⟨cS ?_,HB1.out⟩
    rw [HE.out]
    simp [h5]
  ·have HD:=aA (show decide (0≤x)=false by simpa using h0)
   clear hv
   go_enter Tryz.func22,Tryz.ntmps22
   go_wp2_with (first
    | (go_at_call 44;refine (aB CV _).mono ?_;rintro e w1 ⟨rfl,hb1⟩;obtain ⟨q1,q2,q3⟩:=gK hb1;have HB1:=aA q3;clear hb1 q3))
   go_ret
   refine ⟨cS ?_,HB1.out⟩
   rw [HE.out,HD.out]
   simp
 ·have HE:Hid (dH (s,x)=(decide (0≤x) && decide (x < 60))):=aA (by simp [dH,aG,hv])
  rw [hv] at CV
  clear hv
  by_cases h0:0≤x
  all_goals
   go_enter Tryz.func22,Tryz.ntmps22
   go_wp2_with (first
    | (go_at_call 44;refine (aB CV _).mono ?_;rintro e w1 ⟨rfl,hb1⟩;obtain ⟨q1,q2,q3⟩:=gK hb1;have HB1:=aA q3;clear hb1 q3))
   go_ret
   refine ⟨cS ?_,HB1.out⟩
   rw [HE.out,Bool.eq_iff_iff]
   simp
   try omega
theorem aP8 (l:List Nd) (h:¬l.length≤60):dT l=false:=by simp [dT,h]
theorem aP9 (l:List Nd) (h:l.length≤60):dT l=aI l 1:=by simp [dT,h]
set_option maxHeartbeats 1000000 in
theorem aAi (a:Option Addr) (cp:Nat) (l:List Nd) (w:World) (h:bQ w a l) (hT:gW w) :
  Calls Tryz.prog 11 #[.slice a l.length cp] w fun e w'=>e=.returned (.bool (dT l))∧Below w.heap.size w w':=by
 have hfew:=h.few
 by_cases h60:l.length≤60
 ·have HE:=aA (aP9 l h60)
  have HT:=aA hT
  clear hT
  go_enter Tryz.func11,Tryz.ntmps11
  go_wp2
  go_loopw [3,11] (fun q i wr=>∃k m:Nat,k≤l.length∧m≤1+5 * k∧i=.int .i64 k∧q=.int .i64 m∧Below w.heap.size w wr∧aI l 1=aI (l.drop k) m) (fun _ i _=>l.length - (intOf i).toNat)
  case atStart=>exact ⟨0,1,by omega,by omega,rfl,rfl,Below.refl _ _,rfl⟩
  case round=>
   obtain ⟨k,m,hk,hm,rfl,rfl,hbel,hg⟩:=hrel
   by_cases hlt:k < l.length
   ·obtain ⟨b,o,rfl,e1,f1⟩:=h.cell k hlt
    have e2:=Below.at' hbel (Nat.le_refl _) e1
    have f2:=Below.at' hbel (Nat.le_refl _) f1
    have hsh:=h.short k hlt
    have hbs:=hbel.size
    clear e1 f1 h
    by_cases hm0:m=0
    ·subst hm0
     rw [yQ l k hlt] at hg
     have HR:Hid (dT l=false):=HE.out.trans hg
     have HB:=aA hbel
     clear hg hbel
     go_wp2
     go_ret
     exact ⟨cS HR.out.symm,HB.out.alloc HB.out.size _⟩
    ·have hb1:((m:Int) == 0)=false:=by rw [beq_eq_false_iff_ne];omega
     have hon:=aJ1 l k m hlt hm0
     have hbad:=aJ0 l k m hlt
     generalize l[k]=nd at *
     obtain ⟨s,x⟩:=nd
     simp only at e2 f2 hsh
     have CN:=aA (fun wx (hx:gW wx)=>aP7 s x wx hsh hx)
     have CV:=aA (fun wx=>aAh s x wx)
     have HB:=aA hbel
     have hTA:=aA (HT.out.below (hbel.alloc hbs (.cells #[.string s,.int .i64 x] 28)) (Nat.le_refl _))
     by_cases hok:dH (s,x)=true
     ·have HG:=aA (hg.trans (hon hok))
      simp only [hok] at CN
      clear hg hon hbad hbel
      by_cases hv:s.toList.isEmpty=true
      ·have HW:Hid (aZ (s,x)=0):=by unfold aZ aG;rw [if_pos hv];exact rfl
       rw [if_pos hv] at CV
       clear hok hv
       go_wp2_with (first
        | (go_at_call 22;refine (aB CN _ hTA.out).mono ?_;rintro e w1 ⟨rfl,hb1⟩;obtain ⟨q1,q2,q3⟩:=gK hb1;have HB1:=aA (HB.out.trans (q3.mono hbs));have h1s:=HB1.out.size;have hq1:=q3.size;clear hb1 q3)
        | (go_at_call 23;refine (aB CV _).mono ?_;rintro e w2 ⟨rfl,hb2⟩;have q5:=Below.at' hb2 (Nat.le_refl _) q1;have q6:=Below.at' hb2 (Nat.le_refl _) q2;have HB2:=aA (HB1.out.trans (hb2.mono h1s));clear hb2))
       go_roundw
       case rel=>exact ⟨k+1,m - 1,by omega,by omega,by go_num,by go_num,HB2.out,by rw [HG.out,HW.out];rfl⟩
       case measure=>simp [intOf];omega
      ·have HW:Hid (aZ (s,x)=x.toNat):=by unfold aZ aG;rw [if_neg hv];exact rfl
       have hv':s.toList.isEmpty=false:=by simpa using hv
       have hx:gR s=true∧0≤x∧x≤5:=by simpa [dH,aG,hv] using hok
       obtain ⟨_,hx1,hx2⟩:=hx
       rw [if_neg hv] at CV
       clear hok hv hv'
       go_wp2_with (first
        | (go_at_call 22;refine (aB CN _ hTA.out).mono ?_;rintro e w1 ⟨rfl,hb1⟩;obtain ⟨q1,q2,q3⟩:=gK hb1;have HB1:=aA (HB.out.trans (q3.mono hbs));have h1s:=HB1.out.size;have hq1:=q3.size;clear hb1 q3)
        | (go_at_call 23;refine (aB CV _).mono ?_;rintro e w2 ⟨rfl,hb2⟩;have q5:=Below.at' hb2 (Nat.le_refl _) q1;have q6:=Below.at' hb2 (Nat.le_refl _) q2;have HB2:=aA (HB1.out.trans (hb2.mono h1s));clear hb2))
       go_roundw
       case rel=>exact ⟨k+1,m - 1+x.toNat,by omega,by omega,by go_num,by go_num,HB2.out,by rw [HG.out,HW.out]⟩
       case measure=>simp [intOf];omega
     ·have hok':dH (s,x)=false:=by simpa using hok
      rw [hbad hok'] at hg
      have HR:Hid (dT l=false):=HE.out.trans hg
      simp only [hok'] at CN
      clear hg hon hbad hbel hok hok'
      go_wp2_with (first
       | (go_at_call 22;refine (aB CN _ hTA.out).mono ?_;rintro e w1 ⟨rfl,hb1⟩;obtain ⟨q1,q2,q3⟩:=gK hb1;have HB1:=aA (HB.out.trans (q3.mono hbs));clear hb1 q3))
      go_ret
      exact ⟨cS HR.out.symm,HB1.out⟩
   ·have hd:l.drop k=[]:=List.drop_eq_nil_of_le (by omega)
    rw [hd] at hg
    have HR:Hid (dT l=decide (m=0)):=HE.out.trans hg
    have HB:=aA hbel
    clear hg hd hbel
    go_wp2
    go_ret
    refine ⟨cS ?_,HB.out⟩
    rw [HR.out,Bool.eq_iff_iff]
    simp
 ·have HE:=aA (aP8 l h60)
  clear h hT
  go_enter Tryz.func11,Tryz.ntmps11
  go_wp2
  go_ret
  exact ⟨cS HE.out.symm,Below.refl _ _⟩
end Go.Proofs.YthicbnejchpmgaaGreatDoor
