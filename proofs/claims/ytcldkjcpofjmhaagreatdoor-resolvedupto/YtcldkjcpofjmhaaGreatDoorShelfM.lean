import Derived.Shelf.Strings.BuilderK
import Derived.Shelf.Strings.BuilderRune
import Derived.Shelf.Strings.Search3
import Derived.Shelf.Utf8.RuneCount
import Derived.Shelf.Unicode.ValidAny
import Derived.Shelf.Strconv.Itoa3
import Derived.Test.YtcldkjcpofjmhaaGreatDoorProg
import Derived.Test.YtcldkjcpofjmhaaGreatDoorText0M
import Derived.Test.YtcldkjcpofjmhaaGreatDoorLMemM
open Bool renaming eq_iff_iff→zt
open List renaming foldl_cons→zy,take_succ_eq_append_getElem→zx,foldl_append→zv,take_of_length_le→zu,drop_eq_getElem_cons→zs,length_cons→zm,append_cancel_left→zk,nil_append→ze,take_append_drop→zd,append_assoc→z7,cons_append→yy
open Nat renaming le_refl→zz,zero_le→yu
namespace Go.Proofs.YtcldkjcpofjmhaaGreatDoor
open _root_.Go.Proofs.Tryz renaming prog→zw,ntmps132→zr,ntmps113→zq,underlying3→zp,underlying4→zo,underlying9→zn,func132→zj,func113→zi,zeroValue3→zh,zeroValue4→zg,zeroValue9→zf,underlying189→zc,sizeOf3→za,sizeOf4→z1,sizeOf9→z2,zeroValue189→z6,underlying5→z8,underlying0→yz,isAgg3→yx,isAgg4→yw,isAgg9→yv
set_option maxHeartbeats 1000000
set_option maxRecDepth 100000
section
open Go.Shelf Go.Proofs
def wP:Go.Shelf.Ren:=⟨fun | 143=>157 | 144=>147 | 195=>148 | 196=>146 | 217=>155 | 219=>166 | 224=>142 | 225=>143 | 259=>156 | 266=>165 | 267=>169 | 314=>170 | n=>n,fun | 0=>0 | 3=>3 | 4=>4 | 5=>5 | 9=>9 | 12=>12 | 46=>189 | 51=>208 | 53=>205 | 119=>195 | 138=>197 | 139=>198 | 146=>209 | n=>n,fun | 1=>0 | 3=>1 | 4=>2 | n=>n⟩
theorem aRg:Lays.n144 zw wP:={
 mixed:=by kernel_rfl
 f143:=Tryz.func157.trans (congrArg some (by kernel_rfl))
 f144:=Tryz.func147.trans (congrArg some (by kernel_rfl))
 f217:=Tryz.func155.trans (congrArg some (by kernel_rfl))
 f219:=Tryz.func166.trans (congrArg some (by kernel_rfl))
 f224:=Tryz.func142.trans (congrArg some (by kernel_rfl))
 f225:=Tryz.func143.trans (congrArg some (by kernel_rfl))
 f266:=Tryz.func165.trans (congrArg some (by kernel_rfl))
 f267:=Tryz.func169.trans (congrArg some (by kernel_rfl))
 f314:=Tryz.func170.trans (congrArg some (by kernel_rfl))
 t3:=zp
 a3:=yx
 z3:=za
 v3:=zh
 t4:=zo
 a4:=yw
 z4:=z1
 v4:=zg
 t5:=z8
 a5:=Tryz.isAgg5
 z5:=Tryz.sizeOf5
 v5:=Tryz.zeroValue5
 t9:=zn
 a9:=yv
 z9:=z2
 v9:=zf
 t46:=zc
 a46:=Tryz.isAgg189
 z46:=Tryz.sizeOf189
 v46:=z6
 t51:=Tryz.underlying208
 a51:=Tryz.isAgg208
 z51:=Tryz.sizeOf208
 v51:=Tryz.zeroValue208
 t146:=Tryz.underlying209
 a146:=Tryz.isAgg209
 z146:=Tryz.sizeOf209
 v146:=Tryz.zeroValue209
 g1:=by kernel_rfl}
theorem aRh:Lays.n195 zw wP:={
 mixed:=by kernel_rfl
 f195:=Tryz.func148.trans (congrArg some (by kernel_rfl))
 t0:=yz
 a0:=Tryz.isAgg0
 z0:=Tryz.sizeOf0
 v0:=Tryz.zeroValue0
 t3:=zp
 a3:=yx
 z3:=za
 v3:=zh
 t4:=zo
 a4:=yw
 z4:=z1
 v4:=zg
 t9:=zn
 a9:=yv
 z9:=z2
 v9:=zf}
theorem aHk:Lays.n196 zw wP:={
 mixed:=by kernel_rfl
 f196:=Tryz.func146.trans (congrArg some (by kernel_rfl))
 f259:=Tryz.func156.trans (congrArg some (by kernel_rfl))
 t0:=yz
 a0:=Tryz.isAgg0
 z0:=Tryz.sizeOf0
 v0:=Tryz.zeroValue0
 t3:=zp
 a3:=yx
 z3:=za
 v3:=zh
 t4:=zo
 a4:=yw
 z4:=z1
 v4:=zg
 t5:=z8
 a5:=Tryz.isAgg5
 z5:=Tryz.sizeOf5
 v5:=Tryz.zeroValue5
 t9:=zn
 a9:=yv
 z9:=z2
 v9:=zf
 t12:=Tryz.underlying12
 a12:=Tryz.isAgg12
 z12:=Tryz.sizeOf12
 v12:=Tryz.zeroValue12
 t46:=zc
 a46:=Tryz.isAgg189
 z46:=Tryz.sizeOf189
 v46:=z6
 t53:=Tryz.underlying205
 a53:=Tryz.isAgg205
 z53:=Tryz.sizeOf205
 v53:=Tryz.zeroValue205
 t119:=Tryz.underlying195
 a119:=Tryz.isAgg195
 z119:=Tryz.sizeOf195
 t138:=Tryz.underlying197
 a138:=Tryz.isAgg197
 z138:=Tryz.sizeOf197
 v138:=Tryz.zeroValue197
 t139:=Tryz.underlying198
 a139:=Tryz.isAgg198
 z139:=Tryz.sizeOf198
 v139:=Tryz.zeroValue198
 g3:=by kernel_rfl
 g4:=by kernel_rfl}
end
section
open Go.RowKit Go.Shelf
def jY(w:World):Prop:=Lib.Utf8Tabs (wP.g 3) (wP.g 4) w
theorem jY.below{w w1:World}(h:jY w){B:Nat}(k:Below B w w1)(hB:w.heap.size<=B):jY w1:=
 ⟨λc hc=>Below.at' k hB (h.1 c hc),λi hi=>⟨Below.at' k hB (h.2 i hi).1,Below.at' k hB (h.2 i hi).2⟩⟩
theorem aRi(s:ByteArray)(w:World)(hs:s.size<=140737488355328)(hT:jY w) :
  Calls zw 132 #[.string s] w λe w'=>e=.returned (.bool (fW s))/\Below w.heap.size w w':=by
 by_cases h80:s.size<=80
 ·have cV:Calls zw 146 #[.string s] w _:=Any.utf8_ValidString aHk s w (by omega) hT;have cC:=λwx=>(Any.strings_Contains_one aRg s 10 wx:Calls zw 147 #[.string s,.string ⟨#[10]⟩] wx _)
  have cR:=λwx=>(Any.utf8_RuneCountInString aRh s wx (by omega):Calls zw 148 #[.string s] wx _)
  have heq:=aTb s;have hrc:=Lib.runeCount_le s;generalize Lib.validD s.data.toList=v at *;generalize decide (0<=Lib.indexByte s.data.toList 10)=n at *;generalize Lib.runeCount s=r at *;have HE:=aA heq;have HV:=aA cV;have HC:=aA cC;have HR:=aA cR;clear heq cV cC cR hT;cases v
  ·go_enter zj,zr;go_wp2_with (go_at_call 146;refine (aB HV).mono ?_;rintro e w' ⟨rfl,hb⟩;have HB:=aA hb;clear hb);go_ret;exact ⟨cH (by rw [HE.out];rfl),HB.out⟩
  ·cases n
   ·go_enter zj,zr;go_wp2_with (first
     | (go_at_call 146;refine (aB HV).mono ?_;rintro e w' ⟨rfl,hb⟩;have HB:=aA hb;clear hb)
     | (go_at_call 147;refine (aB HC _).mono ?_;rintro e w2 ⟨rfl,rfl⟩)
     | (go_at_call 148;refine (aB HR _).mono ?_;rintro e w3 ⟨rfl,pos,rfl⟩))
    all_goals
     go_ret;refine ⟨cH ?_,HB.out.alloc HB.out.size _⟩;rw [HE.out,zt];simp;omega
   ·go_enter zj,zr;go_wp2_with (first
     | (go_at_call 146;refine (aB HV).mono ?_;rintro e w' ⟨rfl,hb⟩;have HB:=aA hb;clear hb)
     | (go_at_call 147;refine (aB HC _).mono ?_;rintro e w2 ⟨rfl,rfl⟩))
    go_ret;exact ⟨cH (by rw [HE.out];rfl),HB.out⟩
 ·have HE:Hid (fW s=false):=by
   cases h:fW s
   ·exact rfl
   ·have:=(aIc s h).2;omega
  clear hT;go_enter zj,zr;go_wp2;go_ret;exact ⟨cH HE.out.symm,Below.refl _ _⟩
theorem aHl(s:ByteArray)(x:Int)(w:World) :
  Calls zw 91 #[.agg #[.string s,.int .i64 x]] w λe w'=>e=.returned (.int .i64 (if s.toList.isEmpty then 0 else x))/\Below w.heap.size w w':=by
 have CV:=aA (λwx=>qI s x wx);cases hv:s.toList.isEmpty;all_goals
  rw [hv] at CV;clear hv;go_enter Tryz.func91,Tryz.ntmps91;go_wp2_with (go_at_call 83;refine (aB CV _).mono ?_;rintro e w1 ⟨rfl,hb1⟩;obtain ⟨q1,q2,q3⟩:=jL hb1;have HB1:=aA q3;clear hb1 q3);go_ret;exact ⟨rfl,HB1.out⟩
theorem aRj(s:ByteArray)(x:Int)(w:World)(hs:s.size<=140737488355328)(hT:jY w) :
  Calls zw 113 #[.agg #[.string s,.int .i64 x]] w λe w'=>e=.returned (.bool (dU (s,x)))/\Below w.heap.size w w':=by
 have CV:=aA (λwx=>qI s x wx);have hb0:Below w.heap.size w (w.alloc (.cells #[.string s,.int .i64 x] 36)):=(Below.refl _ _).alloc (zz _) _;have HB0:=aA hb0;have HT:=aA hT;clear hb0 hT;cases hv:s.toList.isEmpty
 ·have HE:Hid (dU (s,x)=(fW s && (decide (0<=x) && decide (x<=5)))):=aA (by simp [dU,aF,hv]);rw [hv] at CV;by_cases h0:0<=x
  ·by_cases h5:x<=5
   ·have CN:=aA (λwx (hx:jY wx)=>aRi s wx hs hx);clear hv;go_enter zi,zq;go_wp2_with (first
     | (go_at_call 83;refine (aB CV _).mono ?_;rintro e w1 ⟨rfl,hb1⟩;obtain ⟨q1,q2,q3⟩:=jL hb1;have HB1:=aA q3;clear hb1 q3)
     | (go_at_call 132;refine (aB CN _ (HT.out.below HB1.out (zz _))).mono ?_;rintro e w2 ⟨rfl,hb2⟩;have HB2:=aA (HB1.out.trans (hb2.mono HB1.out.size));clear hb2))
    go_ret;refine ⟨cH ?_,HB2.out⟩;rw [HE.out];simp [h0,h5]
   ·clear hv;go_enter zi,zq;go_wp2_with (first
     | (go_at_call 83;refine (aB CV _).mono ?_;rintro e w1 ⟨rfl,hb1⟩;obtain ⟨q1,q2,q3⟩:=jL hb1;have HB1:=aA q3;clear hb1 q3))
    go_ret;refine ⟨cH ?_,HB1.out⟩;rw [HE.out];simp [h5]
  ·have HD:=aA (show decide (0<=x)=false by simpa using h0);clear hv;go_enter zi,zq;go_wp2_with (first
    | (go_at_call 83;refine (aB CV _).mono ?_;rintro e w1 ⟨rfl,hb1⟩;obtain ⟨q1,q2,q3⟩:=jL hb1;have HB1:=aA q3;clear hb1 q3))
   go_ret;refine ⟨cH ?_,HB1.out⟩;rw [HE.out,HD.out];simp
 ·have HE:Hid (dU (s,x)=(decide (0<=x) && decide (x<60))):=aA (by simp [dU,aF,hv]);rw [hv] at CV;clear hv;by_cases h0:0<=x;all_goals
   go_enter zi,zq;go_wp2_with (first
    | (go_at_call 83;refine (aB CV _).mono ?_;rintro e w1 ⟨rfl,hb1⟩;obtain ⟨q1,q2,q3⟩:=jL hb1;have HB1:=aA q3;clear hb1 q3))
   go_ret;refine ⟨cH ?_,HB1.out⟩;rw [HE.out,zt];simp;try omega
theorem aRk(l:List Nd)(h:¬l.length<=60):fK l=false:=by simp [fK,h]
theorem aRl(l:List Nd)(h:l.length<=60):fK l=aW l 1:=by simp [fK,h]
theorem aRm(a:Option Addr)(cp:Nat)(l:List Nd)(w:World)(h:cM w a l)(hT:jY w) :
  Calls zw 86 #[.slice a l.length cp] w λe w'=>e=.returned (.bool (fK l))/\Below w.heap.size w w':=by
 have hfew:=h.few;by_cases h60:l.length<=60
 ·have HE:=aA (aRl l h60);have HT:=aA hT;clear hT;go_enter Tryz.func86,Tryz.ntmps86;go_wp2;go_loopw [3,11] (λq i wr=>∃k m:Nat,k<=l.length/\m<=1+5*k/\i=.int .i64 k/\q=.int .i64 m/\Below w.heap.size w wr/\aW l 1=aW (l.drop k) m) (λ_ i _=>l.length-(intOf i).toNat);case atStart=>exact ⟨0,1,by omega,by omega,rfl,rfl,Below.refl _ _,rfl⟩
  case round=>
   obtain ⟨k,m,hk,hm,rfl,rfl,hbel,hg⟩:=hrel;by_cases hlt:k<l.length
   ·obtain ⟨b,o,rfl,e1,f1⟩:=h.cell k hlt;have e2:=Below.at' hbel (zz _) e1;have f2:=Below.at' hbel (zz _) f1;have hsh:=h.short k hlt;have hbs:=hbel.size;clear e1 f1 h;by_cases hm0:m=0
    ·subst hm0;rw [aE9 l k hlt] at hg;have HR:Hid (fK l=false):=HE.out.trans hg;have HB:=aA hbel;clear hg hbel;go_wp2;go_ret;exact ⟨cH HR.out.symm,HB.out.alloc HB.out.size _⟩
    ·have hb1:((m:Int) == 0)=false:=by rw [beq_eq_false_iff_ne];omega
     have hon:=aEb l k m hlt hm0;have hbad:=aEa l k m hlt;generalize l[k]=nd at *;obtain ⟨s,x⟩:=nd;simp only at e2 f2 hsh;have CN:=aA (λwx (hx:jY wx)=>aRj s x wx hsh hx);have CV:=aA (λwx=>aHl s x wx);have HB:=aA hbel;have hTA:=aA (HT.out.below (hbel.alloc hbs (.cells #[.string s,.int .i64 x] 36)) (zz _));by_cases hok:dU (s,x)=true
     ·have HG:=aA (hg.trans (hon hok));simp only [hok] at CN;clear hg hon hbad hbel;by_cases hv:s.toList.isEmpty=true
      ·have HW:Hid (bK (s,x)=0):=by unfold bK aF;rw [if_pos hv];exact rfl
       rw [if_pos hv] at CV;clear hok hv;go_wp2_with (first
        | (go_at_call 113;refine (aB CN _ hTA.out).mono ?_;rintro e w1 ⟨rfl,hb1⟩;obtain ⟨q1,q2,q3⟩:=jL hb1;have HB1:=aA (HB.out.trans (q3.mono hbs));have h1s:=HB1.out.size;have hq1:=q3.size;clear hb1 q3)
        | (go_at_call 91;refine (aB CV _).mono ?_;rintro e w2 ⟨rfl,hb2⟩;have q5:=Below.at' hb2 (zz _) q1;have q6:=Below.at' hb2 (zz _) q2;have HB2:=aA (HB1.out.trans (hb2.mono h1s));clear hb2))
       go_roundw;case rel=>exact ⟨k+1,m-1,by omega,by omega,by go_num,by go_num,HB2.out,by rw [HG.out,HW.out];rfl⟩
       case measure=>simp [intOf];omega
      ·have HW:Hid (bK (s,x)=x.toNat):=by unfold bK aF;rw [if_neg hv];exact rfl
       have hv':s.toList.isEmpty=false:=by simpa using hv
       have hx:fW s=true/\0<=x/\x<=5:=by simpa [dU,aF,hv] using hok
       obtain ⟨_,hx1,hx2⟩:=hx;rw [if_neg hv] at CV;clear hok hv hv';go_wp2_with (first
        | (go_at_call 113;refine (aB CN _ hTA.out).mono ?_;rintro e w1 ⟨rfl,hb1⟩;obtain ⟨q1,q2,q3⟩:=jL hb1;have HB1:=aA (HB.out.trans (q3.mono hbs));have h1s:=HB1.out.size;have hq1:=q3.size;clear hb1 q3)
        | (go_at_call 91;refine (aB CV _).mono ?_;rintro e w2 ⟨rfl,hb2⟩;have q5:=Below.at' hb2 (zz _) q1;have q6:=Below.at' hb2 (zz _) q2;have HB2:=aA (HB1.out.trans (hb2.mono h1s));clear hb2))
       go_roundw;case rel=>exact ⟨k+1,m-1+x.toNat,by omega,by omega,by go_num,by go_num,HB2.out,by rw [HG.out,HW.out]⟩
       case measure=>simp [intOf];omega
     ·have hok':dU (s,x)=false:=by simpa using hok
      rw [hbad hok'] at hg;have HR:Hid (fK l=false):=HE.out.trans hg;simp only [hok'] at CN;clear hg hon hbad hbel hok hok';go_wp2_with (first
       | (go_at_call 113;refine (aB CN _ hTA.out).mono ?_;rintro e w1 ⟨rfl,hb1⟩;obtain ⟨q1,q2,q3⟩:=jL hb1;have HB1:=aA (HB.out.trans (q3.mono hbs));clear hb1 q3))
      go_ret;exact ⟨cH HR.out.symm,HB1.out⟩
   ·have hd:l.drop k=[]:=List.drop_eq_nil_of_le (by omega);rw [hd] at hg;have HR:Hid (fK l=decide (m=0)):=HE.out.trans hg;have HB:=aA hbel;clear hg hd hbel;go_wp2;go_ret;refine ⟨cH ?_,HB.out⟩;rw [HR.out,zt];simp
 ·have HE:=aA (aRk l h60);clear h hT;go_enter Tryz.func86,Tryz.ntmps86;go_wp2;go_ret;exact ⟨cH HE.out.symm,Below.refl _ _⟩
theorem aRn(a:Option Addr)(cp:Nat)(l:List Nd)(w:World)(h:cM w a l)(hT:jY w) :
  Calls zw 54 #[.slice a l.length cp] w λe w'=>e=.returned (.bool (fH l))/\Below w.heap.size w w':=by
 have cT:=aRm a cp l w h hT;by_cases ht:fK l=true
 ·cases l with
  | nil=>rw [aFv] at ht;exact absurd ht (by simp)
  | cons n0 r=>
   rw [ht] at cT;obtain ⟨b0,o0,rfl,e0,f0⟩:=h.cell 0 (by simp);simp only [List.getElem_cons_zero,Nat.zero_mul,Nat.add_zero] at e0 f0;obtain ⟨s0,x0⟩:=n0;simp only at e0 f0;have HE:=aA (show fH ((s0,x0) :: r) = !s0.toList.isEmpty by simp [fH,ht,aF]);have CT:=aA cT;have CV:=aA (λwx=>qI s0 x0 wx);have hfl:=h.few;simp only [zm] at hfl;clear cT ht h hT;go_enter Tryz.func54,Tryz.ntmps54;go_wp2_with (first
    | (go_at_call 86;refine (aB CT).mono ?_;rintro e w1 ⟨rfl,hb1⟩;have q1:=Below.at' hb1 (zz _) e0;have q2:=Below.at' hb1 (zz _) f0;have HB1:=aA hb1;have h1s:=hb1.size;clear hb1)
    | (go_at_call 83;refine (aB CV _).mono ?_;rintro e w2 ⟨rfl,hb2⟩;have HB2:=aA (HB1.out.trans (hb2.mono h1s));clear hb2))
   go_ret;exact ⟨cH HE.out.symm,HB2.out⟩
 ·have ht':fK l=false:=by simpa using ht
  rw [ht'] at cT;have HE:=aA (show fH l=false by simp [fH,ht']);have CT:=aA cT;clear cT ht ht' h hT;go_enter Tryz.func54,Tryz.ntmps54;go_wp2_with (go_at_call 86;refine (aB CT).mono ?_;rintro e w1 ⟨rfl,hb1⟩;have HB1:=aA hb1;clear hb1);go_ret;exact ⟨cH HE.out.symm,HB1.out⟩
end
section
open Go.RowKit
def iX(st:Option Int)(n:Nd):Option Int:=
 match st with
 | none=>none
 | some x=>if aF n then (if x<n.2 then none else if n.2=x then some (x+1) else some x) else some x
def eM(l:List Nd)(st:Option Int):Option Int:=l.foldl iX st
def lV(c:List Lt):Option Int:=c.foldl (λst x=>eM x.2 st) (some 0)
theorem aC4(l:List Nd):eM l none=none:=by
 induction l with
 | nil=>rfl
 | cons x r ih=>simpa [eM,iX] using ih
theorem aRo(l:List Nd)(st:Option Int)(k:Nat)(h:k<l.length):eM (l.take (k+1)) st=iX (eM (l.take k) st) l[k]:=by rw [zx h];simp only [eM,zv,zy,List.foldl_nil]
theorem aRp(c:List Lt)(k:Nat)(h:k<c.length):lV (c.take (k+1))=eM c[k].2 (lV (c.take k)):=by rw [zx h];simp only [lV,zv,zy,List.foldl_nil]
theorem aRq(l:List Nd)(st:Option Int)(k:Nat):eM l st=eM (l.drop k) (eM (l.take k) st):=by
 conv=>lhs;rw [<-zd k l]
 simp only [eM,zv]
theorem aRr(c:List Lt)(k:Nat):lV c=(c.drop k).foldl (λst x=>eM x.2 st) (lV (c.take k)):=by
 conv=>lhs;rw [<-zd k c]
 simp only [lV,zv]
theorem aHm(c:List Lt):c.foldl (λst x=>eM x.2 st) none=none:=by
 induction c with
 | nil=>rfl
 | cons x r ih=>simp only [zy,aC4,ih]
def dD(m:Nat):List Int:=(List.range m).map Int.ofNat
theorem aHn(m:Nat):dD (m+1)=dD m++[(m:Int)]:=by simp [dD,List.range_succ]
theorem aHo(m:Nat):(dD m).length=m:=by simp [dD]
theorem aHp(m:Nat)(x:Int):eF (dD m) x=if 0<=x/\x<m then x else -1:=by
 induction m with
 | zero=>simp [dD,aEc];omega
 | succ m ih=>
  rw [aHn,vU,aHo,ih];by_cases h:(m:Int)=x
  ·subst h;rw [if_pos rfl,if_pos (by omega)]
  ·rw [if_neg h];by_cases h2:0<=x/\x<m
   ·rw [if_pos h2,if_pos (by omega)]
   ·rw [if_neg h2,if_neg (by omega)]
def pB(l:List Nd):Prop:=∀n∈l,aF n=true->0<=n.2
theorem aHq(out:List Nd)(m:Nat)(n:Nd)(hv:aF n=true)(h:¬(0<=n.2/\n.2<m)):cZ (out,dD m) n=(out++[(n.1,(m:Int))],dD m++[n.2]):=by
 have hp:eF (dD m) n.2=-1:=by rw [aHp,if_neg h]
 unfold cZ;rw [if_pos hv];show (if eF (dD m) n.2<0 then (out++[(n.1,((dD m).length:Int))],dD m++[n.2]) else (out++[(n.1,eF (dD m) n.2)],dD m))=_;rw [hp,if_pos (by omega),aHo]
theorem aRs(out:List Nd)(m:Nat)(n:Nd)(hv:aF n=true)(h:0<=n.2/\n.2<m):cZ (out,dD m) n=(out++[n],dD m):=by
 have hp:eF (dD m) n.2=n.2:=by rw [aHp,if_pos h]
 unfold cZ;rw [if_pos hv];show (if eF (dD m) n.2<0 then (out++[(n.1,((dD m).length:Int))],dD m++[n.2]) else (out++[(n.1,eF (dD m) n.2)],dD m))=_;rw [hp,if_neg (by omega)]
theorem aHr(out:List Nd)(m:Nat)(n:Nd)(hn:aF n=true->0<=n.2)(m':Int)(h:iX (some (m:Int)) n=some m'):∃k:Nat,m'=k/\cZ (out,dD m) n=(out++[n],dD k):=by
 simp only [iX] at h;by_cases hv:aF n=true
 ·have h0:=hn hv;rw [if_pos hv] at h;by_cases h1:(m:Int)<n.2
  ·rw [if_pos h1] at h;simp at h
  ·rw [if_neg h1] at h;by_cases h2:n.2=(m:Int)
   ·rw [if_pos h2] at h;simp at h;refine ⟨m+1,by omega,?_⟩;rw [aHq out m n hv (by omega),aHn,<-h2]
   ·rw [if_neg h2] at h;simp at h;exact ⟨m,by omega,aRs out m n hv (by omega)⟩
 ·rw [if_neg hv] at h;simp at h;refine ⟨m,by omega,?_⟩;unfold cZ;rw [if_neg hv]
theorem aRt(l:List Nd):∀(out:List Nd) (m:Nat),pB l->∀m',eM l (some (m:Int))=some m'->∃k:Nat,m'=k/\l.foldl cZ (out,dD m)=(out++l,dD k):=by
 induction l with
 | nil=>intro out m _ m' h;simp [eM] at h;exact ⟨m,by omega,by simp⟩
 | cons n r ih=>
  intro out m hn m' h;simp only [eM,zy] at h ⊢;cases hs:iX (some (m:Int)) n with
  | none=>rw [hs] at h;rw [show List.foldl iX none r=none from aC4 r] at h;simp at h
  | some x=>
   rw [hs] at h;obtain ⟨k,rfl,hk⟩:=aHr out m n (hn n (by simp)) x hs;rw [hk];obtain ⟨j,hj1,hj2⟩:=ih (out++[n]) k (λy hy=>hn y (by simp [hy])) m' h;exact ⟨j,hj1,by rw [hj2];simp⟩
theorem aRu(l:List Nd):∀st:List Nd×List Int,∃t,(l.foldl cZ st).1=st.1++t/\t.length=l.length:=by
 induction l with
 | nil=>intro st;exact ⟨[],by simp,rfl⟩
 | cons n r ih=>
  intro st;obtain ⟨t,h1,h2⟩:=ih (cZ st n);have:∃x,(cZ st n).1=st.1++[x]:=by
   unfold cZ;split
   ·split <;> exact ⟨_,rfl⟩
   ·exact ⟨_,rfl⟩
  obtain ⟨x,hx⟩:=this;exact ⟨x :: t,by rw [zy,h1,hx];simp,by simp [h2]⟩
theorem aRv(l:List Nd):∀(out:List Nd) (m:Nat),pB l->eM l (some (m:Int))=none->(l.foldl cZ (out,dD m)).1≠out++l:=by
 induction l with
 | nil=>intro out m _ h;simp [eM] at h
 | cons n r ih=>
  intro out m hn h;simp only [eM,zy] at h ⊢;cases hs:iX (some (m:Int)) n with
  | none=>
   have hv:aF n=true:=by
    cases hv:aF n
    ·simp [iX,hv] at hs
    ·rfl
   have hlt:(m:Int)<n.2:=by
    by_cases hlt:(m:Int)<n.2
    ·exact hlt
    ·exfalso;simp only [iX,if_pos hv,if_neg hlt] at hs;split at hs <;> simp at hs
   have h0:=hn n (by simp) hv;have hr:=aHq out m n hv (by omega);rw [hr];obtain ⟨t,ht,_⟩:=aRu r (out++[(n.1,(m:Int))],dD m++[n.2]);rw [ht];intro he;simp only [z7,yy,ze] at he;have:=zk he;simp only [List.cons.injEq] at this;have h2:=congrArg Prod.snd this.1;simp at h2;omega
  | some x=>
   rw [hs] at h;obtain ⟨k,rfl,hk⟩:=aHr out m n (hn n (by simp)) x hs;rw [hk];have:=ih (out++[n]) k (λy hy=>hn y (by simp [hy])) h;simpa using this
theorem aHs(l:List Nd)(m:Nat)(hn:pB l)(m':Int)(h:eM l (some (m:Int))=some m'):∃k:Nat,m'=k/\cE l (dD m)=(l,dD k):=by have:=aRt l [] m hn m' h;simpa [cE] using this
theorem aRw(l:List Nd)(m:Nat)(hn:pB l)(h:eM l (some (m:Int))=none):(cE l (dD m)).1≠l:=by have:=aRv l [] m hn h;simpa [cE] using this
theorem aRx(c:List Lt):∀(out:List Lt) (m:Nat),(∀x∈c,pB x.2)->∀m',c.foldl (λst x=>eM x.2 st) (some (m:Int))=some m'->∃k:Nat,c.foldl eB (out,dD m)=(out++c,dD k):=by
 induction c with
 | nil=>intro out m _ m' h;exact ⟨m,by simp⟩
 | cons x r ih=>
  intro out m hn m' h;simp only [zy] at h ⊢;cases hs:eM x.2 (some (m:Int)) with
  | none=>rw [hs,aHm] at h;simp at h
  | some y=>
   rw [hs] at h;obtain ⟨k,rfl,hk⟩:=aHs x.2 m (hn x (by simp)) y hs;have:eB (out,dD m) x=(out++[x],dD k):=by simp [eB,hk]
   rw [this];obtain ⟨j,hj⟩:=ih (out++[x]) k (λy hy=>hn y (by simp [hy])) m' h;exact ⟨j,by rw [hj];simp⟩
theorem aRy(c:List Lt):∀st:List Lt×List Int,∃t,(c.foldl eB st).1=st.1++t:=by
 induction c with
 | nil=>intro st;exact ⟨[],by simp⟩
 | cons x r ih=>
  intro st;obtain ⟨t,h1⟩:=ih (eB st x);exact ⟨(x.1,(cE x.2 st.2).1) :: t,by rw [zy,h1];simp [eB]⟩
theorem aRz(c:List Lt):∀(out:List Lt) (m:Nat),(∀x∈c,pB x.2)->c.foldl (λst x=>eM x.2 st) (some (m:Int))=none->(c.foldl eB (out,dD m)).1≠out++c:=by
 induction c with
 | nil=>intro out m _ h;simp at h
 | cons x r ih=>
  intro out m hn h;simp only [zy] at h ⊢;cases hs:eM x.2 (some (m:Int)) with
  | none=>
   have hb:=aRw x.2 m (hn x (by simp)) hs;obtain ⟨t,ht⟩:=aRy r (eB (out,dD m) x);rw [ht];intro he;simp only [eB,z7,yy,ze] at he;have:=zk he;simp only [List.cons.injEq] at this;have h2:=congrArg Prod.snd this.1;exact hb h2
  | some y=>
   rw [hs] at h;obtain ⟨k,rfl,hk⟩:=aHs x.2 m (hn x (by simp)) y hs;have:eB (out,dD m) x=(out++[x],dD k):=by simp [eB,hk]
   rw [this];have:=ih (out++[x]) k (λy hy=>hn y (by simp [hy])) h;simpa using this
theorem aHt(c:List Lt):∀acc:List Lt,(c.foldl eH acc).length=acc.length+c.length->c.foldl eH acc=acc++c:=by
 induction c with
 | nil=>intro acc _;simp
 | cons x r ih=>
  intro acc h;simp only [zy,zm] at h ⊢;have hle:∀(r acc:List Lt),(r.foldl eH acc).length<=acc.length+r.length:=by
   intro r;induction r with
   | nil=>intro acc;simp
   | cons y r ih=>
    intro acc;have:=ih (eH acc y);have h1:(eH acc y).length<=acc.length+1:=by unfold eH;split <;> simp
    simp only [zy,zm];omega
  by_cases hm:eK acc x=true
  ·have h1:eH acc x=acc:=by simp [eH,hm]
   rw [h1] at h;have:=hle r acc;omega
  ·have h1:eH acc x=acc++[x]:=by simp [eH,hm]
   rw [h1] at h ⊢;have:=ih (acc++[x]) (by simp;omega);rw [this];simp
theorem aS0(c:List Lt)(hn:∀x∈c,pB x.2):decide (c=aR c)=(decide ((cJ c).length=c.length) && (lV c).isSome):=by
 rw [zt];simp only [decide_eq_true_eq,Bool.and_eq_true];have hz:dD 0=[]:=rfl;constructor
 ·intro h;have hl:(cJ c).length=c.length:=by
   have h1:=(pA (cJ c)).1;have h2:(aR c).length=(cJ c).length:=h1;rw [<-h] at h2;exact h2.symm
  have hd:cJ c=c:=by have:=aHt c [] (by simpa [cJ] using hl);simpa [cJ] using this
  refine ⟨hl,?_⟩;cases hc:lV c with
  | none=>
   exfalso;have:=aRz c [] 0 hn hc;rw [hz] at this;apply this;rw [ze];conv=>rhs;rw [h]
   unfold aR cL;rw [hd]
  | some y=>rfl
 ·rintro ⟨hl,hs⟩;have hd:cJ c=c:=by
   have:=aHt c [] (by simpa [cJ] using hl);simpa [cJ] using this
  obtain ⟨y,hy⟩:=Option.isSome_iff_exists.1 hs;obtain ⟨k,hk⟩:=aRx c [] 0 hn y hy;rw [hz] at hk;unfold aR cL;rw [hd,hk];simp
theorem aS1{l:List Nd}(h:fH l=true):pB l:=by
 have ht:aW l 1=true:=by
  have:fK l=true:=by simp [fH] at h;exact h.1
  have:aW l 1=true/\l.length<=60:=by simpa [fK] using this
  exact this.1
 clear h;generalize 1=q at ht;intro n hn hv;induction l generalizing q with
 | nil=>simp at hn
 | cons x r ih=>
  simp only [aW] at ht;split at ht
  ·simp at ht
  ·split at ht
   ·next hok=>
    rcases List.mem_cons.1 hn with rfl | hn
    ·have:0<=n.2/\n.2<60:=by simpa [dU,hv] using hok
     exact this.1
    ·exact ih _ ht hn
   ·simp at ht
end
section
open Go.RowKit Go.Shelf
theorem aS2(c:List Lt)(k:Nat)(h:k<c.length)(n:Nat)(hn:n<c[k].2.length)(x:Int)(hx:eM (c[k].2.take n) (lV (c.take k))=some x)(hb:iX (some x) c[k].2[n]=none):lV c=none:=by
 rw [aRr c k,zs h,zy,aRq c[k].2 _ n,hx,zs hn];have:eM (c[k].2[n] :: c[k].2.drop (n+1)) (some x)=none:=by show eM (c[k].2.drop (n+1)) (iX (some x) c[k].2[n])=none;rw [hb,aC4]
 rw [this,aHm]
theorem aS3(a:Option Addr)(cp:Nat)(c:List Lt)(w:World)(h:bD w a c)(h60:aK c<=60) :
  Calls zw 87 #[.slice a c.length cp] w λe w'=>e=.returned (.bool (lV c).isSome)/\Below w.heap.size w w':=by
 have hf:=h.few;have HH:=aA h;clear h;go_enter Tryz.func87,Tryz.ntmps87;go_wp2;go_loopw [3,10] (λnx i wr=>∃(k:Nat) (x:Int),k<=c.length/\i=.int .i64 k/\nx=.int .i64 x/\0<=x/\x<=aK (c.take k)/\lV (c.take k)=some x/\Below w.heap.size w wr) (λ_ i _=>c.length-(intOf i).toNat);case atStart=>exact ⟨0,0,yu _,rfl,rfl,by omega,by simp,rfl,Below.refl _ _⟩
 case round=>
  obtain ⟨k,x,hk,rfl,rfl,hx0,hx1,hnc,hb⟩:=hrel;have hct:=rW c k;by_cases hlt:k<c.length
  ·obtain ⟨b,q,aa,acp,rfl,e1,f1,g1⟩:=HH.out.cell k hlt;have e2:=Below.at' hb (zz _) e1;have f2:=Below.at' hb (zz _) f1;have hcs:=rW c (k+1);rw [zx hlt,oD] at hcs;have HS:=aA (aRp c k hlt);have HCS:Hid (aK (c.take (k+1))=aK (c.take k)+c[k].2.length):=by
    rw [zx hlt,oD];exact rfl
   have HE:=aA (λn hn y=>aS2 c k hlt n hn y);rw [hnc] at HS HE;have HG:=aA g1;have HB:=aA hb;have hbs:=hb.size;generalize c[k]=z at *;obtain ⟨zb,zl⟩:=z;simp only at e2 f2 HS HE HG HCS hcs;have hzl:=HG.out.few;clear e1 f1 g1 hb hnc;go_wp2;go_loopw [3,17] (λnx j wi=>∃(n:Nat) (y:Int),n<=zl.length/\j=.int .i64 n/\nx=.int .i64 y/\0<=y/\y<=aK (c.take k)+n/\eM (zl.take n) (some x)=some y/\Below w.heap.size w wi) (λ_ j _=>zl.length-(intOf j).toNat);case atStart=>exact ⟨0,x,yu _,rfl,rfl,hx0,by omega,rfl,HB.out.alloc hbs _⟩
   case round=>
    obtain ⟨n,y,hn,rfl,rfl,hy0,hy1,hny,hb2⟩:=hrel;by_cases hnl:n<zl.length
    ·obtain ⟨b3,o3,rfl,e3,f3⟩:=HG.out.cell n hnl;have q3:=Below.at' hb2 (zz _) e3;have q4:=Below.at' hb2 (zz _) f3;have HT:=aA (aRo zl (some x) n hnl);have HX:=aA (HE.out n hnl y hny);rw [hny] at HT;generalize zl[n]=nd at *;obtain ⟨s,v⟩:=nd;simp only at q3 q4;have CV:=aA (λwx=>qI s v wx);have HB2:=aA hb2;have hb2s:=hb2.size;clear e3 f3 hny hb2;cases hv:s.toList.isEmpty
     ·have HN:Hid (iX (some y) (s,v)=some y):=aA (by simp [iX,aF,hv]);rw [hv] at CV;rw [HN.out] at HT;clear hv HX HN;go_wp2_with (go_at_call 83;refine (aB CV _).mono ?_;rintro e w1 ⟨rfl,hb1⟩;obtain ⟨r1,r2,r3⟩:=jL hb1;have HB3:=aA (HB2.out.trans (r3.mono hb2s));clear hb1 r3);go_roundw;case rel=>exact ⟨n+1,y,by omega,by go_num,rfl,hy0,by omega,HT.out,HB3.out⟩
      case measure=>simp [intOf];omega
     ·rw [hv] at CV;by_cases h1:y<v
      ·have HN:=aA (HX.out (by simp [iX,aF,hv,h1]));clear hv HX HT;go_wp2_with (go_at_call 83;refine (aB CV _).mono ?_;rintro e w1 ⟨rfl,hb1⟩;obtain ⟨r1,r2,r3⟩:=jL hb1;have HB3:=aA (HB2.out.trans (r3.mono hb2s));clear hb1 r3);go_ret;exact ⟨cH (by rw [HN.out];rfl),HB3.out⟩
      ·by_cases h2:v=y
       ·have HN:Hid (iX (some y) (s,v)=some (y+1)):=aA (by simp [iX,aF,hv,h2]);rw [HN.out] at HT;have h2':(v == y)=true:=by simp [h2]
        clear hv HX HN h2;go_wp2_with (go_at_call 83;refine (aB CV _).mono ?_;rintro e w1 ⟨rfl,hb1⟩;obtain ⟨r1,r2,r3⟩:=jL hb1;have HB3:=aA (HB2.out.trans (r3.mono hb2s));clear hb1 r3);go_roundw;case rel=>exact ⟨n+1,y+1,by omega,by go_num,by go_num,by omega,by omega,HT.out,HB3.out⟩
        case measure=>simp [intOf];omega
       ·have HN:Hid (iX (some y) (s,v)=some y):=aA (by simp only [iX,aF,hv,if_true,if_neg h1,if_neg h2]);rw [HN.out] at HT;have h2':(v == y)=false:=by simp [h2]
        clear hv HX HN h2;go_wp2_with (go_at_call 83;refine (aB CV _).mono ?_;rintro e w1 ⟨rfl,hb1⟩;obtain ⟨r1,r2,r3⟩:=jL hb1;have HB3:=aA (HB2.out.trans (r3.mono hb2s));clear hb1 r3);go_roundw;case rel=>exact ⟨n+1,y,by omega,by go_num,rfl,hy0,by omega,HT.out,HB3.out⟩
        case measure=>simp [intOf];omega
    ·have hn1:zl.take n=zl:=zu (by omega);rw [hn1] at hny;have HN:=aA (HS.out.trans hny);have HB2:=aA hb2;have hnn:n=zl.length:=by omega
     have hyy:y<=aK (c.take k)+zl.length:=by omega
     clear hny hb2 hn1 HE HS;go_wp2;go_roundw;case rel=>exact ⟨k+1,y,by omega,by go_num,rfl,hy0,by rw [HCS.out];omega,HN.out,HB2.out⟩
     case measure=>simp [intOf];omega
  ·have hk1:c.take k=c:=zu (by omega);rw [hk1] at hnc;have HN:=aA hnc;have HB:=aA hb;clear hk1 hnc hb;go_wp2;go_ret;exact ⟨cH (by rw [HN.out];rfl),HB.out⟩
theorem aS4(a:Option Addr)(cp:Nat)(c:List Lt)(w:World)(h:bD w a c)(h60:aK c<=60)(hn:∀x∈c,pB x.2) :
  Calls zw 55 #[.slice a c.length cp] w λe w'=>e=.returned (.bool (decide (c=aR c)))/\Below w.heap.size w w':=by
 have HE:=aA (aS0 c hn);have CD:=aA (aHj a cp c w h);have hf:=h.few;have hdb:=(qG c).1;have CN:=aA (λwx (hx:bD wx a c)=>aS3 a cp c wx hx h60);have HH:=aA h;clear h hn;by_cases hl:(cJ c).length=c.length
 ·have hle:(((cJ c).length:Int) == (c.length:Int))=true:=by rw [beq_iff_eq];omega
  have HR:Hid (decide (c=aR c)=(lV c).isSome):=aA (by rw [HE.out,hl];simp);clear hl;generalize hdl:(cJ c).length=m at *;go_enter Tryz.func55,Tryz.ntmps55;go_wp2_with (first
   | (go_at_call 85;refine (aB CD).mono ?_;rintro e w1 ⟨v,P,rfl,hP,hA,ho,hb⟩;obtain ⟨va,vcp,rfl⟩:=aS ho;have hPl:P.length=m:=(by rw [<-hdl,<-hP];simp);rw [hPl];have HB:=aA hb;have hbs:=hb.size;clear hP hA ho hb hPl)
   | (go_at_call 87;refine (aB CN _ (HH.out.below HB.out (zz _))).mono ?_;rintro e w2 ⟨rfl,hb2⟩;have HB2:=aA (HB.out.trans (hb2.mono hbs));clear hb2))
  go_ret;exact ⟨cH HR.out.symm,HB2.out⟩
 ·have hle:(((cJ c).length:Int) == (c.length:Int))=false:=by rw [beq_eq_false_iff_ne];omega
  have HR:Hid (decide (c=aR c)=false):=aA (by rw [HE.out];simp [hl]);clear hl;generalize hdl:(cJ c).length=m at *;go_enter Tryz.func55,Tryz.ntmps55;go_wp2_with (first
   | (go_at_call 85;refine (aB CD).mono ?_;rintro e w1 ⟨v,P,rfl,hP,hA,ho,hb⟩;obtain ⟨va,vcp,rfl⟩:=aS ho;have hPl:P.length=m:=(by rw [<-hdl,<-hP];simp);rw [hPl];have HB:=aA hb;clear hP hA ho hb hPl))
  go_ret;exact ⟨cH HR.out.symm,HB.out⟩
theorem aHu(a:Option Addr)(cp:Nat)(c:List Lt)(w:World)(h:bD w a c)(hT:jY w) :
  Calls zw 35 #[.slice a c.length cp] w λe w'=>e=.returned (.bool (dB c))/\Below w.heap.size w w':=by
 have hf:=h.few;have cF:=zH a cp c w h;have HT:=aA hT;have HH:=aA h;clear hT;by_cases hfit:dL c=true
 ·have hcount:c.length<=8/\aK c<=60:=by simpa [dL] using hfit
  rw [hfit] at cF;have HF:=aA cF;have HE:Hid (dB c=((c.all λl=>fH l.2) && decide (c=aR c))):=by unfold dB;rw [hfit];exact Bool.true_and _▸rfl
  obtain ⟨h8,h60⟩:=hcount;clear cF hfit h;go_enter Tryz.func35,Tryz.ntmps35;go_wp2_with (go_at_call 53;refine (aB HF).mono ?_;rintro e w0 ⟨rfl,hb0⟩);go_loopw [10] (λi wr=>∃k:Nat,k<=c.length/\i=.int .i64 k/\Below w.heap.size w wr/\((c.take k).all λl=>fH l.2)=true) (λi _=>c.length-(intOf i).toNat);case atStart=>exact ⟨0,yu _,rfl,hb0,rfl⟩
  case round=>
   obtain ⟨k,hk,rfl,hb,hall⟩:=hrel;by_cases hlt:k<c.length
   ·obtain ⟨b,q,aa,acp,rfl,e1,f1,g1⟩:=HH.out.cell k hlt;have e2:=Below.at' hb (zz _) e1;have f2:=Below.at' hb (zz _) f1;have HSN:Hid (((c.take (k+1)).all λl=>fH l.2)=fH c[k].2):=by
     rw [zx hlt,List.all_append,hall];exact Bool.and_true _▸rfl
    have HN:Hid (fH c[k].2=false->dB c=false):=λhx=>by
     rw [HE.out,Bool.and_eq_false_iff];left;rw [List.all_eq_false];exact ⟨c[k],List.getElem_mem _,by simp [hx]⟩
    have hbs:=hb.size;generalize c[k]=x at *;obtain ⟨xb,xl⟩:=x;simp only at e2 f2 g1;have hbx:Below w.heap.size w (wr.alloc (.cells #[.bool xb,.slice aa xl.length acp] 39)):=hb.alloc hbs _;have cA:=aRn aa acp xl _ (g1.below hbx (zz _)) (HT.out.below hbx (zz _));have HBX:=aA hbx;clear e1 f1 hall hb g1 hbx;cases ha:fH xl
    ·rw [ha] at cA;have HV:=aA (HN.out ha);have CA:=aA cA;clear cA ha HN HSN;go_wp2_with (go_at_call 54;refine (aB CA).mono ?_;rintro e w1 ⟨rfl,hb1⟩;have HB1:=aA (HBX.out.trans (hb1.mono HBX.out.size));clear hb1);go_ret;exact ⟨cH HV.out.symm,HB1.out⟩
    ·rw [ha] at cA;have HV:=aA (HSN.out.trans ha);have CA:=aA cA;clear cA ha HN HSN;go_wp2_with (go_at_call 54;refine (aB CA).mono ?_;rintro e w1 ⟨rfl,hb1⟩;have HB1:=aA (HBX.out.trans (hb1.mono HBX.out.size));clear hb1);go_roundw;case rel=>exact ⟨k+1,by omega,by go_num,HB1.out,HV.out⟩
     case measure=>simp [intOf];omega
   ·have hk1:c.take k=c:=zu (by omega);rw [hk1] at hall;have HA:Hid (dB c=decide (c=aR c)):=by rw [HE.out,hall];exact Bool.true_and _▸rfl
    have hnn:∀x∈c,pB x.2:=λx hx=>aS1 (List.all_eq_true.1 hall x hx)
    have CO:=aA (aS4 a cp c wr (HH.out.below hb (zz _)) h60 hnn);have HB:=aA hb;have hbs:=hb.size;clear hk1 hall hb hnn;go_wp2_with (go_at_call 55;refine (aB CO).mono ?_;rintro e w1 ⟨rfl,hb1⟩;have HB1:=aA (HB.out.trans (hb1.mono hbs));clear hb1);go_ret;exact ⟨cH HA.out.symm,HB1.out⟩
 ·have hfit':dL c=false:=by simpa using hfit
  rw [hfit'] at cF;have HE:Hid (dB c=false):=by unfold dB;rw [hfit'];rfl
  have HF:=aA cF;clear cF hfit hfit' h;go_enter Tryz.func35,Tryz.ntmps35;go_wp2_with (go_at_call 53;refine (aB HF).mono ?_;rintro e w' ⟨rfl,hb⟩;have HB:=aA hb;clear hb);go_ret;exact ⟨cH HE.out.symm,HB.out⟩
end
end Go.Proofs.YtcldkjcpofjmhaaGreatDoor
