import Derived.Shelf.Strings.BuilderK
import Derived.Shelf.Strings.BuilderRune
import Derived.Shelf.Strings.Search3
import Derived.Shelf.Utf8.RuneCount
import Derived.Shelf.Unicode.ValidAny
import Derived.Shelf.Strconv.Itoa3
import Derived.Test.YtmelidkanelpbaaGreatDoorProg
import Derived.Test.YtmelidkanelpbaaGreatDoorText0G
import Derived.Test.YtmelidkanelpbaaGreatDoorRTermG
import Derived.Test.YtmelidkanelpbaaGreatDoorPCl0G
open Bool renaming eq_iff_iff→zo
namespace Go.Proofs.YtmelidkanelpbaaGreatDoor
open _root_.Go.Proofs.Tryz renaming prog→zz,ntmps143→zy,ntmps136→zx,underlying3→zw,underlying4→zv,underlying9→zu,func143→zt,func136→zs,zeroValue3→zr,zeroValue4→zq,zeroValue9→zp,underlying172→zn,sizeOf3→zm,sizeOf4→zl,sizeOf9→zk,zeroValue172→zj,underlying5→zi,underlying0→zh,isAgg3→zg,isAgg4→zf,isAgg9→ze
set_option maxHeartbeats 1000000
set_option maxRecDepth 100000
section
open Go.Shelf Go.Proofs
def zA:Go.Shelf.Ren:=⟨fun|143=>150|144=>147|195=>148|196=>146|217=>140|219=>151|224=>125|225=>126|259=>149|266=>145|267=>152|314=>153|n=>n,fun|0=>0|3=>3|4=>4|5=>5|9=>9|12=>12|46=>172|51=>197|53=>196|119=>192|138=>194|139=>195|146=>198|n=>n,fun|1=>0|3=>1|4=>2|n=>n⟩
theorem aZ4:Lays.n144 zz zA:={
 mixed:=by kernel_rfl
 f143:=Tryz.func150.trans (congrArg some (by kernel_rfl))
 f144:=Tryz.func147.trans (congrArg some (by kernel_rfl))
 f217:=Tryz.func140.trans (congrArg some (by kernel_rfl))
 f219:=Tryz.func151.trans (congrArg some (by kernel_rfl))
 f224:=Tryz.func125.trans (congrArg some (by kernel_rfl))
 f225:=Tryz.func126.trans (congrArg some (by kernel_rfl))
 f266:=Tryz.func145.trans (congrArg some (by kernel_rfl))
 f267:=Tryz.func152.trans (congrArg some (by kernel_rfl))
 f314:=Tryz.func153.trans (congrArg some (by kernel_rfl))
 t3:=zw
 a3:=zg
 z3:=zm
 v3:=zr
 t4:=zv
 a4:=zf
 z4:=zl
 v4:=zq
 t5:=zi
 a5:=Tryz.isAgg5
 z5:=Tryz.sizeOf5
 v5:=Tryz.zeroValue5
 t9:=zu
 a9:=ze
 z9:=zk
 v9:=zp
 t46:=zn
 a46:=Tryz.isAgg172
 z46:=Tryz.sizeOf172
 v46:=zj
 t51:=Tryz.underlying197
 a51:=Tryz.isAgg197
 z51:=Tryz.sizeOf197
 v51:=Tryz.zeroValue197
 t146:=Tryz.underlying198
 a146:=Tryz.isAgg198
 z146:=Tryz.sizeOf198
 v146:=Tryz.zeroValue198
 g1:=by kernel_rfl}
theorem aZ5:Lays.n195 zz zA:={
 mixed:=by kernel_rfl
 f195:=Tryz.func148.trans (congrArg some (by kernel_rfl))
 t0:=zh
 a0:=Tryz.isAgg0
 z0:=Tryz.sizeOf0
 v0:=Tryz.zeroValue0
 t3:=zw
 a3:=zg
 z3:=zm
 v3:=zr
 t4:=zv
 a4:=zf
 z4:=zl
 v4:=zq
 t9:=zu
 a9:=ze
 z9:=zk
 v9:=zp}
theorem aM3:Lays.n196 zz zA:={
 mixed:=by kernel_rfl
 f196:=Tryz.func146.trans (congrArg some (by kernel_rfl))
 f259:=Tryz.func149.trans (congrArg some (by kernel_rfl))
 t0:=zh
 a0:=Tryz.isAgg0
 z0:=Tryz.sizeOf0
 v0:=Tryz.zeroValue0
 t3:=zw
 a3:=zg
 z3:=zm
 v3:=zr
 t4:=zv
 a4:=zf
 z4:=zl
 v4:=zq
 t5:=zi
 a5:=Tryz.isAgg5
 z5:=Tryz.sizeOf5
 v5:=Tryz.zeroValue5
 t9:=zu
 a9:=ze
 z9:=zk
 v9:=zp
 t12:=Tryz.underlying12
 a12:=Tryz.isAgg12
 z12:=Tryz.sizeOf12
 v12:=Tryz.zeroValue12
 t46:=zn
 a46:=Tryz.isAgg172
 z46:=Tryz.sizeOf172
 v46:=zj
 t53:=Tryz.underlying196
 a53:=Tryz.isAgg196
 z53:=Tryz.sizeOf196
 v53:=Tryz.zeroValue196
 t119:=Tryz.underlying192
 a119:=Tryz.isAgg192
 z119:=Tryz.sizeOf192
 t138:=Tryz.underlying194
 a138:=Tryz.isAgg194
 z138:=Tryz.sizeOf194
 v138:=Tryz.zeroValue194
 t139:=Tryz.underlying195
 a139:=Tryz.isAgg195
 z139:=Tryz.sizeOf195
 v139:=Tryz.zeroValue195
 g3:=by kernel_rfl
 g4:=by kernel_rfl}
end
section
open Go.RowKit Go.Shelf
def kT(a:World):Prop:=Lib.Utf8Tabs (zA.g 3) (zA.g 4) a
theorem kT.below{w w1:World}(a:kT w){B:Nat}(k:Below B w w1)(b:w.heap.size<=B):kT w1:=
 ⟨λe f=>Below.at' k b (a.1 e f),λd c=>⟨Below.at' k b (a.2 d c).1,Below.at' k b (a.2 d c).2⟩⟩
theorem aZ6(a:ByteArray)(f:World)(x:a.size<=140737488355328)(k:kT f):Calls zz 143 #[.string a] f λc i=>c=.returned (.bool (eS a))/\aB f i:=by
 by_cases u:a.size<=80
 ·have p:Calls zz 146 #[.string a] f _:=Any.utf8_ValidString aM3 a f (by omega) k;have m:=λg=>(Any.strings_Contains_one aZ4 a 10 g:Calls zz 147 #[.string a,.string ⟨#[10]⟩] g _)
  have o:=λg=>(Any.utf8_RuneCountInString aZ5 a g (by omega):Calls zz 148 #[.string a] g _)
  have q:=aZp a;have w:=Lib.runeCount_le a;generalize Lib.validD a.data.toList=v at *;generalize decide (0<=Lib.indexByte a.data.toList 10)=n at *;generalize Lib.runeCount a=r at *;have e:=aA q;have j:=aA p;have l:=aA m;have s:=aA o;clear q p m o k;cases v
  ·go_enter zt,zy;go_wp2_with (go_at_call 146;refine (aD j).mono ?_;rintro c i ⟨rfl,b⟩;have d:=aA b;clear b);go_ret;exact ⟨dK (by rw [e.o];rfl),d.o⟩
  ·cases n
   ·go_enter zt,zy;go_wp2_with (first
     |(go_at_call 146;refine (aD j).mono ?_;rintro c i ⟨rfl,b⟩;have d:=aA b;clear b)
     |(go_at_call 147;refine (aD l _).mono ?_;rintro c t ⟨rfl,rfl⟩)
     |(go_at_call 148;refine (aD s _).mono ?_;rintro c z ⟨rfl,y,rfl⟩))
    all_goals
     go_ret;refine ⟨dK ?_,d.o.alloc d.o.size _⟩;rw [e.o,zo];simp;omega
   ·go_enter zt,zy;go_wp2_with (first
     |(go_at_call 146;refine (aD j).mono ?_;rintro c i ⟨rfl,b⟩;have d:=aA b;clear b)
     |(go_at_call 147;refine (aD l _).mono ?_;rintro c t ⟨rfl,rfl⟩))
    go_ret;exact ⟨dK (by rw [e.o];rfl),d.o⟩
 ·have e:aM (eS a=false):=by
   cases h:eS a
   ·exact rfl
   ·have:=(aM8 a h).2;omega
  clear k;go_enter zt,zy;go_wp2;go_ret;exact ⟨dK e.o.symm,Below.refl _ _⟩
theorem aEz(a:ByteArray)(b:Int)(g:World):Calls zz 121 #[.agg #[.string a,.int .i64 b]] g λd j=>d=.returned (.int .i64 (if a.toList.isEmpty then 0 else b))/\aB g j:=by
 have c:=aA (λk=>pQ a b k);cases hv:a.toList.isEmpty;all_goals
  rw [hv] at c;clear hv;go_enter Tryz.func121,Tryz.ntmps121;go_wp2_with (go_at_call 67;refine (aD c _).mono ?_;rintro d n ⟨rfl,e⟩;obtain ⟨l,m,f⟩:=jD e;have i:=aA f;clear e f);go_ret;exact ⟨rfl,i.o⟩
theorem aZ7(d:ByteArray)(a:Int)(j:World)(x:d.size<=140737488355328)(q:kT j):Calls zz 136 #[.agg #[.string d,.int .i64 a]] j λg z=>g=.returned (.bool (cZ (d,a)))/\aB j z:=by
 have f:=aA (λk=>pQ d a k);have r:aB j (j.alloc (.cells #[.string d,.int .i64 a] 117)):=(Below.refl _ _).alloc (Nat.le_refl _) _;have A:=aA r;have w:=aA q;clear r q;cases hv:d.toList.isEmpty
 ·have i:aM (cZ (d,a)=(eS d && (decide (0<=a) && decide (a<=5)))):=aA (by simp [cZ,aK,hv]);rw [hv] at f;by_cases l:0<=a
  ·by_cases p:a<=5
   ·have t:=aA (λk (y:kT k)=>aZ6 d k x y);clear hv;go_enter zs,zx;go_wp2_with (first
     |(go_at_call 67;refine (aD f _).mono ?_;rintro g o ⟨rfl,b⟩;obtain ⟨m,n,c⟩:=jD b;have e:=aA c;clear b c)
     |(go_at_call 143;refine (aD t _ (w.o.below e.o (Nat.le_refl _))).mono ?_;rintro g B ⟨rfl,s⟩;have u:=aA (bD e.o s);clear s))
    go_ret;refine ⟨dK ?_,u.o⟩;rw [i.o];simp [l,p]
   ·clear hv;go_enter zs,zx;go_wp2_with (first
     |(go_at_call 67;refine (aD f _).mono ?_;rintro g o ⟨rfl,b⟩;obtain ⟨m,n,c⟩:=jD b;have e:=aA c;clear b c))
    go_ret;refine ⟨dK ?_,e.o⟩;rw [i.o];simp [p]
  ·have v:=aA (show decide (0<=a)=false by simpa using l);clear hv;go_enter zs,zx;go_wp2_with (first
    |(go_at_call 67;refine (aD f _).mono ?_;rintro g o ⟨rfl,b⟩;obtain ⟨m,n,c⟩:=jD b;have e:=aA c;clear b c))
   go_ret;refine ⟨dK ?_,e.o⟩;rw [i.o,v.o];simp
 ·have i:aM (cZ (d,a)=(decide (0<=a) && decide (a<60))):=aA (by simp [cZ,aK,hv]);rw [hv] at f;clear hv;by_cases l:0<=a;all_goals
   go_enter zs,zx;go_wp2_with (first
    |(go_at_call 67;refine (aD f _).mono ?_;rintro g o ⟨rfl,b⟩;obtain ⟨m,n,c⟩:=jD b;have e:=aA c;clear b c))
   go_ret;refine ⟨dK ?_,e.o⟩;rw [i.o,zo];simp;try omega
theorem aZ8(a:List Nd)(b:¬a.length<=60):jA a=false:=by simp [jA,b]
theorem aZ9(a:List Nd)(b:a.length<=60):jA a=aQ a 1:=by simp [jA,b]
theorem aZa(N:Option Addr)(W:Nat)(a:List Nd)(v:World)(t:dV v N a)(E:kT v):Calls zz 116 #[.slice N a.length W] v λp a4=>p=.returned (.bool (jA a))/\aB v a4:=by
 have a7:=t.few;by_cases Q:a.length<=60
 ·have r:=aA (aZ9 a Q);have V:=aA E;clear E;go_enter Tryz.func116,Tryz.ntmps116;go_wp2;go_loopw [3,11] (λa1 L wr=>∃b e:Nat,b<=a.length/\e<=1+5*b/\L=.int .i64 b/\a1=.int .i64 e/\aB v wr/\aQ a 1=aQ (a.drop b) e) (λ_ L _=>a.length-(intOf L).toNat);case atStart=>exact ⟨0,1,by omega,by omega,rfl,rfl,Below.refl _ _,rfl⟩
  case round=>
   obtain ⟨b,e,a8,a9,rfl,rfl,c,d⟩:=hrel;by_cases u:b<a.length
   ·obtain ⟨a6,b2,rfl,O,P⟩:=t.cell b u;have X:=aC c O;have Y:=aC c P;have T:=t.short b u;have x:=c.size;clear O P t;by_cases S:e=0
    ·subst S;rw [aCe a b u] at d;have s:aM (jA a=false):=r.o.trans d;have l:=aA c;clear d c;go_wp2;go_ret;exact ⟨dK s.o.symm,l.o.alloc l.o.size _⟩
    ·have j:((e:Int)==0)=false:=by rw [beq_eq_false_iff_ne];omega
     have I:=aP5 a b e u S;have G:=aP4 a b e u;generalize a[b]=nd at *;obtain ⟨i,f⟩:=nd;simp only at X Y T;have q:=aA (λA (J:kT A)=>aZ7 i f A T J);have w:=aA (λA=>aEz i f A);have l:=aA c;have F:=aA (V.o.below (c.alloc x (.cells #[.string i,.int .i64 f] 117)) (Nat.le_refl _));by_cases o:cZ (i,f)=true
     ·have M:=aA (d.trans (I o));simp only [o] at q;clear d I G c;by_cases m:i.toList.isEmpty=true
      ·have C:aM (aX (i,f)=0):=by unfold aX aK;rw [aI m];exact rfl
       rw [aI m] at w;clear o m;go_wp2_with (first
        |(go_at_call 136;refine (aD q _ F.out).mono ?_;rintro p U ⟨rfl,j⟩;obtain ⟨y,z,g⟩:=jD j;have n:=aA (l.o.trans (g.mono x));have D:=n.o.size;have Z:=g.size;clear j g)
        |(go_at_call 121;refine (aD w _).mono ?_;rintro p a5 ⟨rfl,k⟩;have a2:=aC k y;have a3:=aC k z;have B:=aA (n.o.trans (k.mono D));clear k))
       go_roundw;case rel=>exact ⟨b+1,e-1,by omega,by omega,by go_num,by go_num,B.o,by rw [M.o,C.o];rfl⟩
       case measure=>simp [intOf];omega
      ·have C:aM (aX (i,f)=f.toNat):=by unfold aX aK;rw [aH m];exact rfl
       have a0:i.toList.isEmpty=false:=by simpa using m
       have J:eS i=true/\0<=f/\f<=5:=by simpa [cZ,aK,m] using o
       obtain ⟨_,b0,b1⟩:=J;rw [aH m] at w;clear o m a0;go_wp2_with (first
        |(go_at_call 136;refine (aD q _ F.out).mono ?_;rintro p U ⟨rfl,j⟩;obtain ⟨y,z,g⟩:=jD j;have n:=aA (l.o.trans (g.mono x));have D:=n.o.size;have Z:=g.size;clear j g)
        |(go_at_call 121;refine (aD w _).mono ?_;rintro p a5 ⟨rfl,k⟩;have a2:=aC k y;have a3:=aC k z;have B:=aA (n.o.trans (k.mono D));clear k))
       go_roundw;case rel=>exact ⟨b+1,e-1+f.toNat,by omega,by omega,by go_num,by go_num,B.o,by rw [M.o,C.o]⟩
       case measure=>simp [intOf];omega
     ·have H:cZ (i,f)=false:=by simpa using o
      rw [G H] at d;have s:aM (jA a=false):=r.o.trans d;simp only [H] at q;clear d I G c o H;go_wp2_with (first
       |(go_at_call 136;refine (aD q _ F.out).mono ?_;rintro p U ⟨rfl,j⟩;obtain ⟨y,z,g⟩:=jD j;have n:=aA (l.o.trans (g.mono x));clear j g))
      go_ret;exact ⟨dK s.o.symm,n.o⟩
   ·have R:a.drop b=[]:=List.drop_eq_nil_of_le (by omega);rw [R] at d;have s:aM (jA a=decide (e=0)):=r.o.trans d;have l:=aA c;clear d R c;go_wp2;go_ret;refine ⟨dK ?_,l.o⟩;rw [s.o,zo];simp
 ·have r:=aA (aZ8 a Q);clear t E;go_enter Tryz.func116,Tryz.ntmps116;go_wp2;go_ret;exact ⟨dK r.o.symm,Below.refl _ _⟩
end
