import Derived.Test.YtbpiopdphigodaaGreatDoorText0P
import Derived.Test.YtbpiopdphigodaaGreatDoorRPrim0P
import Derived.Test.YtbpiopdphigodaaGreatDoorRTermP
import Derived.Test.YtbpiopdphigodaaGreatDoorPCl0P
open Bool renaming eq_iff_iff→zv
namespace Go.Proofs.YtbpiopdphigodaaGreatDoor
open _root_.Go.Proofs.Tryz renaming prog→zz,ntmps112→zy,func112→zx,ntmps91→zw,func91→zu
set_option maxHeartbeats 1000000
set_option maxRecDepth 100000
open Go.RowKit Go.Shelf
def iW(a:World):Prop:=Lib.Utf8Tabs (oO.g 3) (oO.g 4) a
theorem iW.below{w w1:World}(a:iW w){B:Nat}(k:Below B w w1)(b:w.heap.size<=B):iW w1:=
 ⟨λe f=>Below.at' k b (a.1 e f),λd c=>⟨Below.at' k b (a.2 d c).1,Below.at' k b (a.2 d c).2⟩⟩
theorem aRb(a:ByteArray)(f:World)(x:a.size<=140737488355328)(k:iW f):Calls zz 112 #[.string a] f λc i=>c=.returned (.bool (dL a))/\aB f i:=by
 by_cases u:a.size<=80
 ·have p:Calls zz 134 #[.string a] f _:=Any.utf8_ValidString aHi a f (by omega) k;have m:=λg=>(Any.strings_Contains_one aSs a 10 g:Calls zz 135 #[.string a,.string ⟨#[10]⟩] g _)
  have o:=λg=>(Any.utf8_RuneCountInString aSt a g (by omega):Calls zz 136 #[.string a] g _)
  have q:=aIs a;have w:=Lib.runeCount_le a;generalize Lib.validD a.data.toList=v at *;generalize decide (0<=Lib.indexByte a.data.toList 10)=n at *;generalize Lib.runeCount a=r at *;have e:=aA q;have j:=aA p;have l:=aA m;have s:=aA o;clear q p m o k;cases v
  ·go_enter zx,zy;go_wp2_with (go_at_call 134;refine (aC j).mono ?_;rintro c i ⟨rfl,b⟩;have d:=aA b;clear b);go_ret;exact ⟨cX (by rw [e.o];rfl),d.o⟩
  ·cases n
   ·go_enter zx,zy;go_wp2_with (first
     |(go_at_call 134;refine (aC j).mono ?_;rintro c i ⟨rfl,b⟩;have d:=aA b;clear b)
     |(go_at_call 135;refine (aC l _).mono ?_;rintro c t ⟨rfl,rfl⟩)
     |(go_at_call 136;refine (aC s _).mono ?_;rintro c z ⟨rfl,y,rfl⟩))
    all_goals
     go_ret;refine ⟨cX ?_,d.o.alloc d.o.size _⟩;rw [e.o,zv];simp;omega
   ·go_enter zx,zy;go_wp2_with (first
     |(go_at_call 134;refine (aC j).mono ?_;rintro c i ⟨rfl,b⟩;have d:=aA b;clear b)
     |(go_at_call 135;refine (aC l _).mono ?_;rintro c t ⟨rfl,rfl⟩))
    go_ret;exact ⟨cX (by rw [e.o];rfl),d.o⟩
 ·have e:aI (dL a=false):=by
   cases h:dL a
   ·exact rfl
   ·have:=(uR a h).2;omega
  clear k;go_enter zx,zy;go_wp2;go_ret;exact ⟨cX e.o.symm,Below.refl _ _⟩
theorem aBz(a:ByteArray)(b:Int)(g:World):Calls zz 92 #[.agg #[.string a,.int .i64 b]] g λd j=>d=.returned (.int .i64 (if a.toList.isEmpty then 0 else b))/\aB g j:=by
 have c:=aA (λk=>nH a b k);cases hv:a.toList.isEmpty;all_goals
  rw [hv] at c;clear hv;go_enter Tryz.func92,Tryz.ntmps92;go_wp2_with (go_at_call 36;refine (aC c _).mono ?_;rintro d n ⟨rfl,e⟩;obtain ⟨l,m,f⟩:=fY e;have i:=aA f;clear e f);go_ret;exact ⟨rfl,i.o⟩
theorem aRc(d:ByteArray)(a:Int)(j:World)(x:d.size<=140737488355328)(q:iW j):Calls zz 91 #[.agg #[.string d,.int .i64 a]] j λg z=>g=.returned (.bool (dE (d,a)))/\aB j z:=by
 have f:=aA (λk=>nH d a k);have r:aB j (j.alloc (.cells #[.string d,.int .i64 a] 43)):=(Below.refl _ _).alloc (Nat.le_refl _) _;have A:=aA r;have w:=aA q;clear r q;cases hv:d.toList.isEmpty
 ·have i:aI (dE (d,a)=(dL d && (decide (0<=a) && decide (a<=5)))):=aA (by simp [dE,aM,hv]);rw [hv] at f;by_cases l:0<=a
  ·by_cases p:a<=5
   ·have t:=aA (λk (y:iW k)=>aRb d k x y);clear hv;go_enter zu,zw;go_wp2_with (first
     |(go_at_call 36;refine (aC f _).mono ?_;rintro g o ⟨rfl,b⟩;obtain ⟨m,n,c⟩:=fY b;have e:=aA c;clear b c)
     |(go_at_call 112;refine (aC t _ (w.o.below e.o (Nat.le_refl _))).mono ?_;rintro g B ⟨rfl,s⟩;have u:=aA (aZ e.o s);clear s))
    go_ret;refine ⟨cX ?_,u.o⟩;rw [i.o];simp [l,p]
   ·clear hv;go_enter zu,zw;go_wp2_with (first
     |(go_at_call 36;refine (aC f _).mono ?_;rintro g o ⟨rfl,b⟩;obtain ⟨m,n,c⟩:=fY b;have e:=aA c;clear b c))
    go_ret;refine ⟨cX ?_,e.o⟩;rw [i.o];simp [p]
  ·have v:=aA (show decide (0<=a)=false by simpa using l);clear hv;go_enter zu,zw;go_wp2_with (first
    |(go_at_call 36;refine (aC f _).mono ?_;rintro g o ⟨rfl,b⟩;obtain ⟨m,n,c⟩:=fY b;have e:=aA c;clear b c))
   go_ret;refine ⟨cX ?_,e.o⟩;rw [i.o,v.o];simp
 ·have i:aI (dE (d,a)=(decide (0<=a) && decide (a<60))):=aA (by simp [dE,aM,hv]);rw [hv] at f;clear hv;by_cases l:0<=a;all_goals
   go_enter zu,zw;go_wp2_with (first
    |(go_at_call 36;refine (aC f _).mono ?_;rintro g o ⟨rfl,b⟩;obtain ⟨m,n,c⟩:=fY b;have e:=aA c;clear b c))
   go_ret;refine ⟨cX ?_,e.o⟩;rw [i.o,zv];simp;try omega
theorem aRd(a:List Nd)(b:¬a.length<=60):jI a=false:=by simp [jI,b]
theorem aRe(a:List Nd)(b:a.length<=60):jI a=aN a 1:=by simp [jI,b]
theorem aRf(N:Option Addr)(W:Nat)(a:List Nd)(v:World)(t:cS v N a)(E:iW v):Calls zz 63 #[.slice N a.length W] v λp a4=>p=.returned (.bool (jI a))/\aB v a4:=by
 have a7:=t.few;by_cases Q:a.length<=60
 ·have r:=aA (aRe a Q);have V:=aA E;clear E;go_enter Tryz.func63,Tryz.ntmps63;go_wp2;go_loopw [3,11] (λa1 L wr=>∃b e:Nat,b<=a.length/\e<=1+5*b/\L=.int .i64 b/\a1=.int .i64 e/\aB v wr/\aN a 1=aN (a.drop b) e) (λ_ L _=>a.length-(intOf L).toNat);case atStart=>exact ⟨0,1,by omega,by omega,rfl,rfl,Below.refl _ _,rfl⟩
  case round=>
   obtain ⟨b,e,a8,a9,rfl,rfl,c,d⟩:=hrel;by_cases u:b<a.length
   ·obtain ⟨a6,b2,rfl,O,P⟩:=t.cell b u;have X:=aD c O;have Y:=aD c P;have T:=t.short b u;have x:=c.size;clear O P t;by_cases S:e=0
    ·subst S;rw [aAd a b u] at d;have s:aI (jI a=false):=r.o.trans d;have l:=aA c;clear d c;go_wp2;go_ret;exact ⟨cX s.o.symm,l.o.alloc l.o.size _⟩
    ·have j:((e:Int)==0)=false:=by rw [beq_eq_false_iff_ne];omega
     have I:=aLr a b e u S;have G:=aLq a b e u;generalize a[b]=nd at *;obtain ⟨i,f⟩:=nd;simp only at X Y T;have q:=aA (λA (J:iW A)=>aRc i f A T J);have w:=aA (λA=>aBz i f A);have l:=aA c;have F:=aA (V.o.below (c.alloc x (.cells #[.string i,.int .i64 f] 43)) (Nat.le_refl _));by_cases o:dE (i,f)=true
     ·have M:=aA (d.trans (I o));simp only [o] at q;clear d I G c;by_cases m:i.toList.isEmpty=true
      ·have C:aI (aX (i,f)=0):=by unfold aX aM;rw [aG m];exact rfl
       rw [aG m] at w;clear o m;go_wp2_with (first
        |(go_at_call 91;refine (aC q _ F.out).mono ?_;rintro p U ⟨rfl,j⟩;obtain ⟨y,z,g⟩:=fY j;have n:=aA (l.o.trans (g.mono x));have D:=n.o.size;have Z:=g.size;clear j g)
        |(go_at_call 92;refine (aC w _).mono ?_;rintro p a5 ⟨rfl,k⟩;have a2:=aD k y;have a3:=aD k z;have B:=aA (n.o.trans (k.mono D));clear k))
       go_roundw;case rel=>exact ⟨b+1,e-1,by omega,by omega,by go_num,by go_num,B.o,by rw [M.o,C.o];rfl⟩
       case measure=>simp [intOf];omega
      ·have C:aI (aX (i,f)=f.toNat):=by unfold aX aM;rw [aF m];exact rfl
       have a0:i.toList.isEmpty=false:=by simpa using m
       have J:dL i=true/\0<=f/\f<=5:=by simpa [dE,aM,m] using o
       obtain ⟨_,b0,b1⟩:=J;rw [aF m] at w;clear o m a0;go_wp2_with (first
        |(go_at_call 91;refine (aC q _ F.out).mono ?_;rintro p U ⟨rfl,j⟩;obtain ⟨y,z,g⟩:=fY j;have n:=aA (l.o.trans (g.mono x));have D:=n.o.size;have Z:=g.size;clear j g)
        |(go_at_call 92;refine (aC w _).mono ?_;rintro p a5 ⟨rfl,k⟩;have a2:=aD k y;have a3:=aD k z;have B:=aA (n.o.trans (k.mono D));clear k))
       go_roundw;case rel=>exact ⟨b+1,e-1+f.toNat,by omega,by omega,by go_num,by go_num,B.o,by rw [M.o,C.o]⟩
       case measure=>simp [intOf];omega
     ·have H:dE (i,f)=false:=by simpa using o
      rw [G H] at d;have s:aI (jI a=false):=r.o.trans d;simp only [H] at q;clear d I G c o H;go_wp2_with (first
       |(go_at_call 91;refine (aC q _ F.out).mono ?_;rintro p U ⟨rfl,j⟩;obtain ⟨y,z,g⟩:=fY j;have n:=aA (l.o.trans (g.mono x));clear j g))
      go_ret;exact ⟨cX s.o.symm,n.o⟩
   ·have R:a.drop b=[]:=List.drop_eq_nil_of_le (by omega);rw [R] at d;have s:aI (jI a=decide (e=0)):=r.o.trans d;have l:=aA c;clear d R c;go_wp2;go_ret;refine ⟨cX ?_,l.o⟩;rw [s.o,zv];simp
 ·have r:=aA (aRd a Q);clear t E;go_enter Tryz.func63,Tryz.ntmps63;go_wp2;go_ret;exact ⟨cX r.o.symm,Below.refl _ _⟩
