import Derived.Test.YtmelidkanelpbaaGreatDoorNameEqH
import Derived.Test.YtmelidkanelpbaaGreatDoorShelfH
import Derived.Test.YtmelidkanelpbaaGreatDoorONum0H
import Derived.Test.YtmelidkanelpbaaGreatDoorPCl0H
open Bool renaming eq_iff_iff→zu
namespace Go.Proofs.YtmelidkanelpbaaGreatDoor
open _root_.Go.Proofs.Tryz renaming prog→zz,ntmps143→zy,ntmps136→zx,func143→zw,func136→zv
set_option maxHeartbeats 1000000
set_option maxRecDepth 100000
open Go.RowKit Go.Shelf
def kN(a:World):Prop:=Lib.Utf8Tabs (yS.g 3) (yS.g 4) a
theorem kN.below{w w1:World}(a:kN w){B:Nat}(k:Below B w w1)(b:w.heap.size<=B):kN w1:=
 ⟨λe f=>Below.at' k b (a.1 e f),λd c=>⟨Below.at' k b (a.2 d c).1,Below.at' k b (a.2 d c).2⟩⟩
theorem aXm(a:ByteArray)(f:World)(x:a.size<=140737488355328)(k:kN f):Calls zz 143 #[.string a] f λc i=>c=.returned (.bool (eM a))/\aB f i:=by
 by_cases u:a.size<=80
 ·have p:Calls zz 146 #[.string a] f _:=Any.utf8_ValidString aLx a f (by omega) k;have m:=λg=>(Any.strings_Contains_one aZt a 10 g:Calls zz 147 #[.string a,.string ⟨#[10]⟩] g _)
  have o:=λg=>(Any.utf8_RuneCountInString aZu a g (by omega):Calls zz 148 #[.string a] g _)
  have q:=aVl a;have w:=Lib.runeCount_le a;generalize Lib.validD a.data.toList=v at *;generalize decide (0<=Lib.indexByte a.data.toList 10)=n at *;generalize Lib.runeCount a=r at *;have e:=aA q;have j:=aA p;have l:=aA m;have s:=aA o;clear q p m o k;cases v
  ·go_enter zw,zy;go_wp2_with (go_at_call 146;refine (aD j).mono ?_;rintro c i ⟨rfl,b⟩;have d:=aA b;clear b);go_ret;exact ⟨dL (by rw [e.o];rfl),d.o⟩
  ·cases n
   ·go_enter zw,zy;go_wp2_with (first
     |(go_at_call 146;refine (aD j).mono ?_;rintro c i ⟨rfl,b⟩;have d:=aA b;clear b)
     |(go_at_call 147;refine (aD l _).mono ?_;rintro c t ⟨rfl,rfl⟩)
     |(go_at_call 148;refine (aD s _).mono ?_;rintro c z ⟨rfl,y,rfl⟩))
    all_goals
     go_ret;refine ⟨dL ?_,d.o.alloc d.o.size _⟩;rw [e.o,zu];simp;omega
   ·go_enter zw,zy;go_wp2_with (first
     |(go_at_call 146;refine (aD j).mono ?_;rintro c i ⟨rfl,b⟩;have d:=aA b;clear b)
     |(go_at_call 147;refine (aD l _).mono ?_;rintro c t ⟨rfl,rfl⟩))
    go_ret;exact ⟨dL (by rw [e.o];rfl),d.o⟩
 ·have e:aM (eM a=false):=by
   cases h:eM a
   ·exact rfl
   ·have:=(aM1 a h).2;omega
  clear k;go_enter zw,zy;go_wp2;go_ret;exact ⟨dL e.o.symm,Below.refl _ _⟩
theorem aEd(a:ByteArray)(b:Int)(g:World):Calls zz 121 #[.agg #[.string a,.int .i64 b]] g λd j=>d=.returned (.int .i64 (if a.toList.isEmpty then 0 else b))/\aB g j:=by
 have c:=aA (λk=>pT a b k);cases hv:a.toList.isEmpty;all_goals
  rw [hv] at c;clear hv;go_enter Tryz.func121,Tryz.ntmps121;go_wp2_with (go_at_call 67;refine (aD c _).mono ?_;rintro d n ⟨rfl,e⟩;obtain ⟨l,m,f⟩:=jC e;have i:=aA f;clear e f);go_ret;exact ⟨rfl,i.o⟩
theorem aXn(d:ByteArray)(a:Int)(j:World)(x:d.size<=140737488355328)(q:kN j):Calls zz 136 #[.agg #[.string d,.int .i64 a]] j λg z=>g=.returned (.bool (dC (d,a)))/\aB j z:=by
 have f:=aA (λk=>pT d a k);have r:aB j (j.alloc (.cells #[.string d,.int .i64 a] 117)):=(Below.refl _ _).alloc (Nat.le_refl _) _;have A:=aA r;have w:=aA q;clear r q;cases hv:d.toList.isEmpty
 ·have i:aM (dC (d,a)=(eM d && (decide (0<=a) && decide (a<=5)))):=aA (by simp [dC,aL,hv]);rw [hv] at f;by_cases l:0<=a
  ·by_cases p:a<=5
   ·have t:=aA (λk (y:kN k)=>aXm d k x y);clear hv;go_enter zv,zx;go_wp2_with (first
     |(go_at_call 67;refine (aD f _).mono ?_;rintro g o ⟨rfl,b⟩;obtain ⟨m,n,c⟩:=jC b;have e:=aA c;clear b c)
     |(go_at_call 143;refine (aD t _ (w.o.below e.o (Nat.le_refl _))).mono ?_;rintro g B ⟨rfl,s⟩;have u:=aA (bK e.o s);clear s))
    go_ret;refine ⟨dL ?_,u.o⟩;rw [i.o];simp [l,p]
   ·clear hv;go_enter zv,zx;go_wp2_with (first
     |(go_at_call 67;refine (aD f _).mono ?_;rintro g o ⟨rfl,b⟩;obtain ⟨m,n,c⟩:=jC b;have e:=aA c;clear b c))
    go_ret;refine ⟨dL ?_,e.o⟩;rw [i.o];simp [p]
  ·have v:=aA (show decide (0<=a)=false by simpa using l);clear hv;go_enter zv,zx;go_wp2_with (first
    |(go_at_call 67;refine (aD f _).mono ?_;rintro g o ⟨rfl,b⟩;obtain ⟨m,n,c⟩:=jC b;have e:=aA c;clear b c))
   go_ret;refine ⟨dL ?_,e.o⟩;rw [i.o,v.o];simp
 ·have i:aM (dC (d,a)=(decide (0<=a) && decide (a<60))):=aA (by simp [dC,aL,hv]);rw [hv] at f;clear hv;by_cases l:0<=a;all_goals
   go_enter zv,zx;go_wp2_with (first
    |(go_at_call 67;refine (aD f _).mono ?_;rintro g o ⟨rfl,b⟩;obtain ⟨m,n,c⟩:=jC b;have e:=aA c;clear b c))
   go_ret;refine ⟨dL ?_,e.o⟩;rw [i.o,zu];simp;try omega
theorem aXo(a:List Nd)(b:¬a.length<=60):iZ a=false:=by simp [iZ,b]
theorem aXp(a:List Nd)(b:a.length<=60):iZ a=aQ a 1:=by simp [iZ,b]
theorem aXq(N:Option Addr)(W:Nat)(a:List Nd)(v:World)(t:dW v N a)(E:kN v):Calls zz 116 #[.slice N a.length W] v λp a4=>p=.returned (.bool (iZ a))/\aB v a4:=by
 have a7:=t.few;by_cases Q:a.length<=60
 ·have r:=aA (aXp a Q);have V:=aA E;clear E;go_enter Tryz.func116,Tryz.ntmps116;go_wp2;go_loopw [3,11] (λa1 L wr=>∃b e:Nat,b<=a.length/\e<=1+5*b/\L=.int .i64 b/\a1=.int .i64 e/\aB v wr/\aQ a 1=aQ (a.drop b) e) (λ_ L _=>a.length-(intOf L).toNat);case atStart=>exact ⟨0,1,by omega,by omega,rfl,rfl,Below.refl _ _,rfl⟩
  case round=>
   obtain ⟨b,e,a8,a9,rfl,rfl,c,d⟩:=hrel;by_cases u:b<a.length
   ·obtain ⟨a6,b2,rfl,O,P⟩:=t.cell b u;have X:=aC c O;have Y:=aC c P;have T:=t.short b u;have x:=c.size;clear O P t;by_cases S:e=0
    ·subst S;rw [aCh a b u] at d;have s:aM (iZ a=false):=r.o.trans d;have l:=aA c;clear d c;go_wp2;go_ret;exact ⟨dL s.o.symm,l.o.alloc l.o.size _⟩
    ·have j:((e:Int)==0)=false:=by rw [beq_eq_false_iff_ne];omega
     have I:=aPg a b e u S;have G:=aPf a b e u;generalize a[b]=nd at *;obtain ⟨i,f⟩:=nd;simp only at X Y T;have q:=aA (λA (J:kN A)=>aXn i f A T J);have w:=aA (λA=>aEd i f A);have l:=aA c;have F:=aA (V.o.below (c.alloc x (.cells #[.string i,.int .i64 f] 117)) (Nat.le_refl _));by_cases o:dC (i,f)=true
     ·have M:=aA (d.trans (I o));simp only [o] at q;clear d I G c;by_cases m:i.toList.isEmpty=true
      ·have C:aM (aY (i,f)=0):=by unfold aY aL;rw [aH m];exact rfl
       rw [aH m] at w;clear o m;go_wp2_with (first
        |(go_at_call 136;refine (aD q _ F.out).mono ?_;rintro p U ⟨rfl,j⟩;obtain ⟨y,z,g⟩:=jC j;have n:=aA (l.o.trans (g.mono x));have D:=n.o.size;have Z:=g.size;clear j g)
        |(go_at_call 121;refine (aD w _).mono ?_;rintro p a5 ⟨rfl,k⟩;have a2:=aC k y;have a3:=aC k z;have B:=aA (n.o.trans (k.mono D));clear k))
       go_roundw;case rel=>exact ⟨b+1,e-1,by omega,by omega,by go_num,by go_num,B.o,by rw [M.o,C.o];rfl⟩
       case measure=>simp [intOf];omega
      ·have C:aM (aY (i,f)=f.toNat):=by unfold aY aL;rw [aI m];exact rfl
       have a0:i.toList.isEmpty=false:=by simpa using m
       have J:eM i=true/\0<=f/\f<=5:=by simpa [dC,aL,m] using o
       obtain ⟨_,b0,b1⟩:=J;rw [aI m] at w;clear o m a0;go_wp2_with (first
        |(go_at_call 136;refine (aD q _ F.out).mono ?_;rintro p U ⟨rfl,j⟩;obtain ⟨y,z,g⟩:=jC j;have n:=aA (l.o.trans (g.mono x));have D:=n.o.size;have Z:=g.size;clear j g)
        |(go_at_call 121;refine (aD w _).mono ?_;rintro p a5 ⟨rfl,k⟩;have a2:=aC k y;have a3:=aC k z;have B:=aA (n.o.trans (k.mono D));clear k))
       go_roundw;case rel=>exact ⟨b+1,e-1+f.toNat,by omega,by omega,by go_num,by go_num,B.o,by rw [M.o,C.o]⟩
       case measure=>simp [intOf];omega
     ·have H:dC (i,f)=false:=by simpa using o
      rw [G H] at d;have s:aM (iZ a=false):=r.o.trans d;simp only [H] at q;clear d I G c o H;go_wp2_with (first
       |(go_at_call 136;refine (aD q _ F.out).mono ?_;rintro p U ⟨rfl,j⟩;obtain ⟨y,z,g⟩:=jC j;have n:=aA (l.o.trans (g.mono x));clear j g))
      go_ret;exact ⟨dL s.o.symm,n.o⟩
   ·have R:a.drop b=[]:=List.drop_eq_nil_of_le (by omega);rw [R] at d;have s:aM (iZ a=decide (e=0)):=r.o.trans d;have l:=aA c;clear d R c;go_wp2;go_ret;refine ⟨dL ?_,l.o⟩;rw [s.o,zu];simp
 ·have r:=aA (aXo a Q);clear t E;go_enter Tryz.func116,Tryz.ntmps116;go_wp2;go_ret;exact ⟨dL r.o.symm,Below.refl _ _⟩
