import Derived.Test.YthjhkgohninpcaaGreatDoorText0M
namespace Go.Proofs.YthjhkgohninpcaaGreatDoor
open _root_.Go.Proofs.Tryz renaming underlying91→zz
set_option maxHeartbeats 4000000
set_option maxRecDepth 100000
open Go.RowKit
theorem aJd{a:Int}(b:a<97\/122<a):eB a=false:=by unfold eB;simp;omega
theorem aJe{a:Int}(b:a<65\/90<a):dS a=false:=by unfold dS;simp;omega
def aJf(b:World)(a:List Tk×Option Nat)(e:Ending)(d:World):Prop:=
 ∃c,e=.returned (.tuple #[c,.int .i64 (aBd a.2)])/\d.ownsRow b.heap.size 100 3 c a.1.length (kJ a.1)/\dQ b.heap.size 100 b d
theorem aVb(b:ByteArray)(D:World)(b6:b.size<=1000000):Calls Tryz.prog 42 #[.string b] D λd g=>aJf D (cW b (b.size+1) 0) d g:=by
 obtain ⟨U,M,N,O,P⟩:=info_parts aW7;go_enter Tryz.func42,Tryz.ntmps42;go_wp2;go_loopw [4,5] (λd8 E wr=>∃(a p:Nat) (s:List Tk),a<=b.size/\E=.int .i64 a/\s.length<=a/\b.size<a+p/\cW b (b.size+1) 0=kK b s p a/\
   wr.ownsRow D.heap.size 100 3 d8 s.length (kJ s)/\dQ D.heap.size 100 D wr) (λ_ E _=>b.size-(intOf E).toNat)
 case atStart=>exact ⟨0,b.size+1,[],Nat.zero_le _,rfl,Nat.zero_le _,by omega,by simp [kK],World.ownsRow_nil _ _ _ _,dQ.refl _ _ _⟩
 case round=>
  obtain ⟨a,p,s,a8,rfl,f2,f0,I,f,a9⟩:=hrel;obtain ⟨p,rfl⟩ : ∃c7,p=c7+1:=⟨p-1,by omega⟩;have y:=aA a9;have f1:=a9.size;clear a9;by_cases c:a<b.size
  ·have d3:(a:Int)<(b.size:Int):=by omega
   have v:=fP b a c;have l:=aJm ((b[a]'c).toNat:Int) wr;have k:=aJn ((b[a]'c).toNat:Int) wr;by_cases S:jO (aE b a)=true
   ·have e:=aA (I.trans (aW8 c S));have t:=aA f;have j:aE b a=32\/aE b a=9\/aE b a=10:=by unfold jO at S;simp at S;omega
    have x:eB ((b[a]'c).toNat:Int)=false:=aJd (by omega);have q:dS ((b[a]'c).toNat:Int)=false:=aJe (by omega);have Q:(((b[a]'c).toNat:Int)==32)=true\/(((b[a]'c).toNat:Int)==32)=false/\(((b[a]'c).toNat:Int)==9)=true\/(((b[a]'c).toNat:Int)==32)=false/\(((b[a]'c).toNat:Int)==9)=false/\(((b[a]'c).toNat:Int)==10)=true:=by simp only [beq_iff_eq,beq_eq_false_iff_ne];omega
    rw [x] at l;rw [q] at k;clear I f S j x q v;rcases Q with Q|⟨Q,d0⟩|⟨Q,d0,e9⟩;all_goals
     go_wp2_with (first
      |(go_at_call 72;refine l.mono ?_;rintro d g ⟨rfl,rfl⟩)
      |(go_at_call 73;refine k.mono ?_;rintro d g ⟨rfl,rfl⟩))
     go_roundw;case rel=>exact ⟨a+1,p,s,by omega,by go_num,by omega,by omega,e.o,t.o,y.o⟩
     case measure=>simp [intOf];omega
   ·have T:jO (aE b a)=false:=by simpa using S
    have d5:aE b a≠32/\aE b a≠9/\aE b a≠10:=by unfold jO at T;simp at T;omega
    have e2:(((b[a]'c).toNat:Int)==32)=false:=by rw [beq_eq_false_iff_ne];omega
    have e7:(((b[a]'c).toNat:Int)==9)=false:=by rw [beq_eq_false_iff_ne];omega
    have d9:(((b[a]'c).toNat:Int)==10)=false:=by rw [beq_eq_false_iff_ne];omega
    clear S d5;by_cases L:aE b a=37
    ·have e:=aA (I.trans (aW9 c L));have t:=aA f;have x:eB ((b[a]'c).toNat:Int)=false:=aJd (by omega);have q:dS ((b[a]'c).toNat:Int)=false:=aJe (by omega);have b9:(((b[a]'c).toNat:Int)==37)=true:=by rw [beq_iff_eq];omega
     have d1:=yW c L;have d2:=aBc (Nat.le_of_lt c);rw [x] at l;rw [q] at k;clear I f T x q v L;go_wp2_with (first
      |(go_at_call 72;refine l.mono ?_;rintro d g ⟨rfl,rfl⟩)
      |(go_at_call 73;refine k.mono ?_;rintro d g ⟨rfl,rfl⟩))
     go_loop [5] (λE=>∃z:Nat,z<=b.size/\E=.int .i64 z/\gK b z=gK b a) (λE=>b.size-(intOf E).toNat);case atStart=>exact ⟨a,a8,rfl,rfl⟩
     case round=>
      obtain ⟨z,f3,rfl,b5⟩:=hrel;have J:=aA b5;clear b5;by_cases Y:z<b.size
      ·have d4:(z:Int)<(b.size:Int):=by omega
       have b4:=fP b z Y;by_cases a4:aE b z=10
       ·have c9:(((b[z]'Y).toNat:Int) != 10)=false:=by simp;omega
        have B:=aA (J.o.symm.trans (aBb (λC=>C.2 a4)));clear J b4 a4;go_wp2;go_roundw;case rel=>exact ⟨z,p,s,by omega,rfl,by have:=B.o;omega,by have:=B.o;omega,by rw [e.o,B.o],t.o,y.o⟩
        case measure=>have:=B.o;simp [intOf];omega
       ·have c9:(((b[z]'Y).toNat:Int) != 10)=true:=by simp;omega
        have B:=aA (J.o.symm.trans (aBa Y a4));clear J b4 a4;go_wp2;go_round;case rel=>exact ⟨z+1,by omega,by go_num,B.o.symm⟩
        case measure=>simp [intOf];omega
      ·have d4:¬(z:Int)<(b.size:Int):=by omega
       have B:=aA (J.o.symm.trans (aBb (λC=>Y C.1)));clear J;go_wp2;go_roundw;case rel=>exact ⟨z,p,s,by omega,rfl,by have:=B.o;omega,by have:=B.o;omega,by rw [e.o,B.o],t.o,y.o⟩
       case measure=>have:=B.o;simp [intOf];omega
    ·have b9:(((b[a]'c).toNat:Int)==37)=false:=by rw [beq_eq_false_iff_ne];omega
     have u:aG (∀b1 d,eZ b a=.tok b1 d->kK b s (p+1) a=kK b (s++[b1]) p d):=aA (λb1 d C=>aWa c T L C);have n:aG (∀b7,eZ b a=.bad b7->kK b s (p+1) a=(s,some a)):=aA (λb7 C=>aWb c T L C);have i:=aA I;clear I T L;by_cases G:(eB (aE b a) || dS (aE b a))=true
     ·have m:=aA (aJs G);have a2:=aW2 b a wr b6 a8;have d1:=aJr c G;have d2:=aJo (s:=b) a8;generalize eV b a=d at *;by_cases q:dS (aE b a)=true
      ·have x:eB (aE b a)=false:=by unfold dS at q;unfold eB;simp at q ⊢;omega
       rw [q] at m;rw [v] at q x;rw [x] at l;rw [q] at k;clear G x q v;by_cases W:d-a > 20
       ·have e:=aA (i.o.trans (n.o a (by rw [m.o,aJ W])));have a7:(20:Int)<(d:Int)-(a:Int):=by omega
        have t:=aA f;clear i n u m f;go_wp2_with (first
         |(go_at_call 72;refine l.mono ?_;rintro d g ⟨rfl,rfl⟩)
         |(go_at_call 73;refine k.mono ?_;rintro d g ⟨rfl,rfl⟩)
         |(go_at_call 74;refine a2.mono ?_;rintro d g ⟨rfl,rfl⟩))
        go_ret2;exact ⟨_,by rw [e.o];rfl,by rw [e.o];exact t.o,y.o⟩
       ·have e:=aA (i.o.trans (u.o ⟨118,b.extract a d,a⟩ d (by rw [m.o,aI W];rfl)));have a7:¬(20:Int)<(d:Int)-(a:Int):=by omega
        clear i n u m;go_wp2_with (first
         |(go_at_call 72;refine l.mono ?_;rintro d g ⟨rfl,rfl⟩)
         |(go_at_call 73;refine k.mono ?_;rintro d g ⟨rfl,rfl⟩)
         |(go_at_call 74;refine a2.mono ?_;rintro d g ⟨rfl,rfl⟩)
         |(at_builtin;refine wpList_append_own _ rfl (.tmp 78) (.tmp 80) 91 rfl D.heap.size 100 U (.agg #[.int .u8 0,.string ⟨#[]⟩,.int .i64 0]) 3 32 zz M N O P rfl (by decide) _ _ _ rfl ((f.alloc _).alloc _) ⟨_,0,none⟩ 1 1 [.int .u8 118,.string (b.extract a d),.int .i64 a] rfl rfl ?x1 ?x2 ?x3 ?x4 ?x5 ?_)
         |go_in)
        try case x1=>exact uW _ _ _ _ _ _ (by simp)
        case x2=>first|exact xD _ _ _|exact ⟨rfl,rfl,rfl⟩
        case x3=>unfold maxLen;omega
        case x4=>omega
        case x5=>first|omega|(simp;omega)
        intro Z a0 r j _;have o:=xE ⟨118,b.extract a d,a⟩ ((f.alloc _).alloc _) ((y.o.alloc _).alloc _) r j;clear r j f;go_wp2;go_roundw;case rel=>exact ⟨d,p,s++[⟨118,b.extract a d,a⟩],by omega,by first|rfl|go_num,by simp;omega,by omega,e.o,o.1,o.2⟩
        case measure=>simp [intOf];omega
      ·have X:dS (aE b a)=false:=by simpa using q
       have x:eB (aE b a)=true:=by rw [X] at G;simpa using G
       rw [X] at m;rw [v] at X x;rw [x] at l;rw [X] at k;clear G x q X v;by_cases W:d-a > 20
       ·have e:=aA (i.o.trans (n.o a (by rw [m.o,aJ W])));have a7:(20:Int)<(d:Int)-(a:Int):=by omega
        have t:=aA f;clear i n u m f;go_wp2_with (first
         |(go_at_call 72;refine l.mono ?_;rintro d g ⟨rfl,rfl⟩)
         |(go_at_call 73;refine k.mono ?_;rintro d g ⟨rfl,rfl⟩)
         |(go_at_call 74;refine a2.mono ?_;rintro d g ⟨rfl,rfl⟩))
        go_ret2;exact ⟨_,by rw [e.o];rfl,by rw [e.o];exact t.o,y.o⟩
       ·have e:=aA (i.o.trans (u.o ⟨110,b.extract a d,a⟩ d (by rw [m.o,aI W];rfl)));have a7:¬(20:Int)<(d:Int)-(a:Int):=by omega
        clear i n u m;go_wp2_with (first
         |(go_at_call 72;refine l.mono ?_;rintro d g ⟨rfl,rfl⟩)
         |(go_at_call 73;refine k.mono ?_;rintro d g ⟨rfl,rfl⟩)
         |(go_at_call 74;refine a2.mono ?_;rintro d g ⟨rfl,rfl⟩)
         |(at_builtin;refine wpList_append_own _ rfl (.tmp 78) (.tmp 80) 91 rfl D.heap.size 100 U (.agg #[.int .u8 0,.string ⟨#[]⟩,.int .i64 0]) 3 32 zz M N O P rfl (by decide) _ _ _ rfl ((f.alloc _).alloc _) ⟨_,0,none⟩ 1 1 [.int .u8 110,.string (b.extract a d),.int .i64 a] rfl rfl ?y1 ?y2 ?y3 ?y4 ?y5 ?_)
         |go_in)
        try case y1=>exact uW _ _ _ _ _ _ (by simp)
        case y2=>first|exact xD _ _ _|exact ⟨rfl,rfl,rfl⟩
        case y3=>unfold maxLen;omega
        case y4=>omega
        case y5=>first|omega|(simp;omega)
        intro Z a0 r j _;have o:=xE ⟨110,b.extract a d,a⟩ ((f.alloc _).alloc _) ((y.o.alloc _).alloc _) r j;clear r j f;go_wp2;go_roundw;case rel=>exact ⟨d,p,s++[⟨110,b.extract a d,a⟩],by omega,by first|rfl|go_num,by simp;omega,by omega,e.o,o.1,o.2⟩
        case measure=>simp [intOf];omega
     ·have w:(eB (aE b a) || dS (aE b a))=false:=by simpa using G
      have x:eB ((b[a]'c).toNat:Int)=false:=by rw [v] at w;exact (Bool.or_eq_false_iff.1 w).1
      have q:dS ((b[a]'c).toNat:Int)=false:=by rw [v] at w;exact (Bool.or_eq_false_iff.1 w).2
      rw [x] at l;rw [q] at k;clear G x q;by_cases A:aE b a=39
      ·have c0:(((b[a]'c).toNat:Int)==39)=true:=by rw [beq_iff_eq];omega
       have a1:=aW3 b a wr b6 c;cases hqp:lM b a with
       |none=>
        have e:=aA (i.o.trans (n.o a (by rw [aEc w A,hqp])));rw [hqp] at a1;have t:=aA f;clear i n u v A w hqp f;go_wp2_with (first
         |(go_at_call 72;refine l.mono ?_;rintro d g ⟨rfl,rfl⟩)
         |(go_at_call 73;refine k.mono ?_;rintro d g ⟨rfl,rfl⟩)
         |(go_at_call 75;refine a1.mono ?_;rintro d g ⟨rfl,rfl⟩;simp only [aEb]))
        go_ret2;exact ⟨_,by rw [e.o];rfl,by rw [e.o];exact t.o,y.o⟩
       |some E=>
        obtain ⟨a5,d⟩:=E;have e:=aA (i.o.trans (u.o ⟨110,a5,a⟩ d (by rw [aEc w A,hqp])));obtain ⟨q1,q2,q3⟩:=aJq hqp;rw [hqp] at a1;clear i n u v A w hqp q3;go_wp2_with (first
         |(go_at_call 72;refine l.mono ?_;rintro d g ⟨rfl,rfl⟩)
         |(go_at_call 73;refine k.mono ?_;rintro d g ⟨rfl,rfl⟩)
         |(go_at_call 75;refine a1.mono ?_;rintro d g ⟨rfl,rfl⟩;simp only [aEb])
         |(at_builtin;refine wpList_append_own _ rfl (.tmp 96) (.tmp 100) 91 rfl D.heap.size 100 U (.agg #[.int .u8 0,.string ⟨#[]⟩,.int .i64 0]) 3 32 zz M N O P rfl (by decide) _ _ _ rfl (f.alloc _) ⟨_,0,none⟩ 1 1 [.int .u8 110,.string a5,.int .i64 a] rfl rfl ?q1 ?q2 ?q3 ?q4 ?q5 ?_)
         |go_in)
        try case q1=>exact uW _ _ _ _ _ _ (by simp)
        case q2=>first|exact xD _ _ _|exact ⟨rfl,rfl,rfl⟩
        case q3=>unfold maxLen;omega
        case q4=>omega
        case q5=>first|omega|(simp;omega)
        intro Z a0 r j _;have o:=xE ⟨110,a5,a⟩ (f.alloc _) (y.o.alloc _) r j;clear r j f;go_wp2;go_roundw;case rel=>exact ⟨d,p,s++[⟨110,a5,a⟩],by omega,by first|rfl|go_num,by simp;omega,by omega,e.o,o.1,o.2⟩
        case measure=>simp [intOf];omega
      ·have c0:(((b[a]'c).toNat:Int)==39)=false:=by rw [beq_eq_false_iff_ne];omega
       by_cases F:aE b a=36
       ·have b8:(((b[a]'c).toNat:Int)==36)=true:=by rw [beq_iff_eq];omega
        have m:=aA (aJt w A F);by_cases b3:a+6<=b.size
        ·have c8:¬(b.size:Int)<(a:Int)+6:=by omega
         by_cases R:b.extract a (a+6)=⟨#[36,102,97,108,115,101]⟩
         ·have d6:((b.extract a (a+6)).toList==[36,102,97,108,115,101])=true:=by rw [R,ByteArray.toList_eq];rfl
          have e:=aA (i.o.trans (u.o ⟨102,⟨#[]⟩,a⟩ (a+6) (by rw [m.o,aJ ⟨b3,R⟩])));clear i n u v A F w m R;go_wp2_with (first
           |(go_at_call 72;refine l.mono ?_;rintro d g ⟨rfl,rfl⟩)
           |(go_at_call 73;refine k.mono ?_;rintro d g ⟨rfl,rfl⟩)
           |(at_builtin;refine wpList_append_own _ rfl (.tmp 120) (.tmp 123) 91 rfl D.heap.size 100 U (.agg #[.int .u8 0,.string ⟨#[]⟩,.int .i64 0]) 3 32 zz M N O P rfl (by decide) _ _ _ rfl (f.alloc _) ⟨_,0,none⟩ 1 1 [.int .u8 102,.string ⟨#[]⟩,.int .i64 a] rfl rfl ?z1 ?z2 ?z3 ?z4 ?z5 ?_)
           |go_in)
          try case z1=>exact uW _ _ _ _ _ _ (by simp)
          case z2=>first|exact xD _ _ _|exact ⟨rfl,rfl,rfl⟩
          case z3=>unfold maxLen;omega
          case z4=>omega
          case z5=>first|omega|(simp;omega)
          intro Z a0 r j _;have o:=xE ⟨102,⟨#[]⟩,a⟩ (f.alloc _) (y.o.alloc _) r j;clear r j f;go_wp2;go_roundw;case rel=>exact ⟨a+6,p,s++[⟨102,⟨#[]⟩,a⟩],by omega,by first|rfl|go_num,by simp;omega,by omega,e.o,o.1,o.2⟩
          case measure=>simp [intOf];omega
         ·have d6:((b.extract a (a+6)).toList==[36,102,97,108,115,101])=false:=by
           rw [beq_eq_false_iff_ne];exact λd7=>R (wB.1 (d7.trans (by rw [ByteArray.toList_eq])))
          have e:=aA (i.o.trans (n.o a (by rw [m.o,aI (λC=>R C.2)])));have t:=aA f;clear i n u v A F w f m R;go_wp2_with (first
           |(go_at_call 72;refine l.mono ?_;rintro d g ⟨rfl,rfl⟩)
           |(go_at_call 73;refine k.mono ?_;rintro d g ⟨rfl,rfl⟩))
          go_ret2;exact ⟨_,by rw [e.o];rfl,by rw [e.o];exact t.o,y.o⟩
        ·have c8:(b.size:Int)<(a:Int)+6:=by omega
         have e:=aA (i.o.trans (n.o a (by rw [m.o,aI (λC=>b3 C.1)])));have t:=aA f;clear i n u v A F w f m;go_wp2_with (first
          |(go_at_call 72;refine l.mono ?_;rintro d g ⟨rfl,rfl⟩)
          |(go_at_call 73;refine k.mono ?_;rintro d g ⟨rfl,rfl⟩))
         go_ret2;exact ⟨_,by rw [e.o];rfl,by rw [e.o];exact t.o,y.o⟩
       ·have b8:(((b[a]'c).toNat:Int)==36)=false:=by rw [beq_eq_false_iff_ne];omega
        by_cases H:nV (aE b a)=true
        ·have e:=aA (i.o.trans (u.o ⟨(b[a]'c).toNat,⟨#[]⟩,a⟩ (a+1) (by rw [aEd w A F,aJ H,v])));have b0:aE b a=124\/aE b a=126\/aE b a=40\/aE b a=41\/aE b a=44\/aE b a=46:=by unfold nV at H;simp at H;omega
         have Q:((((b[a]'c).toNat:Int)==124)=true)\/((((b[a]'c).toNat:Int)==124)=false/\(((b[a]'c).toNat:Int)==126)=true)\/((((b[a]'c).toNat:Int)==124)=false/\(((b[a]'c).toNat:Int)==126)=false/\(((b[a]'c).toNat:Int)==40)=true)\/((((b[a]'c).toNat:Int)==124)=false/\(((b[a]'c).toNat:Int)==126)=false/\(((b[a]'c).toNat:Int)==40)=false/\(((b[a]'c).toNat:Int)==41)=true)\/((((b[a]'c).toNat:Int)==124)=false/\(((b[a]'c).toNat:Int)==126)=false/\(((b[a]'c).toNat:Int)==40)=false/\(((b[a]'c).toNat:Int)==41)=false/\(((b[a]'c).toNat:Int)==44)=true)\/((((b[a]'c).toNat:Int)==124)=false/\(((b[a]'c).toNat:Int)==126)=false/\(((b[a]'c).toNat:Int)==40)=false/\(((b[a]'c).toNat:Int)==41)=false/\(((b[a]'c).toNat:Int)==44)=false/\(((b[a]'c).toNat:Int)==46)=true):=by simp only [beq_iff_eq,beq_eq_false_iff_ne];omega
         clear i n u v A F w H b0;rcases Q with V|⟨V,a3⟩|⟨V,a3,a6⟩|⟨V,a3,a6,b2⟩|⟨V,a3,a6,b2,c6⟩|⟨V,a3,a6,b2,c6,e8⟩;all_goals
          go_wp2_with (first
           |(go_at_call 72;refine l.mono ?_;rintro d g ⟨rfl,rfl⟩)
           |(go_at_call 73;refine k.mono ?_;rintro d g ⟨rfl,rfl⟩)
           |(at_builtin;refine wpList_append_own _ rfl (.tmp 148) (.tmp 152) 91 rfl D.heap.size 100 U (.agg #[.int .u8 0,.string ⟨#[]⟩,.int .i64 0]) 3 32 zz M N O P rfl (by decide) _ _ _ rfl (f.alloc _) ⟨_,0,none⟩ 1 1 [.int .u8 ((b[a]'c).toNat:Int),.string ⟨#[]⟩,.int .i64 a] rfl rfl ?m1 ?m2 ?m3 ?m4 ?m5 ?_)
           |go_in)
          try case m1=>exact uW _ _ _ _ _ _ (by simp)
          case m2=>first|exact xD _ _ _|exact ⟨rfl,rfl,rfl⟩
          case m3=>unfold maxLen;omega
          case m4=>omega
          case m5=>first|omega|(simp;omega)
          intro Z a0 r j _;have o:=xE ⟨(b[a]'c).toNat,⟨#[]⟩,a⟩ (f.alloc _) (y.o.alloc _) r j;clear r j f;go_wp2;go_roundw;case rel=>exact ⟨a+1,p,s++[⟨(b[a]'c).toNat,⟨#[]⟩,a⟩],by omega,by first|rfl|go_num,by simp;omega,by omega,e.o,o.1,o.2⟩
          case measure=>simp [intOf];omega
        ·have e:=aA (i.o.trans (n.o a (by rw [aEd w A F];simp [H])));have b0:aE b a≠124/\aE b a≠126/\aE b a≠40/\aE b a≠41/\aE b a≠44/\aE b a≠46:=by unfold nV at H;simp at H;omega
         have e0:(((b[a]'c).toNat:Int)==124)=false:=by rw [beq_eq_false_iff_ne];omega
         have e1:(((b[a]'c).toNat:Int)==126)=false:=by rw [beq_eq_false_iff_ne];omega
         have e3:(((b[a]'c).toNat:Int)==40)=false:=by rw [beq_eq_false_iff_ne];omega
         have e4:(((b[a]'c).toNat:Int)==41)=false:=by rw [beq_eq_false_iff_ne];omega
         have e5:(((b[a]'c).toNat:Int)==44)=false:=by rw [beq_eq_false_iff_ne];omega
         have e6:(((b[a]'c).toNat:Int)==46)=false:=by rw [beq_eq_false_iff_ne];omega
         have t:=aA f;clear i n u v A F w H b0 f;go_wp2_with (first
          |(go_at_call 72;refine l.mono ?_;rintro d g ⟨rfl,rfl⟩)
          |(go_at_call 73;refine k.mono ?_;rintro d g ⟨rfl,rfl⟩))
         go_ret2;exact ⟨_,by rw [e.o];rfl,by rw [e.o];exact t.o,y.o⟩
  ·have d3:¬(a:Int)<(b.size:Int):=by omega
   have e:=aA (I.trans (aWc c));clear I;go_wp2_with (first
    |(at_builtin;refine wpList_append_own _ rfl (.tmp 155) (.tmp 158) 91 rfl D.heap.size 100 U (.agg #[.int .u8 0,.string ⟨#[]⟩,.int .i64 0]) 3 32 zz M N O P rfl (by decide) _ _ _ rfl (f.alloc _) ⟨wr.heap.size,0,none⟩ 1 1 [.int .u8 101,.string ⟨#[]⟩,.int .i64 a] rfl rfl ?c1 ?c2 ?c3 ?c4 ?c5 ?_)
    |go_in)
   try case c1=>exact uW _ _ _ _ _ _ (by simp)
   case c2=>first|exact xD _ _ _|exact ⟨rfl,rfl,rfl⟩
   case c3=>unfold maxLen;omega
   case c4=>omega
   case c5=>first|omega|(simp;omega)
   intro Z a0 r j _;have o:=xE ⟨101,⟨#[]⟩,a⟩ (f.alloc _) (y.o.alloc _) r j;clear r j f;go_wp2;go_ret2;exact ⟨_,by rw [e.o];rfl,by rw [e.o];exact o.1,o.2⟩
