import Derived.Test.YthjhkgohninpcaaGreatDoorBase0M
namespace Go.Proofs.YthjhkgohninpcaaGreatDoor
open Go.RowKit
set_option maxHeartbeats 2000000
set_option maxRecDepth 100000
theorem aU9(A:Option Addr)(G:Nat)(b:List Nd)(q:World)(o:dO q A b):Calls Tryz.prog 142 #[.slice A b.length G] q λt y=>t=.returned (.bool (fQ b))/\aC q y:=by
 have S:=o.few;go_enter Tryz.func142,Tryz.ntmps142;go_wp2;go_loopw [3,4] (λO x wr=>∃c i:Nat,c<=b.length/\i<=1+5*c/\x=.int .i64 c/\O=.int .i64 i/\aC q wr/\bA b 1=bA (b.drop c) i) (λ_ x _=>b.length-(intOf x).toNat);case atStart=>exact ⟨0,1,by omega,by omega,rfl,rfl,Below.refl _ _,rfl⟩
 case round=>
  obtain ⟨c,i,T,U,rfl,rfl,j,f⟩:=hrel;by_cases n:c<b.length
  ·obtain ⟨Q,V,rfl,B,C⟩:=o.cell c n;have H:=aD j B;have I:=aD j C;have J:=o.short c n;clear B C o;by_cases F:i=0
   ·subst F;rw [aG1 b c n] at f;have l:aG (fQ b=false):=by unfold fQ;rw [f];rfl
    have d:=aA j;clear f j;go_wp2;go_ret;exact ⟨bM l.o.symm,d.o.alloc d.o.size _⟩
   ·have R:((i:Int)==0)=false:=by rw [beq_eq_false_iff_ne];omega
    have w:=aG3 b c i n F;have u:=aG2 b c i n;generalize b[c]=nd at *;obtain ⟨e,a⟩:=nd;simp only at H I J;have m:=λP=>aG0 e P (by omega)
    by_cases k:dU (e,a)=true
    ·have E:=f.trans (w k);have z:=aA E;have d:=aA j;clear f E w u j;by_cases g:e.toList.isEmpty=true
     ·have hx:0<=a/\a<60:=by simpa [dU,aM,g] using k
      have s:aG (bP (e,a)=0):=by unfold bP aM;rw [aJ g];exact rfl
      obtain ⟨M,N⟩:=hx;clear k;go_wp2;go_roundw;case rel=>exact ⟨c+1,i-1,by omega,by omega,by go_num,by go_num,d.o.alloc d.o.size _,by rw [z.o,s.o];rfl⟩
      case measure=>simp [intOf];omega
     ·have hx:gE e=true/\0<=a/\a<=5:=by simpa [dU,aM,g] using k
      have s:aG (bP (e,a)=a.toNat):=by unfold bP aM;rw [aI g];exact rfl
      obtain ⟨p,M,N⟩:=hx;simp only [p] at m;have r:=aA m;have L:e.toList.isEmpty=false:=by simpa using g
      clear k m p g;go_wp2_with (go_at_call 115;refine (aB r _).mono ?_;rintro t y ⟨rfl,rfl⟩);go_roundw;case rel=>exact ⟨c+1,i-1+a.toNat,by omega,by omega,by go_num,by go_num,d.o.alloc d.o.size _,by rw [z.o,s.o]⟩
      case measure=>simp [intOf];omega
    ·have v:dU (e,a)=false:=by simpa using k
     rw [u v] at f;have l:aG (fQ b=false):=by unfold fQ;rw [f];rfl
     have d:=aA j;clear f w u j;by_cases g:e.toList.isEmpty=true
     ·have hx:a<0\/60<=a:=by
       have:¬(0<=a/\a<60):=by simpa [dU,aM,g] using k
       omega
      clear k v;rcases hx with hx|hx;all_goals
       go_wp2;go_ret;exact ⟨bM l.o.symm,d.o.alloc d.o.size _⟩
     ·have L:e.toList.isEmpty=false:=by simpa using g
      have hx:gE e=false\/(gE e=true/\(a<0\/5<a)):=by
       cases p:gE e
       ·exact Or.inl rfl
       ·have:¬(0<=a/\a<=5):=by simpa [dU,aM,g,p] using k
        exact Or.inr ⟨rfl,by omega⟩
      clear k v g;rcases hx with hx|⟨hx,hy|hy⟩;all_goals
       simp only [hx] at m;have r:=aA m;clear m hx;go_wp2_with (go_at_call 115;refine (aB r _).mono ?_;rintro t y ⟨rfl,rfl⟩);go_ret;exact ⟨bM l.o.symm,d.o.alloc d.o.size _⟩
  ·have D:b.drop c=[]:=List.drop_eq_nil_of_le (by omega);rw [D] at f;have l:aG (fQ b=(decide (i=0) && decide (b.length<=60))):=by unfold fQ;rw [f];rfl
   have d:=aA j;clear f D j;go_wp2;all_goals
    go_ret;refine ⟨bM ?_,d.o⟩;rw [l.o,Bool.eq_iff_iff];simp;omega
abbrev Pl:=ByteArray×Bool×Int×Int
structure yQ(w:World)(a:Option Addr)(l:List Pl):Prop where
 few:l.length<=1000000
 cell:∀k (h:k<l.length),∃b o,a=some ⟨b,o,none⟩/\w.cell? ⟨b,o+k*4,none⟩=some (.string l[k].1)/\w.cell? ⟨b,o+k*4+1,none⟩=some (.bool l[k].2.1)/\w.cell? ⟨b,o+k*4+2,none⟩=some (.int .i64 l[k].2.2.1)/\w.cell? ⟨b,o+k*4+3,none⟩=some (.int .i64 l[k].2.2.2)
theorem yQ.below{w w1:World}{a:Option Addr}{d:List Pl}(c:yQ w a d){B:Nat}(k:Below B w w1)(b:w.heap.size<=B):yQ w1 a d:=
 ⟨c.few,λj n=>by obtain ⟨e,o,f,g,i,l,m⟩:=c.cell j n;exact ⟨e,o,f,Below.at' k b g,Below.at' k b i,Below.at' k b l,Below.at' k b m⟩⟩
def mB(a b:Pl):Prop:=a.1=b.1/\(a.2.1≠b.2.1\/a.2.2.1≠b.2.2.1)
def jK(b:List Pl)(a:Nat)(d:a<b.length):Prop:=5<b[a].2.2.1\/∃c,∃e:c<a,mB (b[c]'(by omega)) b[a]
def oX(b:List Pl)(e:Int):Prop:=(e=-1/\∀a c,¬jK b a c)\/∃a c,jK b a c/\(∀d f,d<a->¬jK b d f)/\e=b[a].2.2.2
theorem aUa(R:Option Addr)(a1:Nat)(a:List Pl)(C:World)(A:yQ C R a):Calls Tryz.prog 46 #[.slice R a.length a1] C λa3 b8=>∃U,a3=.returned (.int .i64 U)/\oX a U/\∃c,b8=C.drewN c:=by
 have c0:=A.few;go_enter Tryz.func46,Tryz.ntmps46;go_wp2;go_loopw [3] (λd wr=>∃b:Nat,b<=a.length/\d=.int .i64 b/\(∀f o,f<b->¬jK a f o)/\∃c,wr=C.drewN c) (λd _=>a.length-(intOf d).toNat);case atStart=>exact ⟨0,Nat.zero_le _,rfl,λf _ o=>by omega,0,rfl⟩
 case round=>
  obtain ⟨b,B,rfl,G,e⟩:=hrel;have i:=aA e;have v:=aA G;by_cases H:b<a.length
  ·obtain ⟨Z,a8,rfl,p,q,r,z⟩:=A.cell b H;have J:=aD (aL e) p;have L:=aD (aL e) q;have M:=aD (aL e) r;have N:=aD (aL e) z;have X:=aA A;clear p q r z A G e;by_cases E:5<a[b].2.2.1
   ·have g:aG (oX a a[b].2.2.2):=Or.inr ⟨b,H,Or.inl E,v.o,rfl⟩;generalize a[b]=x at *;obtain ⟨O,P,I,b7⟩:=x;simp only at J L M N E g;go_wp2;go_ret;exact ⟨_,rfl,g.o,i.o⟩
   ·go_wp2;go_loopw [4] (λf b9=>∃c:Nat,c<=b/\f=.int .i64 c/\(∀d,∀n:d<c,∀B:d<a.length,¬mB a[d] a[b])/\∃a2,b9=wr.drewN a2) (λf _=>b-(intOf f).toNat);case atStart=>exact ⟨0,Nat.zero_le _,rfl,λd n _=>by omega,0,rfl⟩
    case round=>
     obtain ⟨c,c4,rfl,F,e⟩:=hrel;have Q:=aA F;have m:=aA e;by_cases a6:c<b
     ·have a7:c<a.length:=by omega
      obtain ⟨a0,a9,S,p,q,r,z⟩:=X.o.cell c a7;obtain ⟨rfl,rfl⟩ : a0=Z/\a9=a8:=by simpa using S.symm
      have b0:=aD (aL (gY i.o e)) p;have b1:=aD (aL (gY i.o e)) q;have b2:=aD (aL (gY i.o e)) r;have b3:=aD (aL e) J;have b4:=aD (aL e) L;have b5:=aD (aL e) M;have b6:=aD (aL e) N;have g:aG (mB a[c] a[b]->oX a a[b].2.2.2):=λu=>Or.inr ⟨b,H,Or.inr ⟨c,a6,u⟩,v.o,rfl⟩
      have l:aG (¬mB a[c] a[b]->∀d,∀n:d<c+1,∀B:d<a.length,¬mB a[d] a[b]):=λu d n B=>by
       by_cases a4:d=c
       ·subst a4;exact u
       ·exact Q.o d (by omega) B
      have c2:(b:Int)<(a.length:Int):=by omega
      have c5:(c:Int)<(a.length:Int):=by omega
      clear p q r z S F e J L M N;generalize a[b]=x at *;generalize a[c]=y at *;obtain ⟨O,P,I,b7⟩:=x;obtain ⟨V,W,T,c7⟩:=y;simp only at b0 b1 b2 b3 b4 b5 b6 E g l;by_cases j:V=O
      ·by_cases k:W=P
       ·by_cases t:T=I
        ·have D:=aA (l.o (by simp [mB,j,k,t]));clear g l;subst j k t;go_wp2;go_quiet (fail);go_wp2;go_roundw;case rel=>exact ⟨c+1,by omega,by go_num,D.o,gY m.o (by first|exact jV _ _ _|exact ⟨_,rfl⟩)⟩
         case measure=>simp [intOf];omega
        ·have c3:(T != I)=true:=by rw [bne_iff_ne];exact t
         have w:=aA (g.o (by simp [mB,j,t]));clear g l t;subst j k;go_wp2;go_quiet (fail);go_wp2;go_ret;exact ⟨_,rfl,w.o,gY i.o (gY m.o (by first|exact jV _ _ _|exact ⟨_,rfl⟩))⟩
       ·have w:=aA (g.o (by simp [mB,j,k]));clear g l;subst j;cases P<;>cases W
        ·exact absurd rfl k
        ·clear k;go_wp2;go_quiet (fail);go_wp2;go_ret;exact ⟨_,rfl,w.o,gY i.o (gY m.o (by first|exact jV _ _ _|exact ⟨_,rfl⟩))⟩
        ·clear k;go_wp2;go_quiet (fail);go_wp2;go_ret;exact ⟨_,rfl,w.o,gY i.o (gY m.o (by first|exact jV _ _ _|exact ⟨_,rfl⟩))⟩
        ·exact absurd rfl k
      ·have c6:(V.toList==O.toList)=false:=by
        rw [beq_eq_false_iff_ne];exact λu=>j (wB.1 u)
       have D:=aA (l.o (by simp [mB,j]));clear g l j;go_wp2;go_quiet (fail);go_wp2;go_roundw;case rel=>exact ⟨c+1,by omega,by go_num,D.o,gY m.o (by first|exact jV _ _ _|exact ⟨_,rfl⟩)⟩
       case measure=>simp [intOf];omega
     ·have Y:aG (∀f o,f<b+1->¬jK a f o):=λf o c1 s=>by
       by_cases a5:f=b
       ·subst a5;rcases s with s|⟨d,n,s⟩
        ·omega
        ·exact Q.o d (by omega) (by omega) s
       ·exact v.o f o (by omega) s
      clear F e;go_wp2;go_roundw;case rel=>exact ⟨b+1,by omega,by go_num,Y.o,gY i.o m.o⟩
      case measure=>simp [intOf];omega
  ·have g:aG (oX a (-1)):=Or.inl ⟨rfl,λd n=>v.o d n (by omega)⟩;clear G e;go_wp2;go_ret;exact ⟨_,rfl,g.o,i.o⟩
def aN:List Nd->Nat->Nat
 |_,0=>0
 |[],_+1=>0
 |n::r,q+1=>1+aN r (q+bP n)
@[simp] theorem bCq(l:List Nd):aN l 0=0:=by cases l<;>rfl
theorem uQ(a:Nd)(c:List Nd)(b:Nat):bA (a::c) (b+1)=(dU a && bA c (b+bP a)):=by simp only [bA];cases dU a<;>simp
theorem aAu(d:List Nd):∀b c,bA d b=true->aN (d++c) b=d.length:=by
 induction d with
 |nil=>intro b c a;simp [bA] at a;subst a;simp
 |cons n r ih=>
  intro b c a;cases b with
  |zero=>simp [bA] at a
  |succ b=>
   rw [uQ,Bool.and_eq_true] at a;simp [aN,ih _ c a.2];omega
theorem nR(b:List Nd):∀a,aN b a<=b.length:=by
 induction b with
 |nil=>intro a;cases a<;>simp [aN]
 |cons n r ih=>intro a;cases a with
  |zero=>simp
  |succ a=>have:=ih (a+bP n);simp [aN];omega
abbrev Bd':=List (Int×List Nd)
def aUb(a:Bd')(b:Int):Option (List Nd):=a.lookup b
def subst(a:Int->List Nd)(l:List Nd):List Nd:=l.flatMap λn=>if aM n then a n.2 else [n]
def Tm(b:Int->List Nd):Prop:=∀a,bA (b a) 1=true
def Ext(d:Int->List Nd)(c:Bd'):Prop:=∀b a,aUb c b=some a->d b=a
theorem mO{a:Nd}(b:aM a=true):bP a=0:=by simp [bP,b]
def Cov(e d:List Lt)(c:Bd'):Prop:=∃a,Tm a/\Ext a c/\∀b∈d,(b.1,subst a b.2)∈e
