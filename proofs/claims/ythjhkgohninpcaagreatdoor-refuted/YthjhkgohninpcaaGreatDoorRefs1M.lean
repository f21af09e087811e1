import Derived.Test.YthjhkgohninpcaaGreatDoorBase0M
import Derived.Shelf.Abstract
open And renaming intro→zn
open List renaming take_succ_eq_append_getElem→zz,take_of_length_le→zy,getElem_mem→zr,foldl_cons→zq,length_take_le→zp,length_append→zj,foldl_append→zi,length_cons→zh
open Nat renaming le_refl→zw,zero_le→zu,le_trans→zm,mul_le_mul_right→zl
open Prod renaming fst→zx
namespace Go.Proofs.YthjhkgohninpcaaGreatDoor
open Calls renaming quiet_of→zt
open _root_.Go.Proofs.Tryz renaming prog→zv,underlying41→zo
open World renaming ownsRow_nil→zs,grownBy_alloc→zk
open Go.RowKit Go.Shelf
set_option maxHeartbeats 2000000
set_option maxRecDepth 100000
variable{P:List (Lt×Value)}{v:Value}{w w1:World}
theorem aIs(o p:Option Addr)(x y:Nat)(b c:List (ByteArray×Int))(w:World)(j:dO w o b)(k:dO w p c):Calls zv 23 #[.slice o b.length x,.slice p c.length y] w λz D=>z=.returned (.bool (decide (b=c)))/\∃f,D=w.drewN f:=by
 have E:=j.few;have F:=k.few;by_cases e:b.length=c.length
 ·have C:((b.length:Int) != (c.length:Int))=false:=by rw [e];simp
  have n:aG (b.length=c.length):=e;clear e;go_enter Tryz.func23,Tryz.ntmps23;go_wp2;go_loopw [5] (λm wr=>∃a:Nat,a<=b.length/\m=.int .i64 a/\(∃f,wr=w.drewN f)/\b.take a=c.take a) (λm _=>b.length-(intOf m).toNat);case atStart=>exact ⟨0,zu _,rfl,⟨0,rfl⟩,rfl⟩
  case round=>
   obtain ⟨a,M,rfl,⟨f,rfl⟩,l⟩:=hrel;by_cases r:a<b.length
   ·obtain ⟨R,O,rfl,G,I⟩:=j.cell a r;have N:(a:Int)<(c.length:Int):=by have:=n.o;omega
    have s:a<c.length:=by omega
    obtain ⟨S,Q,rfl,H,J⟩:=k.cell a s;have q:=wC b[a] c[a];have L:=xX;have T:=wD b[a].1 c[a].1 b[a].2 c[a].2;clear j k;by_cases d:b[a]=c[a]
    ·rw [eI d] at q;have g:aG (b[a]=c[a]):=d;clear d;go_wp2;go_quiet (fail);go_wp2;go_roundw;case rel=>exact ⟨a+1,by omega,by go_num,(by first|exact jV _ _ _|exact ⟨_,rfl⟩),by rw [zz r,zz s,l,g.o]⟩
     case measure=>simp [intOf];omega
    ·rw [dE d] at q;have g:aG (¬b[a]=c[a]):=d;clear d;go_wp2;go_quiet (fail);go_wp2;go_ret;refine ⟨?_,(by first|exact jV _ _ _|exact ⟨_,rfl⟩)⟩;have:¬b=c:=λi=>g.o (by subst i;rfl)
     simp [this]
   ·go_wp2;go_ret;refine ⟨?_,⟨_,rfl⟩⟩;have A:b.take a=b:=zy (by omega);have B:c.take a=c:=zy (by have:=n.o;omega);rw [A,B] at l;simp [l]
 ·have C:((b.length:Int) != (c.length:Int))=true:=by rw [bne_iff_ne];omega
  have t:¬b=c:=λi=>e (by rw [i])
  have u:aG (¬b=c):=t;clear t e;go_enter Tryz.func23,Tryz.ntmps23;go_wp2;go_ret;exact ⟨by simp [u.o],0,rfl⟩
def nS(a b:Lt):Bool:=decide (a.2=b.2) && a.1==b.1
theorem aIt(a b:Lt):nS a b=decide (a=b):=by rw [Bool.eq_iff_iff];simp [nS,Prod.ext_iff,and_comm]
theorem wX(u x:Option Addr)(F G:Nat)(b c:List Lt)(w:World)(g:bD w u b)(i:bD w x c):Calls zv 14 #[.slice u b.length F,.slice x c.length G] w λJ R=>J=.returned (.bool (decide (b=c)))/\∃s,R=w.drewN s:=by
 have S:=g.few;have T:=i.few;by_cases j:b.length=c.length
 ·have Q:((b.length:Int) != (c.length:Int))=false:=by rw [j];simp
  have t:aG (b.length=c.length):=j;clear j;go_enter Tryz.func14,Tryz.ntmps14;go_wp2;go_loopw [5] (λq wr=>∃a:Nat,a<=b.length/\q=.int .i64 a/\(∃s,wr=w.drewN s)/\b.take a=c.take a) (λq _=>b.length-(intOf q).toNat);case atStart=>exact ⟨0,zu _,rfl,⟨0,rfl⟩,rfl⟩
  case round=>
   obtain ⟨a,Y,rfl,m,p⟩:=hrel;replace g:=g.drawn m
   replace i:=i.drawn m
   have k:=aA m;clear m;by_cases A:a<b.length
   ·obtain ⟨a2,a0,D,H,rfl,U,W,y⟩:=g.cell a A;have Z:(a:Int)<(c.length:Int):=by have:=t.o;omega
    have B:a<c.length:=by omega
    obtain ⟨a3,a1,E,I,rfl,V,X,z⟩:=i.cell a B;have d:=λr=>aIs D E H I b[a].2 c[a].2 (wr.drewN r) (y.drewN r) (z.drewN r)
    clear g i y z;by_cases e:b[a].2=c[a].2
    ·rw [eI e] at d;have n:=aA d;have o:=aA e;clear d e;go_wp2;go_quiet ((go_at_call 23;exact zt (aB n _)));go_wp2;go_quiet (fail);go_wp2
     ·go_ret;refine ⟨?_,gY k.o (by first|exact jV _ _ _|exact ⟨_,rfl⟩)⟩;have l:(!b[a].1==c[a].1)=true:=by assumption
      have:¬b=c:=λf=>by subst f;simp at l
      simp [this]
     ·have M:(!b[a].1==c[a].1)=false:=by assumption
      have L:b[a]=c[a]:=Prod.ext (by simpa using M) o.o;go_roundw;case rel=>exact ⟨a+1,by omega,by go_num,gY k.o (by first|exact jV _ _ _|exact ⟨_,rfl⟩),by rw [zz A,zz B,p,L]⟩
      case measure=>simp [intOf];omega
    ·rw [dE e] at d;have n:=aA d;have o:=aA e;clear d e;go_wp2;go_quiet ((go_at_call 23;exact zt (aB n _)));go_wp2;go_quiet (fail);go_wp2;go_ret;refine ⟨?_,gY k.o (by first|exact jV _ _ _|exact ⟨_,rfl⟩)⟩;have:¬b=c:=λf=>o.o (by subst f;rfl)
     simp [this]
   ·go_wp2;go_ret;refine ⟨?_,k.o⟩;have N:b.take a=b:=zy (by omega);have O:c.take a=c:=zy (by have:=t.o;omega);rw [N,O] at p;simp [p]
 ·have Q:((b.length:Int) != (c.length:Int))=true:=by rw [bne_iff_ne];omega
  have l:¬b=c:=λf=>j (by rw [f])
  have C:aG (¬b=c):=l;clear l j;go_enter Tryz.func14,Tryz.ntmps14;go_wp2;go_ret;exact ⟨by simp [C.o],0,rfl⟩
def aR(a:List Lt):Nat:=(a.map λb=>b.2.length).sum
theorem nT(a:List Lt)(b:Lt):aR (a++[b])=aR a+b.2.length:=by simp [aR]
theorem aIu(a:List Lt)(c:∀b (c:b<a.length),(a[b]).2.length<=5864062014805):aR a<=a.length*5864062014805:=by
 induction a with
 |nil=>simp [aR]
 |cons x r ih=>
  have d:=c 0 (by simp);have f:=ih (λb e=>by have:=c (b+1) (by simpa using e);simpa using this);simp [aR] at d f ⊢;omega
theorem tQ(a:List Lt)(b:Nat):aR (a.take b)<=aR a:=by have c:=congrArg aR (List.take_append_drop b a);simp only [aR,List.map_append,List.sum_append] at c ⊢;omega
theorem aUd(e:Option Addr)(k:Nat)(a:List Lt)(w:World)(c:bD w e a)(n:a.length<=8):Calls zv 78 #[.slice e a.length k] w λl q=>l=.returned (.int .i64 (aR a))/\q=w:=by
 have x:aR a<=8*5864062014805:=zm (aIu a λb g=>by obtain ⟨_,_,_,_,_,_,_,m⟩:=c.cell b g;exact m.few) (zl _ n);go_enter Tryz.func78,Tryz.ntmps78;go_wp2;go_loop [3,4] (λp d=>∃b:Nat,b<=a.length/\d=.int .i64 b/\p=.int .i64 (aR (a.take b))) (λ_ d=>a.length-(intOf d).toNat);case atStart=>exact ⟨0,zu _,rfl,rfl⟩
 case round=>
  obtain ⟨b,g,rfl,rfl⟩:=hrel;have y:=tQ a b;by_cases i:b<a.length
  ·obtain ⟨B,A,r,s,rfl,t,u,f⟩:=c.cell b i;have z:=f.few;have j:aG (aR (a.take (b+1))=aR (a.take b)+a[b].2.length):=by
    rw [zz i,nT];exact rfl
   clear c f;go_wp2;go_round;case rel=>exact ⟨b+1,by omega,by go_num,by rw [j.o];go_num⟩
   case measure=>simp [intOf];omega
  ·go_wp2;go_ret;have o:a.take b=a:=zy (by omega);rw [o];exact ⟨rfl,rfl⟩
def cD(c:List Lt):Bool:=decide (c.length<=8) && decide (aR c<=60)
theorem wY(b:Option Addr)(d:Nat)(a:List Lt)(w:World)(f:bD w b a):Calls zv 47 #[.slice b a.length d] w λe i=>e=.returned (.bool (cD a))/\i=w:=by
 have l:=f.few;by_cases c:a.length<=8
 ·have k:=aUd b d a w f c;have j:=aA (show cD a=decide ((aR a:Int)<=60) by simp [cD,c];omega);go_enter Tryz.func47,Tryz.ntmps47;go_wp2_with (go_at_call 78;refine k.mono ?_;rintro e i ⟨rfl,rfl⟩);go_ret;exact ⟨bM j.o.symm,rfl⟩
 ·have g:cD a=false:=by simp [cD,c]
  rw [g];clear g;go_enter Tryz.func47,Tryz.ntmps47;go_wp2;go_ret;exact ⟨rfl,rfl⟩
def fI(a:List Lt)(b:Lt):Bool:=a.any λc=>decide (c=b)
theorem aAv(a:List Lt)(b:Lt):fI a b=true↔b∈a:=by simp [fI]
theorem aIv(b:List Lt)(c a:Lt):fI (b++[c]) a=(fI b a || decide (c=a)):=by simp [fI]
def eO(a:List Lt)(x:Lt):List Lt:=if fI a x then a else a++[x]
def bY(c:List Lt):List Lt:=c.foldl eO []
theorem aIw(a:List Lt)(b:Nat)(c:b<a.length):bY (a.take (b+1))=eO (bY (a.take b)) a[b]:=by rw [zz c];simp only [bY,zi,zq,List.foldl_nil]
theorem oY(c:List Lt):(bY c).length<=c.length/\aR (bY c)<=aR c/\∀b∈bY c,b∈c:=by
 suffices ∀(c:List Lt) (a:List Lt),(c.foldl eO a).length<=a.length+c.length/\aR (c.foldl eO a)<=aR a+aR c/\∀b∈c.foldl eO a,b∈a\/b∈c by
  have h:=this c [];exact ⟨by have:=h.1;simpa [bY] using this,by have:=h.2.1;simpa [aR,bY] using this,λb f=>by rcases h.2.2 b f with h|h<;>simp_all⟩
 intro c;induction c with
 |nil=>intro a;simp [aR]
 |cons b r ih=>
  intro a;have h:=ih (eO a b);have e:(eO a b).length<=a.length+1/\aR (eO a b)<=aR a+b.2.length/\∀d∈eO a b,d∈a\/d=b:=by
   unfold eO;split
   ·exact ⟨by omega,by omega,λd hy=>Or.inl hy⟩
   ·exact ⟨by simp,by simp [aR],λd hy=>by simpa using hy⟩
  have g:aR (b::r)=b.2.length+aR r:=by simp [aR]
  simp only [zq,zh];refine ⟨by omega,by omega,λd hy=>?_⟩;rcases h.2.2 d hy with hy|hy
  ·rcases e.2.2 d hy with hy|rfl
   ·exact Or.inl hy
   ·exact Or.inr (by simp)
  ·exact Or.inr (by simp [hy])
def eG(a:List Lt×List Int)(b:Lt):List Lt×List Int:=(a.1++[(b.1,(dF b.2 a.2).1)],(dF b.2 a.2).2)
def dG(a:List Lt):List Lt×List Int:=a.foldl eG ([],[])
def aU(a:List Lt):List Lt:=(dG (bY a)).1
theorem aIx(a:List Lt)(b:Nat)(c:b<a.length):dG (a.take (b+1))=eG (dG (a.take b)) a[b]:=by rw [zz c];simp only [dG,zi,zq,List.foldl_nil]
theorem oZ(a:List Lt):(dG a).1.length=a.length/\(dG a).2.length<=aR a:=by
 suffices ∀(a:List Lt) (b:List Lt×List Int),(a.foldl eG b).1.length=b.1.length+a.length/\(a.foldl eG b).2.length<=b.2.length+aR a by
  have c:=this a ([],[]);simpa [dG] using c
 intro a;induction a with
 |nil=>intro b;simp [aR]
 |cons x r ih=>
  intro b;have c:=ih (eG b x);have d:=uK x.2 b.2;have e:aR (x::r)=x.2.length+aR r:=by simp [aR]
  simp only [zq,zh];have f:(eG b x).1.length=b.1.length+1:=by simp [eG]
  have g:(eG b x).2.length<=b.2.length+x.2.length:=d.2;exact ⟨by omega,by omega⟩
theorem wZ(a:List Lt)(b:Lt)(h:b∈a):b.2.length<=aR a:=by
 induction a with
 |nil=>simp at h
 |cons y r ih=>
  simp only [aR,List.map_cons,List.sum_cons] at ih ⊢;rcases List.mem_cons.1 h with rfl|h
  ·omega
  ·have:=ih h;omega
def bS(P:List (Lt×Value)):List Value:=P.flatMap λa=>[.bool a.1.1,a.2]
theorem aAw(P:List (Lt×Value))(a:Lt×Value):bS (P++[a])=bS P++[.bool a.1.1,a.2]:=by simp [bS]
theorem aIy(P:List (Lt×Value)):∀a (b:a<P.length),(bS P)[a*2]?=some (.bool P[a].1.1)/\(bS P)[a*2+1]?=some P[a].2:=by
 induction P with
 |nil=>intro a b;simp at b
 |cons x r ih=>
  intro a b;cases a with
  |zero=>simp [bS]
  |succ a=>
   have:=ih a (by simpa using b);have c:(a+1)*2=a*2+2:=by omega
   have d:(a+1)*2+1=a*2+1+2:=by omega
   rw [c];simp only [bS,List.flatMap_cons,List.cons_append,List.nil_append,List.getElem?_cons_succ,List.getElem_cons_succ] at this ⊢;exact this
theorem sB{e:Nat}(g:w.ownsRow e 55 2 v P.length (bS P)):∃f c,v=.slice f P.length c/\∀a (g:a<P.length),∃b,f=some ⟨b,0,none⟩/\w.cell? ⟨b,a*2,none⟩=some (.bool P[a].1.1)/\w.cell? ⟨b,a*2+1,none⟩=some P[a].2:=by
 obtain ⟨k,⟨rfl,l⟩|⟨b,c,j,rfl,m,o,n,p,r,q⟩⟩:=g
 ·exact ⟨none,0,by rw [l],λa d=>by omega⟩
 ·have i:w.ownsRow e 55 2 (.slice (some ⟨b,0,none⟩) P.length c) P.length (bS P):=⟨k,Or.inr ⟨b,c,j,rfl,m,o,n,p,r,q⟩⟩;refine ⟨_,_,rfl,λa d=>⟨b,rfl,?_,?_⟩⟩
  ·rw [i.cellAt (a*2) (by omega),(aIy P a d).1]
  ·rw [i.cellAt (a*2+1) (by omega),(aIy P a d).2]
theorem aW{B:Nat}{c:TypeId}{e:Nat}{b:Nat}{f:List Value}(d:w.ownsRow B c e v b f):∃a cap,v=.slice a b cap:=by
 obtain ⟨_,⟨rfl,rfl⟩|⟨i,cap,g,rfl,_⟩⟩:=d
 ·exact ⟨_,_,rfl⟩
 ·exact ⟨_,_,rfl⟩
def lJ(w:World)(v:Value)(b:List Nd):Prop:=∃a c,v=.slice a b.length c/\dO w a b
theorem sC:(zv.info? 55).map (λa=>(a.zero,a.size,a.bytes))=some (some (.agg #[.bool false,.slice none 0 0]),2,32):=by kernel_rfl
theorem sD(d:Bool)(c:Option Addr)(f e:Nat):∀b∈[Value.bool d,Value.slice c f e],b.oneCell'=true:=by intro b a;simp at a;rcases a with rfl|rfl<;>rfl
theorem aIz{b:Lt}(c:∀a∈P,lJ w a.2 a.1.2)(d:lJ w v b.2):∀a∈P++[(b,v)],lJ w a.2 a.1.2:=by
 intro a hp;rcases List.mem_append.1 hp with hp|hp
 ·exact c a hp
 ·simp at hp;subst hp;exact d
theorem aUe(b a:Bool)(d c:List Nd)(e:d=c):(b==a)=(false || decide ((b,d)=(a,c))):=by subst e;cases b<;>cases a<;>simp
theorem aJ0{b:Nat}{d:World}{k l s:Value}{c:List (Lt×Value)}{sn:List Int}{x:Lt}(g:∀a∈c,d.ownsRow b 106 2 a.2 a.1.2.length (aP a.1.2))(f:d.ownsRow b 55 2 k c.length (bS c))(i:d.ownsRow b 3 1 s sn.length (sn.map (Value.int .i64)))
  (j:d.ownsRow b 106 2 v x.2.length (aP x.2)) (m:w1.ownsRow b 55 2 l (c.length+1) (bS c++[.bool x.1,v])) (e:d.grownBy w1 k.ownBlock):(∀a∈c++[(x,v)],w1.ownsRow b 106 2 a.2 a.1.2.length (aP a.1.2))/\w1.ownsRow b 55 2 l (c++[(x,v)]).length (bS (c++[(x,v)]))/\w1.ownsRow b 3 1 s sn.length (sn.map (Value.int .i64)):=by
 refine ⟨λa hq=>?_,?_,i.kept e (bW i f (by decide))⟩
 ·rcases List.mem_append.1 hq with hq|hq
  ·exact (g a hq).kept e (bW (g a hq) f (by decide))
  ·simp at hq;subst hq;exact j.kept e (bW j f (by decide))
 ·rw [aAw,zj];exact m
theorem aJ1{a:World}{c d:Value}{x:Lt}(g:a.ownsRow w.heap.size 55 2 c P.length (bS P))(b:aC w a)
  (i:w1.ownsRow w.heap.size 55 2 d (P.length+1) (bS P++[.bool x.1,v])) (f:a.grownBy w1 c.ownBlock):w1.ownsRow w.heap.size 55 2 d (P++[(x,v)]).length (bS (P++[(x,v)]))/\aC w w1:=by
 refine ⟨?_,b.grown f b.size λj e=>(bL g j e).1⟩;rw [aAw,zj];exact i
theorem aDt(e0:Option Addr)(g3:Nat)(c:List Lt)(w:World)(Z:bD w e0 c)(i8:aR c<=1000000):Calls zv 77 #[.slice e0 c.length g3] w λY d5=>∃v e,Y=.returned v/\e.map zx=aU c/\d5.ownsRow w.heap.size 55 2 v e.length (bS e)/\
   (∀d∈e,d5.ownsRow w.heap.size 106 2 d.2 d.1.2.length (aP d.1.2))/\aC w d5:=by
 obtain ⟨f3,e5,e6,e7,e8⟩:=info_parts sC;have i7:=Z.few;go_enter Tryz.func77,Tryz.ntmps77;go_wp2;go_loopw [3,4] (λd1 u wr=>∃(b:Nat) (P:List (Lt×Value)),b<=c.length/\u=.int .i64 b/\P.map zx=bY (c.take b)/\(∀d2∈P,lJ w d2.2 d2.1.2)/\wr.ownsRow w.heap.size 55 2 d1 P.length (bS P)/\aC w wr)
  (λ_ u _=>c.length-(intOf u).toNat)
 case atStart=>exact ⟨0,[],zu _,rfl,rfl,λd2 g9=>by simp at g9,zs _ _ _ _,Below.refl _ _⟩
 case round=>
  obtain ⟨b,P,i9,rfl,j,a0,M,m⟩:=hrel;have i5:P.length<=b:=by
   have e3:=(oY (c.take b)).1;have b6:P.length=(bY (c.take b)).length:=by rw [<-j];simp
   have b7:(c.take b).length<=b:=zp _ _;omega
  by_cases f0:b<c.length
  ·obtain ⟨i4,d,W,X,rfl,e1,e2,b5⟩:=Z.cell b f0;have F:=aD m e1;have G:=aD m e2;have t:=aIw c b f0;rw [<-j] at t;generalize c[b]=x at *;obtain ⟨i,g⟩:=x;simp only at F G b5;obtain ⟨h1,h2,rfl,O⟩:=sB M;have V:=aA O;have p:=aA t;have D:=aA a0;have i2:=aA j;have d8:=aA b5;have z:=aA m;have I:=m.size;clear e1 e2 Z t j a0 O m b5;go_wp2;go_loopw [5,6] (λa5 c9 i1=>∃a:Nat,a<=P.length/\c9=.int .i64 a/\a5=.bool (fI ((P.map zx).take a) (i,g))/\∃g4,i1=wr.drewN g4) (λ_ c9 _=>P.length-(intOf c9).toNat);case atStart=>exact ⟨0,zu _,rfl,rfl,0,rfl⟩
   case round=>
    obtain ⟨a,g8,rfl,rfl,f⟩:=hrel;by_cases L:a<P.length
    ·obtain ⟨g5,rfl,q,n⟩:=V.o a L;obtain ⟨d3,d4,R,r⟩:=D.o P[a] (zr _);rw [R] at n;have a9:=aA (show fI ((P.map zx).take (a+1)) (i,g)=(fI ((P.map zx).take a) (i,g) || decide (P[a].1=(i,g))) by
      rw [zz (by simpa using L),aIv];simp)
     generalize P[a].1=y at *;obtain ⟨T,o⟩:=y;simp only at q n r;have h3:=aD (aL f) q;have h4:=aD (aL f) n;have h5:=aD (aL f) F;have h6:=aD (aL f) G;have A:=λd0=>aIs d3 W d4 X o g (wr.drewN d0) (((r.below z.o (zw _)).drawn f).drewN d0) (((d8.o.below z.o (zw _)).drawn f).drewN d0)
     have a8:=aA f;clear f q n R r F G;generalize hkn:fI ((P.map zx).take a) (i,g)=a5 at *;clear hkn;by_cases C:o=g
     ·rw [eI C] at A;have U:=aA A;have b2:=aA C;clear A C;cases a5
      ·go_wp2;go_quiet ((go_at_call 23;exact zt (aB U _)));go_wp2;go_quiet (fail);go_wp2;go_roundw;case rel=>exact ⟨a+1,by omega,by go_num,by rw [a9.o];exact congrArg Value.bool (aUe _ _ _ _ b2.o),gY a8.o (by first|exact jV _ _ _|exact ⟨_,rfl⟩)⟩
       case measure=>simp [intOf];omega
      ·go_wp2;go_quiet ((go_at_call 23;exact zt (aB U _)));go_wp2;go_quiet (fail);go_wp2;go_roundw;case rel=>exact ⟨a+1,by omega,by go_num,by rw [a9.o];simp,gY a8.o (by first|exact jV _ _ _|exact ⟨_,rfl⟩)⟩
       case measure=>simp [intOf];omega
     ·rw [dE C] at A;have U:=aA A;have b2:=aA C;clear A C;cases a5;all_goals
       go_wp2;go_quiet ((go_at_call 23;exact zt (aB U _)));go_wp2;go_quiet (fail);go_wp2;go_roundw;case rel=>exact ⟨a+1,by omega,by go_num,by rw [a9.o];simp [Prod.ext_iff,b2.o],gY a8.o (by first|exact jV _ _ _|exact ⟨_,rfl⟩)⟩
       case measure=>simp [intOf];omega
    ·have H:(P.map zx).take a=P.map zx:=zy (by simp;omega);rw [H];clear H V;have h5:=aD (aL f) F;have h6:=aD (aL f) G;have Q:=bB M (aL f) (zw _);have c0:=z.o.trans ((aL f).mono I);have d7:=aA c0;have g6:=c0.size;clear f F G M c0;cases hkn:fI (P.map zx) (i,g)
     ·have b3:aG (bY (c.take (b+1))=P.map zx++[(i,g)]):=aA (by rw [p.o];simp [eO,hkn]);have b0:=aA Q;clear hkn p;go_wp2_with (first
       |(at_builtin;refine wpList_append_own _ rfl (.tmp 55) (.tmp 60) 41 rfl w.heap.size 55 f3 (.agg #[.bool false,.slice none 0 0]) 2 32 zo e5 e6 e7 e8 rfl (by decide) _ _ _ rfl (Q.alloc _) ⟨wr.heap.size,0,none⟩ 1 1 [.bool i,.slice W g.length X] rfl rfl ?c1 ?c2 ?c3 ?c4 ?c5 ?_)
       |go_in)
      case c1=>exact fS _ _ _ _ _ (by simp)
      case c2=>first|exact sD _ _ _ _|exact ⟨rfl,rfl⟩
      case c3=>unfold maxLen;omega
      case c4=>omega
      case c5=>first|omega|(simp;omega)
      intro h9 w1 N B _;have E:=aJ1 (x:=(i,g)) (b0.o.alloc _) (d7.o.alloc g6 _) N B;clear N B Q;go_wp2;go_roundw;case rel=>exact ⟨b+1,P++[((i,g),.slice W g.length X)],by omega,by go_num,by rw [b3.o];simp,aIz D.o ⟨W,X,rfl,d8.o⟩,E.1,E.2⟩
      case measure=>simp [intOf];omega
     ·have b3:aG (bY (c.take (b+1))=P.map zx):=aA (by rw [p.o];simp [eO,hkn]);have b0:=aA Q;clear hkn p Q;go_wp2;go_roundw;case rel=>exact ⟨b+1,P,by omega,by go_num,b3.o.symm,D.o,b0.o,d7.o⟩
      case measure=>simp [intOf];omega
  ·have e9:c.take b=c:=zy (by omega);rw [e9] at j;have b8:=oY c;rw [<-j] at b8;obtain ⟨h1,h2,rfl,O⟩:=sB M;have V:=aA O;have f8:aG (aU c=(dG (P.map zx)).1):=by unfold aU;rw [<-j];exact rfl
   have D:=aA a0;have z:=aA m;have d9:=aA b8;have I:=m.size;clear e9 j b8 O a0 m M Z;go_wp2;go_loopw [8,9,10] (λd1 h7 u a7=>∃(a:Nat) (e:List (Lt×Value)),a<=P.length/\u=.int .i64 a/\e.map zx=(dG ((P.map zx).take a)).1/\(∀d∈e,a7.ownsRow wr.heap.size 106 2 d.2 d.1.2.length (aP d.1.2))/\
     a7.ownsRow wr.heap.size 55 2 d1 e.length (bS e)/\a7.ownsRow wr.heap.size 3 1 h7 (dG ((P.map zx).take a)).2.length ((dG ((P.map zx).take a)).2.map (Value.int .i64))/\aC wr a7)
    (λ_ _ u _=>P.length-(intOf u).toNat)
   case atStart=>exact ⟨0,[],zu _,rfl,rfl,λd s=>by simp at s,zs _ _ _ _,zs _ _ _ _,Below.refl _ _⟩
   case round=>
    obtain ⟨a,e,g8,rfl,k,a1,b9,a3,l⟩:=hrel;have i6:e.length<=a:=by
     have e3:=(oZ ((P.map zx).take a)).1;have b6:e.length=(dG ((P.map zx).take a)).1.length:=by rw [<-k];simp
     have b7:((P.map zx).take a).length<=a:=zp _ _;omega
    have h0:(dG ((P.map zx).take a)).2.length<=1000000:=by have e3:=(oZ ((P.map zx).take a)).2;have b6:=tQ (P.map zx) a;have b7:=d9.o.2.1;omega
    by_cases L:a<P.length
    ·obtain ⟨g5,rfl,q,n⟩:=V.o a L;obtain ⟨d3,d4,R,r⟩:=D.o P[a] (zr _);rw [R] at n;have t:=aIx (P.map zx) a (by simpa using L);have g7:P[a].1.2.length<=1000000:=by
      have b6:=wZ (P.map zx) P[a].1 (List.mem_map.2 ⟨P[a],zr _,rfl⟩);have b7:=d9.o.2.1;omega
     rw [List.getElem_map] at t;generalize P[a].1=y at *;obtain ⟨T,o⟩:=y;generalize dG ((P.map zx).take a)=ST at *;obtain ⟨h8,S⟩:=ST;simp only at q n r k a3 h0 g7;have h3:=aD l q;have h4:=aD l n;have f1:=r.below z.o (zw _);have a2:=l.size;have b4:=aNj _ d3 d4 o u9 S _ wr f1 l (zw _) a2 a3 (by omega);have c7:dG ((P.map zx).take (a+1))=(h8++[(T,(dF o S).1)],(dF o S).2):=t;have c6:=uK o S;generalize dF o S=RL at *;obtain ⟨a6,j1⟩:=RL;simp only at b4 c7 c6;have p:=aA c7;have f9:=aA k;have g2:=aA b4;have g0:=aA a1;have i3:=aA c6;clear c6 t c7 R r f1 k b4 a3 a1;go_wp2_with (first
      |(go_at_call 117;refine (aB g2).mono ?_;rintro Y i0 ⟨j2,j3,rfl,c8,f2,J⟩;obtain ⟨f4,f5,rfl⟩:=aW c8;have j0:=aD (l.trans (J.below a2)) q;have a4:=J.own (by decide) b9;have d6:=aA (l.trans (J.below a2));have e4:=d6.o.size;have g1:=aA (λd s=>J.own (by decide) (g0.o d s));clear J)
      |(at_builtin;refine wpList_append_own _ rfl (.tmp 79) (.tmp 87) 41 rfl _ 55 f3 (.agg #[.bool false,.slice none 0 0]) 2 32 zo e5 e6 e7 e8 rfl (by decide) _ _ _ rfl (a4.alloc _) ⟨i0.heap.size,0,none⟩ 1 1 [.bool T,.slice f4 a6.length f5] rfl rfl ?c1 ?c2 ?c3 ?c4 ?c5 ?_)
      |go_in)
     case c1=>exact fS _ _ _ _ _ (by simp)
     case c2=>first|exact sD _ _ _ _|exact ⟨rfl,rfl⟩
     case c3=>unfold maxLen;omega
     case c4=>omega
     case c5=>exact zm e4 (zk _ _ none).size
     intro h9 w1 N B _;have E:=aJ0 (x:=(T,a6)) (λd s=>(g1.o d s).alloc _) (a4.alloc _) (f2.alloc _) ((eJ c8 a2).alloc _) N B;have f7:=aA ((d6.o.alloc e4 _).grown B (by simp;omega) λb Y=>(bL a4 b Y).1);have b1:=aA E;clear N B a4 f2 c8 E;go_wp2;go_roundw;case rel=>exact ⟨a+1,e++[((T,a6),.slice f4 a6.length f5)],by omega,by go_num,by rw [p.o,List.map_append,f9.o];rfl,b1.o.1,b1.o.2.1,by rw [p.o];exact b1.o.2.2,f7.o⟩
     case measure=>simp [intOf];omega
    ·have H:(P.map zx).take a=P.map zx:=zy (by simp;omega);rw [H] at k;rw [<-f8.o] at k;have f6:=aA (zn k (zn (eJ b9 I) (zn (λd s=>eJ (a1 d s) I) (z.o.trans (l.mono I)))));clear k a1 b9 a3 l H;go_wp2;go_ret;exact ⟨_,e,rfl,f6.o⟩
theorem sE(a:ByteArray)(d:Int)(w:World):Calls zv 92 #[.agg #[.string a,.int .i64 d]] w λb c=>b=.returned (.bool a.toList.isEmpty)/\aC w c:=by
 go_enter Tryz.func92,Tryz.ntmps92;go_wp2;go_ret;exact ⟨rfl,(Below.refl _ _).alloc (zw _) _⟩
theorem kY{b x:Value}{c:TypeId}(a:Below (w.alloc (.cells #[b,x] c)).heap.size (w.alloc (.cells #[b,x] c)) w1):w1.cell? ⟨w.heap.size,0,none⟩=some b/\w1.cell? ⟨w.heap.size,1,none⟩=some x/\aC w w1:=
 ⟨aD a (by simp),aD a (by simp),((Below.refl _ _).alloc (zw _) _).trans (a.mono (by simp))⟩
theorem aDu(g:Option Addr)(o:Nat)(a:List Lt)(w:World)(e:bD w g a)(r:a.length<=100000):Calls zv 57 #[.slice g a.length o] w λp u=>p=.returned (.int .i64 (aR a))/\aC w u:=by
 have B:aR a<=100000*5864062014805:=zm (aIu a λb l=>by obtain ⟨_,_,_,_,_,_,_,q⟩:=e.cell b l;exact q.few) (zl _ r);go_enter Tryz.func57,Tryz.ntmps57;go_wp2;go_loopw [3,8] (λt f wr=>∃b:Nat,b<=a.length/\f=.int .i64 b/\t=.int .i64 (aR (a.take b))/\aC w wr) (λ_ f _=>a.length-(intOf f).toNat);case atStart=>exact ⟨0,zu _,rfl,rfl,Below.refl _ _⟩
 case round=>
  obtain ⟨b,l,rfl,rfl,c⟩:=hrel;have C:=tQ a b;by_cases m:b<a.length
  ·obtain ⟨F,E,x,y,rfl,i,j,k⟩:=e.cell b m;have D:=k.few;have n:aG (aR (a.take (b+1))=aR (a.take b)+a[b].2.length):=by
    rw [zz m,nT];exact rfl
   have z:=aD c i;have A:=aD c j;have d:=aA c;clear e k i j c;go_wp2;go_roundw;case rel=>exact ⟨b+1,by omega,by go_num,by rw [n.o];go_num,d.o.alloc d.o.size _⟩
   case measure=>simp [intOf];omega
  ·have d:=aA c;clear c;go_wp2;go_ret;have s:a.take b=a:=zy (by omega);rw [s];exact ⟨rfl,d.o⟩
theorem aAx(b:Option Addr)(c:Nat)(a:List Lt)(w:World)(e:bD w b a)(g:a.length<=8):Calls zv 57 #[.slice b a.length c] w λd f=>d=.returned (.int .i64 (aR a))/\aC w f:=aDu b c a w e (by omega)
theorem yR(c:Option Addr)(e:Nat)(a:List Lt)(w:World)(b:bD w c a):Calls zv 39 #[.slice c a.length e] w λf j=>f=.returned (.bool (cD a))/\aC w j:=by
 have n:=b.few;by_cases d:a.length<=8
 ·have k:=aA (aAx c e a w b d);have m:=aA (show cD a=decide ((aR a:Int)<=60) by simp [cD,d];omega);clear b;go_enter Tryz.func39,Tryz.ntmps39;go_wp2_with (go_at_call 57;refine (aB k).mono ?_;rintro f j ⟨rfl,g⟩;have l:=aA g;clear g);go_ret;exact ⟨bM m.o.symm,l.o⟩
 ·have i:cD a=false:=by simp [cD,d]
  rw [i];clear i b;go_enter Tryz.func39,Tryz.ntmps39;go_wp2;go_ret;exact ⟨rfl,Below.refl _ _⟩
theorem aUf(o p:Option Addr)(x y:Nat)(b c:List (ByteArray×Int))(w:World)(j:dO w o b)(k:dO w p c):Calls zv 71 #[.slice o b.length x,.slice p c.length y] w λz D=>z=.returned (.bool (decide (b=c)))/\∃f,D=w.drewN f:=by
 have E:=j.few;have F:=k.few;by_cases e:b.length=c.length
 ·have C:((b.length:Int) != (c.length:Int))=false:=by rw [e];simp
  have n:aG (b.length=c.length):=e;clear e;go_enter Tryz.func71,Tryz.ntmps71;go_wp2;go_loopw [13] (λm wr=>∃a:Nat,a<=b.length/\m=.int .i64 a/\(∃f,wr=w.drewN f)/\b.take a=c.take a) (λm _=>b.length-(intOf m).toNat);case atStart=>exact ⟨0,zu _,rfl,⟨0,rfl⟩,rfl⟩
  case round=>
   obtain ⟨a,M,rfl,⟨f,rfl⟩,l⟩:=hrel;by_cases r:a<b.length
   ·obtain ⟨R,O,rfl,G,I⟩:=j.cell a r;have N:(a:Int)<(c.length:Int):=by have:=n.o;omega
    have s:a<c.length:=by omega
    obtain ⟨S,Q,rfl,H,J⟩:=k.cell a s;have q:=wC b[a] c[a];have L:=xX;have T:=wD b[a].1 c[a].1 b[a].2 c[a].2;clear j k;by_cases d:b[a]=c[a]
    ·rw [eI d] at q;have g:aG (b[a]=c[a]):=d;clear d;go_wp2;go_quiet (fail);go_wp2;go_roundw;case rel=>exact ⟨a+1,by omega,by go_num,(by first|exact jV _ _ _|exact ⟨_,rfl⟩),by rw [zz r,zz s,l,g.o]⟩
     case measure=>simp [intOf];omega
    ·rw [dE d] at q;have g:aG (¬b[a]=c[a]):=d;clear d;go_wp2;go_quiet (fail);go_wp2;go_ret;refine ⟨?_,(by first|exact jV _ _ _|exact ⟨_,rfl⟩)⟩;have:¬b=c:=λi=>g.o (by subst i;rfl)
     simp [this]
   ·go_wp2;go_ret;refine ⟨?_,⟨_,rfl⟩⟩;have A:b.take a=b:=zy (by omega);have B:c.take a=c:=zy (by have:=n.o;omega);rw [A,B] at l;simp [l]
 ·have C:((b.length:Int) != (c.length:Int))=true:=by rw [bne_iff_ne];omega
  have t:¬b=c:=λi=>e (by rw [i])
  have u:aG (¬b=c):=t;clear t e;go_enter Tryz.func71,Tryz.ntmps71;go_wp2;go_ret;exact ⟨by simp [u.o],0,rfl⟩
theorem aDv(a d:Bool)(e f:Option Addr)(k l:Nat)(b c:List Nd)(w:World)(o:dO w e b)(p:dO w f c):Calls zv 41 #[.agg #[.bool a,.slice e b.length k],.agg #[.bool d,.slice f c.length l]] w λn t=>n=.returned (.bool (nS (a,b) (d,c)))/\aC w t:=by
 have i:aC w ((w.alloc (.cells #[.bool a,.slice e b.length k] 55)).alloc (.cells #[.bool d,.slice f c.length l] 55)):=((Below.refl _ _).alloc (zw _) _).alloc (by simp) _;have r:=aA (aUf e f k l b c _ (o.below i (zw _)) (p.below i (zw _)));have m:=aA i;clear i o p;by_cases g:a=d
 ·subst g;have j:=aA (show nS (a,b) (a,c)=decide (b=c) by simp [nS]);go_enter Tryz.func41,Tryz.ntmps41;go_wp2_with (go_at_call 71;refine (aB r).mono ?_;rintro n w1 ⟨rfl,q⟩;have s:=aA (m.o.trans ((aL q).mono (by simp;omega)));clear q);go_ret;exact ⟨bM j.o.symm,s.o⟩
 ·have j:=aA (show nS (a,b) (d,c)=false by simp [nS,g]);have u:(a==d)=false:=by simp [g]
  clear g;go_enter Tryz.func41,Tryz.ntmps41;go_wp2;go_ret;exact ⟨bM j.o.symm,m.o⟩
theorem aUg(d j:Bool)(c f:Option Addr)(g k i:Nat)(b e:List Nd)(w:World)(m:dO w c b)(n:dO w f e)(s:w.cell? ⟨i,0,none⟩=some (.bool j))(t:w.cell? ⟨i,1,none⟩=some (.slice f e.length k)):Calls zv 129 #[.agg #[.bool d,.slice c b.length g],.pointer (some ⟨i,0,none⟩)] w λl u=>l=.returned (.bool (nS (d,b) (j,e)))/\aC w u:=by
 have a:aC w (w.alloc (.cells #[.bool d,.slice c b.length g] 55)):=(Below.refl _ _).alloc (zw _) _;have p:=aA (aDv d j c f g k b e _ (m.below a (zw _)) (n.below a (zw _)));have x:=aD a s;have y:=aD a t;have q:=aA a;clear a m n;go_enter Tryz.func129,Tryz.ntmps129;go_wp2_with (go_at_call 41;refine (aB p).mono ?_;rintro l w1 ⟨rfl,o⟩;have r:=aA (q.o.trans (o.mono (by simp)));clear o);go_ret;exact ⟨rfl,r.o⟩
theorem lJ.below{b:List Nd}(d:lJ w v b){B:Nat}(k:Below B w w1)(g:w.heap.size<=B):lJ w1 v b:=by obtain ⟨a,c,e,f⟩:=d;exact ⟨a,c,e,f.below k g⟩
theorem bCr(P:List (Lt×Value))(a:Lt):fI ((P.map zx).take 0) a=false:=rfl
theorem aJ2(P:List (Lt×Value))(b:Lt)(a:Nat)(c:a<P.length):fI ((P.map zx).take (a+1)) b=(fI ((P.map zx).take a) b || nS P[a].1 b):=by rw [zz (by simpa using c),aIv,aIt];simp
theorem aJ3(P:List (Lt×Value))(b:Lt)(c:Nat)(a:fI ((P.map zx).take c) b=true):fI (P.map zx) b=true:=by rw [aAv] at a ⊢;exact List.mem_of_mem_take a
theorem aUh(z o:Option Addr)(S A j:Nat)(P:List (Lt×Value))(d:Bool)(c:List Nd)(w:World)(a1:P.length<=4398046511104)
  (E:∀a (a0:a<P.length),∃k,z=some ⟨k,0,none⟩/\w.cell? ⟨k,a*2,none⟩=some (.bool P[a].1.1)/\w.cell? ⟨k,a*2+1,none⟩=some P[a].2)
  (C:∀J∈P,lJ w J.2 J.1.2) (B:dO w o c) (T:w.cell? ⟨j,0,none⟩=some (.bool d)) (U:w.cell? ⟨j,1,none⟩=some (.slice o c.length A)):Calls zv 134 #[.slice z P.length S,.func (Fn.func 129) #[] #[.pointer (some ⟨j,0,none⟩)]] w λp X=>∃L:Int,p=.returned (.int .i64 L)/\decide (0<=L)=fI (P.map zx) (d,c)/\aC w X:=by
 have R:=aA E;have Q:=aA C;have O:=aA B;clear E C B;go_enter Tryz.func134,Tryz.ntmps134;go_wp2;go_loopw [8] (λt wr=>∃a:Nat,a<=P.length/\t=.int .i64 a/\fI ((P.map zx).take a) (d,c)=false/\aC w wr) (λt _=>P.length-(intOf t).toNat);case atStart=>exact ⟨0,zu _,rfl,rfl,Below.refl _ _⟩
 case round=>
  obtain ⟨a,a2,rfl,H,b⟩:=hrel;have n:=aA H;clear H;by_cases G:a<P.length
  ·obtain ⟨k,rfl,q,i⟩:=R.o a G;obtain ⟨V,W,I,s⟩:=Q.o P[a] (zr _);rw [I] at i;have l:=aJ2 P (d,c) a G;rw [n.o,Bool.false_or] at l;have r:=aJ3 P (d,c) (a+1);rw [l] at r;generalize P[a].1=x at *;obtain ⟨M,N⟩:=x;simp only at q i s;have Y:=aD b q;have Z:=aD b i;have f:=aA (aUg M d V o W A j N c wr (s.below b (zw _)) (O.o.below b (zw _)) (aD b T) (aD b U));have u:=aA l;have y:=aA r;have g:=aA b;have D:=b.size;clear l r b I s q i;cases hl:nS (M,N) (d,c)
   ·rw [hl] at f u;clear hl;go_wp2_with (go_at_call 129;refine (aB f).mono ?_;rintro p w1 ⟨rfl,e⟩;have m:=aA (g.o.trans (e.mono D));clear e);go_roundw;case rel=>exact ⟨a+1,by omega,by go_num,u.o,m.o⟩
    case measure=>simp [intOf];omega
   ·rw [hl] at f y;clear hl;go_wp2_with (go_at_call 129;refine (aB f).mono ?_;rintro p w1 ⟨rfl,e⟩;have m:=aA (g.o.trans (e.mono D));clear e);go_ret;exact ⟨_,rfl,by rw [y.o (by first|rfl|trivial)];simp,m.o⟩
  ·have F:(P.map zx).take a=P.map zx:=zy (by simp;omega);rw [F] at n;have g:=aA b;clear F b;go_wp2;go_ret;exact ⟨_,rfl,by rw [n.o];rfl,g.o⟩
theorem aUi(d e:Option Addr)(j i b:Nat)(P:List (Lt×Value))(g:Bool)(c:List Nd)(w:World)(y:P.length<=4398046511104)
  (q:∀a (A:a<P.length),∃f,d=some ⟨f,0,none⟩/\w.cell? ⟨f,a*2,none⟩=some (.bool P[a].1.1)/\w.cell? ⟨f,a*2+1,none⟩=some P[a].2)
  (o:∀s∈P,lJ w s.2 s.1.2) (n:dO w e c) (l:w.cell? ⟨b,0,none⟩=some (.bool g)) (m:w.cell? ⟨b,1,none⟩=some (.slice e c.length i)):Calls zv 102 #[.slice d P.length j,.func (Fn.func 129) #[] #[.pointer (some ⟨b,0,none⟩)]] w λk z=>k=.returned (.bool (fI (P.map zx) (g,c)))/\aC w z:=by
 have t:=aA (aUh d e j i b P g c w y q o n l m);clear q o n l m;go_enter Tryz.func102,Tryz.ntmps102;go_wp2_with (go_at_call 134;refine (aB t).mono ?_;rintro k w1 ⟨B,rfl,r,p⟩;have x:=aA r;have u:=aA p;clear r p);go_ret;exact ⟨bM x.o,u.o⟩
theorem aJ4(a:Option Addr)(Y:Nat)(c:List Lt)(w:World)(y:bD w a c):Calls zv 94 #[.slice a c.length Y] w λu w'=>∃v P,u=.returned v/\P.map zx=bY c/\(∀j∈P,lJ w j.2 j.1.2)/\w'.ownsRow w.heap.size 55 2 v P.length (bS P)/\aC w w':=by
 obtain ⟨a8,a2,a3,a4,a5⟩:=info_parts sC;have b6:=y.few;go_enter Tryz.func94,Tryz.ntmps94;go_wp2;go_loopw [3,9] (λb0 D wr=>∃(b:Nat) (P:List (Lt×Value)),b<=c.length/\D=.int .i64 b/\P.map zx=bY (c.take b)/\(∀j∈P,lJ w j.2 j.1.2)/\wr.ownsRow w.heap.size 55 2 b0 P.length (bS P)/\aC w wr)
  (λ_ D _=>c.length-(intOf D).toNat)
 case atStart=>exact ⟨0,[],zu _,rfl,rfl,λj B=>by simp at B,zs _ _ _ _,Below.refl _ _⟩
 case round=>
  obtain ⟨b,P,b7,rfl,l,m,n,k⟩:=hrel;have b5:P.length<=b:=by
   have J:=(oY (c.take b)).1;have M:P.length=(bY (c.take b)).length:=by rw [<-l];simp
   have N:(c.take b).length<=b:=zp _ _;omega
  by_cases R:b<c.length
  ·obtain ⟨b4,b8,f,g,rfl,H,I,r⟩:=y.cell b R;have Z:=aD k H;have a0:=aD k I;have C:=aIw c b R;rw [<-l] at C;generalize c[b]=x at *;obtain ⟨e,d⟩:=x;simp only at Z a0 r;obtain ⟨b1,b2,rfl,T⟩:=sB n;have a6:=k.size;have s:aC w (wr.alloc (.cells #[.bool e,.slice f d.length g] 55)):=k.alloc a6 _;have z:aC wr (wr.alloc (.cells #[.bool e,.slice f d.length g] 55)):=(Below.refl _ _).alloc (zw _) _;have o:=aA (aUi b1 f b2 g wr.heap.size P e d (wr.alloc (.cells #[.bool e,.slice f d.length g] 55)) (by omega)
    (λa9 a7=>by obtain ⟨a1,J,M,N⟩:=T a9 a7;exact ⟨a1,J,aD z M,aD z N⟩)
    (λj B=>(m j B).below s (zw _)) (r.below s (zw _)) (by simp) (by simp))
   have q:=aA C;have E:=aA m;have V:=aA r;have F:=aA s;have W:=aA n;clear H I y C l m T k r s z;cases hm:fI (P.map zx) (e,d)
   ·have t:aG (bY (c.take (b+1))=P.map zx++[(e,d)]):=aA (by rw [q.o];simp [eO,hm]);rw [hm] at o;clear hm q;go_wp2_with (first
     |(go_at_call 102;refine (aB o).mono ?_;rintro u w1 ⟨rfl,i⟩;obtain ⟨b9,c0,b3⟩:=kY i;have A:=bB (n.alloc (.cells #[.bool e,.slice f d.length g] 55)) i (zw _);have p:=aA (aV F.o i);have L:=p.o.size;clear i b3)
     |(at_builtin;refine wpList_append_own _ rfl _ _ 41 rfl w.heap.size 55 a8 (.agg #[.bool false,.slice none 0 0]) 2 32 zo a2 a3 a4 a5 rfl (by decide) _ _ _ rfl (A.alloc _) ⟨w1.heap.size,0,none⟩ 1 1 [.bool e,.slice f d.length g] rfl rfl ?c1 ?c2 ?c3 ?c4 ?c5 ?_)
     |go_in)
    case c1=>exact fS _ _ _ _ _ (by simp)
    case c2=>first|exact sD _ _ _ _|exact ⟨rfl,rfl⟩
    case c3=>unfold maxLen;omega
    case c4=>omega
    case c5=>exact zm L (zk _ _ none).size
    intro c6 c7 S O _;have G:=aJ1 (x:=(e,d)) (A.alloc _) (p.o.alloc L _) S O;clear S O A;go_wp2;go_roundw;case rel=>exact ⟨b+1,P++[((e,d),.slice f d.length g)],by omega,by go_num,by rw [t.o];simp,aIz E.o ⟨f,g,rfl,V.o⟩,G.1,G.2⟩
    case measure=>simp [intOf];omega
   ·have t:aG (bY (c.take (b+1))=P.map zx):=aA (by rw [q.o];simp [eO,hm]);rw [hm] at o;clear hm q;go_wp2_with (first
     |(go_at_call 102;refine (aB o).mono ?_;rintro u w1 ⟨rfl,i⟩;have X:=aA (bB (W.o.alloc (.cells #[.bool e,.slice f d.length g] 55)) i (zw _));have p:=aA (aV F.o i);clear i)
     |go_in)
    go_roundw;case rel=>exact ⟨b+1,P,by omega,by go_num,t.o.symm,E.o,X.o,p.o⟩
    case measure=>simp [intOf];omega
  ·have Q:c.take b=c:=zy (by omega);rw [Q] at l;have U:=aA (zn l (zn m (zn n k)));clear Q l m n k;go_wp2;go_ret;exact ⟨_,P,rfl,U.o⟩
