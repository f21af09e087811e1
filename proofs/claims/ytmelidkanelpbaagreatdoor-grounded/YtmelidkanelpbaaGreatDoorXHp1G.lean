import Derived.Test.YtmelidkanelpbaaGreatDoorOOrderG
import Derived.Deep.RegionLaw
open Array renaming getElem?_eq_some_iff→zy,getElem?_eq_getElem→zt,getElem_modify_self→zs,size_modify→zo
open List renaming getElem?_eq_getElem→zr,getElem?_eq_some_iff→zp,getElem_mem→zk
open Nat renaming le_refl→zz,zero_add→zm
open Prod renaming fst→zv
namespace Go.Proofs.YtmelidkanelpbaaGreatDoor
open _root_.Go.Proofs.Tryz renaming prog→zu
open Value renaming ownBlock→zq
open World renaming cell?→zx,alloc_heap_new→zw,frozen?→zn,size_alloc→zl
open Go.RowKit Go.Shelf
set_option maxHeartbeats 8000000
set_option maxRecDepth 100000
variable{x:Cd}{L:List Cd}{B b cap g hp q:Nat}{v:Value}{w w':World}
def iJ:Nat->List Cd->Nat->List Cd
 |0,L,_=>L
 |f+1,L,k=>if h:0<k/\k<L.length then (if lG (L[k]'h.2) (L[(k-1) / 2]'(by omega)) then iJ f (nW L k ((k-1) / 2) h.2 (by omega)) ((k-1) / 2) else L) else L
theorem aFt:∀(f:Nat) (L:List Cd) (a:Nat),(iJ f L a).length=L.length
 |0,_,_=>rfl
 |f+1,L,a=>by
  unfold iJ;split
  ·split
   ·rw [aFt f];exact yK _ _
   ·rfl
  ·rfl
def aNn(w:World)(g a:Nat)(x:Cd):Prop:=w.cell? ⟨g,a*8,none⟩=some (.int .i64 x.r)/\w.cell? ⟨g,a*8+1,none⟩=some (.int .i64 x.a)/\w.cell? ⟨g,a*8+2,none⟩=some (.int .i64 x.b)/\w.cell? ⟨g,a*8+3,none⟩=some (.int .i64 x.i)/\
 w.cell? ⟨g,a*8+4,none⟩=some (.int .i64 x.j)/\w.cell? ⟨g,a*8+5,none⟩=some (.slice x.ad x.ln x.cp)/\w.cell? ⟨g,a*8+6,none⟩=some (.int .i64 x.wt)/\w.cell? ⟨g,a*8+7,none⟩=some (.int .i64 x.nm)
theorem cG.at(a:cG B w hp v L){k:Nat}(c:k<L.length):∃g cap,v=.slice (some ⟨g,0,none⟩) L.length cap/\aNn w g k L[k]:=a.cells c
theorem bCg{f:Nat}{a:Nat}(e:0<a)(d:a<L.length):∃(c:Nat) (i:c<L.length),((a:Int)-1).tdiv 2=(c:Int)/\c<a/\iJ (f+1) L a=if lG L[a] L[c] then iJ f (nW L a c d i) c else L:=by
 refine ⟨(a-1) / 2,by omega,?_,by omega,?_⟩
 ·rw [show ((a:Int)-1)=((a-1:Nat):Int) by omega];rfl
 ·conv=>lhs;unfold iJ
  rw [dif_pos ⟨e,d⟩]
def aBw(hp g d cap q c:Nat)(x a:Cd)(w':World):Prop:=w'.cell? ⟨hp,0,none⟩=some (.slice (some ⟨g,0,none⟩) d cap)/\w'.cell? ⟨hp,1,none⟩=some (.func (.func 29) #[] #[])/\w'.cell? ⟨g,q*8,none⟩=some (.int .i64 x.r)/\w'.cell? ⟨g,q*8+1,none⟩=some (.int .i64 x.a)/\w'.cell? ⟨g,q*8+2,none⟩=some (.int .i64 x.b)/\w'.cell? ⟨g,q*8+3,none⟩=some (.int .i64 x.i)/\w'.cell? ⟨g,q*8+4,none⟩=some (.int .i64 x.j)/\w'.cell? ⟨g,q*8+5,none⟩=some (.slice x.ad x.ln x.cp)/\w'.cell? ⟨g,q*8+6,none⟩=some (.int .i64 x.wt)/\w'.cell? ⟨g,q*8+7,none⟩=some (.int .i64 x.nm)/\w'.cell? ⟨g,c*8,none⟩=some (.int .i64 a.r)/\w'.cell? ⟨g,c*8+1,none⟩=some (.int .i64 a.a)/\w'.cell? ⟨g,c*8+2,none⟩=some (.int .i64 a.b)/\w'.cell? ⟨g,c*8+3,none⟩=some (.int .i64 a.i)/\w'.cell? ⟨g,c*8+4,none⟩=some (.int .i64 a.j)/\w'.cell? ⟨g,c*8+5,none⟩=some (.slice a.ad a.ln a.cp)/\w'.cell? ⟨g,c*8+6,none⟩=some (.int .i64 a.wt)/\w'.cell? ⟨g,c*8+7,none⟩=some (.int .i64 a.nm)
theorem aBw.below{n c:Nat}{y:Cd}(d:aBw hp g n cap q c x y w)(a:aB w w'):aBw hp g n cap q c x y w':=by obtain ⟨e,f,s,t,u,z,A,C,D,E,i,j,k,l,m,o,p,r⟩:=d;exact ⟨aC a e,aC a f,aC a s,aC a t,aC a u,aC a z,aC a A,aC a C,aC a D,aC a E,aC a i,aC a j,aC a k,aC a l,aC a m,aC a o,aC a p,aC a r⟩
theorem cG.two{c:Nat}(a:cG B w hp (.slice (some ⟨g,0,none⟩) L.length cap) L)(f:q<L.length)(i:c<L.length):aBw hp g L.length cap q c L[q] L[c] w:=by obtain ⟨G,E,d,j,k,l,m,n,o,p,r⟩:=a.cells f;obtain ⟨H,F,e,s,t,u,y,z,A,C,D⟩:=a.cells i;cases d;cases e;exact ⟨a.c0.1,a.c0.2,j,k,l,m,n,o,p,r,s,t,u,y,z,A,C,D⟩
theorem bCh(B hp:Nat)(v:Value)(L:List Cd)(f:Nat)(w:World)(G:cG B w hp v L)(a1:f<L.length)(a9:L.length<=1000000000):Calls zu 72 #[.pointer (some ⟨hp,0,none⟩),.int .i64 f] w λi w'=>(∃Q,i=.returned Q)/\cG B w' hp v (iJ f L f)/\w.grownBy w' v.ownBlock:=by
 have S:=aA G;clear G;go_enter Tryz.func72,Tryz.ntmps72;go_wp2;go_loopw [1] (λz wr=>∃(q e:Nat) (a:List Cd),z=.int .i64 q/\q<a.length/\q<=e/\a.length=L.length/\cG B wr hp v a/\w.grownBy wr v.ownBlock/\iJ e a q=iJ f L f) (λz _=>(intOf z).toNat);case atStart=>exact ⟨f,f,L,rfl,a1,zz _,rfl,S.o,⟨rfl,rfl,rfl,zz _,λ_ _ _=>rfl⟩,rfl⟩
 case round=>
  obtain ⟨q,e,a,rfl,k,b0,J,j,m,d⟩:=hrel;by_cases Z:0<q
  ·obtain ⟨e,rfl⟩ : ∃Y,e=Y+1:=⟨e-1,by omega⟩;obtain ⟨c,n,a0,b5,P⟩:=bCg (f:=e) Z k;rw [P] at d;obtain ⟨g,cap,rfl,_⟩:=j.at k;have N:=j.two k n;have R:=aA (λ(l:World) (a7:cG B l hp (.slice (some ⟨g,0,none⟩) a.length cap) a)=>aK9 B hp _ a q c l a7 k n (by omega));generalize hM':nW a q c k n=M' at *;have M:M'.length=a.length:=by rw [<-hM'];exact yK _ _
   have A:=aA (λ(l:World) (a6:∃s,l=wr.drewN s)=>(aK8 a[q] a[c] l).mono (R':=λi o=>i=.returned (.bool (lG a[q] a[c]))/\aB wr o) (λi o d=>by
    obtain ⟨s,rfl⟩:=a6;exact ⟨d.1,(aR ⟨s,rfl⟩).trans d.2⟩))
   generalize a[q]=x at *;generalize a[c]=y at *;unfold Cd.agg at A;have X:=aA N;obtain ⟨d6,d7,e6,e7,e8,e9,f0,f1,f2,f3,d8,d9,e0,e1,e2,e3,e4,e5⟩:=N;have p:=aA j;have r:=aA m;have D:=aA d;have W:=aA (show a.length=L.length from J);have b2:(0:Int)<(q:Int):=by omega
   have b3:(0:Int)<=(q:Int):=by omega
   have b6:(0:Int)<=(c:Int):=by omega
   have b1:(q:Int)<(a.length:Int):=by omega
   have b4:(c:Int)<(a.length:Int):=by omega
   have a3:wrap64 ((q:Int)-1)=(q:Int)-1:=by unfold wrap64;omega
   have a5:wrap64 (c:Int)=(c:Int):=by unfold wrap64;omega
   have a4:wrap64 (((q:Int)-1).tdiv 2)=(c:Int):=by rw [a0];unfold wrap64;omega
   clear d P j m hM' J;generalize hml:a.length=ml at *;have V:=aA hml;clear hml;go_wp2;go_region_held3 (λw'=>w'.cell? ⟨hp,0,none⟩=some (.slice (some ⟨g,0,none⟩) ml cap)/\w'.cell? ⟨hp,1,none⟩=some (.func (.func 29) #[] #[])/\w'.cell? ⟨g,q*8,none⟩=some (.int .i64 x.r)/\w'.cell? ⟨g,q*8+1,none⟩=some (.int .i64 x.a)/\w'.cell? ⟨g,q*8+2,none⟩=some (.int .i64 x.b)/\w'.cell? ⟨g,q*8+3,none⟩=some (.int .i64 x.i)/\w'.cell? ⟨g,q*8+4,none⟩=some (.int .i64 x.j)/\w'.cell? ⟨g,q*8+5,none⟩=some (.slice x.ad x.ln x.cp)/\w'.cell? ⟨g,q*8+6,none⟩=some (.int .i64 x.wt)/\w'.cell? ⟨g,q*8+7,none⟩=some (.int .i64 x.nm)/\w'.cell? ⟨g,c*8,none⟩=some (.int .i64 y.r)/\w'.cell? ⟨g,c*8+1,none⟩=some (.int .i64 y.a)/\w'.cell? ⟨g,c*8+2,none⟩=some (.int .i64 y.b)/\w'.cell? ⟨g,c*8+3,none⟩=some (.int .i64 y.i)/\w'.cell? ⟨g,c*8+4,none⟩=some (.int .i64 y.j)/\w'.cell? ⟨g,c*8+5,none⟩=some (.slice y.ad y.ln y.cp)/\w'.cell? ⟨g,c*8+6,none⟩=some (.int .i64 y.wt)/\w'.cell? ⟨g,c*8+7,none⟩=some (.int .i64 y.nm)) (go_keep)
    (first
     |(go_at_call 29;refine (aD A _ (by first|exact ⟨0,rfl⟩|exact ⟨1,rfl⟩|exact ⟨_,rfl⟩)).mono ?_;rintro i o ⟨rfl,t⟩;obtain ⟨b7,b8,c7,c8,c9,d0,d1,d2,d3,d4,b9,c0,c1,c2,c3,c4,c5,c6⟩:=X.o.below t;have C:=aA t;clear t)
     |go_in)
   have I:=p.o.below C.o;have E:=aA I;have F:=aA (lH r.o (gS C.o));clear I a3 a4 a5;go_wp2_with (first
    |(go_at_call 95;refine (aD R o E.o).mono ?_;rintro i d5 ⟨⟨Q,rfl⟩,H,O⟩;have T:=aA H;have U:=aA (lH F.o O);clear H O)
    |go_in)
   ·have u:lG x y=false:=by simpa using ‹(!lG x y)=true›
    refine bodyPost_ret (results_none rfl _ _ _) rfl ?_;have d:=D.o;rw [aH (by simp [u])] at d;rw [<-d];exact ⟨⟨_,rfl⟩,by rw [V.o];exact E.o,F.o⟩
   ·have u:lG x y=true:=by simpa using ‹(!lG x y)=false›
    go_roundw;case rel=>
     have d:=D.o;rw [aI u] at d;exact ⟨c,e,M',rfl,by rw [M];exact n,by omega,by rw [M];exact W.o,T.o,U.o,d⟩
    case measure=>simp [intOf];omega
  ·have a2:q=0:=by omega
   subst a2;have a8:iJ e a 0=a:=by
    cases e with
    |zero=>rfl
    |succ e=>unfold iJ;rw [dif_neg (by omega)]
   rw [a8] at d;have p:=aA j;have r:=aA m;clear j m;go_wp2;go_end0;rw [<-d];exact ⟨⟨_,rfl⟩,p.o,r.o⟩
def eQ(L:List Cd)(q:Nat):Nat->Nat
 |0=>q
 |t+1=>if h:2*q+1+t<L.length/\eQ L q t<L.length then (if lG (L[2*q+1+t]'h.1) (L[eQ L q t]'h.2) then 2*q+1+t else eQ L q t) else eQ L q t
theorem aFu(L:List Cd)(q:Nat):∀t,eQ L q t=q\/(q<eQ L q t/\eQ L q t<2*q+1+t/\eQ L q t<L.length)
 |0=>Or.inl rfl
 |t+1=>by
  unfold eQ;split
  ·split
   ·right;omega
   ·rcases aFu L q t with h|h
    ·exact Or.inl h
    ·right;omega
  ·rcases aFu L q t with h|h
   ·exact Or.inl h
   ·right;omega
theorem aNo{t:Nat}(a:L.length<=2*q+1+t):eQ L q (t+1)=eQ L q t:=by
 conv=>lhs;unfold eQ
 rw [dif_neg (by omega)]
theorem bCi{a:Nat}(c:2*q+1+a<L.length)(d:eQ L q a<L.length):eQ L q (a+1)=if lG L[2*q+1+a] L[eQ L q a] then 2*q+1+a else eQ L q a:=by
 conv=>lhs;unfold eQ
 rw [dif_pos ⟨c,d⟩]
def kX:Nat->List Cd->Nat->List Cd
 |0,L,_=>L
 |f+1,L,q=>if h:eQ L q 2≠q/\q<L.length/\eQ L q 2<L.length then kX f (nW L q (eQ L q 2) h.2.1 h.2.2) (eQ L q 2) else L
theorem aNp:∀(f:Nat) (L:List Cd) (q:Nat),(kX f L q).length=L.length
 |0,_,_=>rfl
 |f+1,L,q=>by
  unfold kX;split
  ·rw [aNp f];exact yK _ _
  ·rfl
theorem aNq{f:Nat}(a:eQ L q 2=q):kX f L q=L:=by
 cases f with
 |zero=>rfl
 |succ f=>unfold kX;rw [dif_neg (by omega)]
theorem aNr{f:Nat}(d:eQ L q 2=b)(e:b≠q)(a:q<L.length)(c:b<L.length):kX (f+1) L q=kX f (nW L q b a c) b:=by
 subst d;conv=>lhs;unfold kX
 rw [dif_pos ⟨e,a,c⟩]
theorem bCj(B hp:Nat)(v:Value)(L:List Cd)(w:World)(h:cG B w hp v L)(d4:L.length<=1000000000):Calls zu 73 #[.pointer (some ⟨hp,0,none⟩),.int .i64 0] w λf w'=>(∃Z,f=.returned Z)/\cG B w' hp v (kX L.length L 0)/\w.grownBy w' v.ownBlock:=by
 obtain ⟨I,A,rfl⟩:=aZ h.row;have b7:=aA h;clear h;go_enter Tryz.func73,Tryz.ntmps73;go_wp2;go_loopw [1] (λY wr=>∃(q i:Nat) (a:List Cd),Y=.int .i64 q/\(q<a.length\/q=0)/\a.length<=q+i/\a.length=L.length/\cG B wr hp (.slice I L.length A) a/\w.grownBy wr (Value.slice I L.length A).ownBlock/\kX i a q=kX L.length L 0) (λY _=>L.length-(intOf Y).toNat);case atStart=>exact ⟨0,L.length,L,rfl,Or.inr rfl,by omega,rfl,b7.o,⟨rfl,rfl,rfl,zz _,λ_ _ _=>rfl⟩,rfl⟩
 case round=>
  obtain ⟨q,i,a,rfl,e3,e2,a9,z,F,D⟩:=hrel;have e4:q<=L.length:=by omega
  have m:=aA z;have n:=aA F;have M:=aA D;have O:=aA a9;clear D z F a9;go_wp2;go_loopw [4,5] (λb c wr=>∃d:Nat,d<=2/\b=.int .i64 (eQ a q d)/\c=.int .i64 (2*q+1+d:Nat)/\cG B wr hp (.slice I L.length A) a/\w.grownBy wr (Value.slice I L.length A).ownBlock) (λ_ c _=>2*q+3-(intOf c).toNat);case atStart=>exact ⟨0,by omega,rfl,by simp,m.o,n.o⟩
  case round=>
   obtain ⟨d,c7,rfl,rfl,z,F⟩:=hrel;have X:=aFu a q d;have d2:=z.c0.1;have m:=aA z;have n:=aA F;clear z F;by_cases b2:d<=1/\2*q+1+d<L.length
   ·obtain ⟨d7,c4⟩:=b2;have Q:=O.o;have l:eQ a q d<a.length:=by omega
    have S:2*q+1+d<a.length:=by omega
    have b3:=bCi S l;obtain ⟨c,t⟩ : ∃c,2*q+1+d=c:=⟨_,rfl⟩;obtain ⟨b,r⟩ : ∃b,eQ a q d=b:=⟨_,rfl⟩;have a4:aM (∃x e,x=a[2*q+1+d]/\e=a[eQ a q d]/\eQ a q (d+1)=if lG x e then c else b):=aA ⟨_,_,rfl,rfl,by rw [<-t,<-r];exact b3⟩;obtain ⟨x,e,b4,b5,b1⟩:=a4.o;have P:=m.o;rw [<-Q] at P;obtain ⟨g,cap,c0,c2⟩:=P.at S;clear c2;cases c0;have R:=P.two S l;rw [<-b4,<-b5,Q] at R;simp only [t,r] at R ⊢;have a1:=aA (λ(b6:World) (c8:∃f,b6=wr.drewN f)=>(aK8 x e b6).mono (R':=λf a0=>f=.returned (.bool (lG x e))/\aB wr a0) (λf a0 D=>by
     obtain ⟨b9,rfl⟩:=c8;exact ⟨D.1,(aR ⟨b9,rfl⟩).trans D.2⟩))
    unfold Cd.agg at a1;have b8:=aA R;obtain ⟨g3,g4,h3,h4,h5,h6,h7,h8,h9,i0,g5,g6,g7,g8,g9,h0,h1,h2⟩:=R;have d0:=aA l;have a3:=aA b1;have e0:(c:Int)<=2*(q:Int)+2:=by omega
    have e1:(0:Int)<=(c:Int):=by omega
    have d6:(0:Int)<=(b:Int):=by omega
    have d9:(c:Int)<(L.length:Int):=by omega
    have d5:(b:Int)<(L.length:Int):=by omega
    have d8:c<=2*q+2:=by omega
    have a5:=aA (show c=2*q+1+d from t.symm);clear b3 b4 b5 P X Q t r b1 a4 l S c4;generalize hml:L.length=ml at *;have d1:=aA hml;clear hml;go_wp2;go_region_held3 (λw'=>w'.cell? ⟨hp,0,none⟩=some (.slice (some ⟨g,0,none⟩) ml A)/\w'.cell? ⟨hp,1,none⟩=some (.func (.func 29) #[] #[])/\w'.cell? ⟨g,c*8,none⟩=some (.int .i64 x.r)/\w'.cell? ⟨g,c*8+1,none⟩=some (.int .i64 x.a)/\w'.cell? ⟨g,c*8+2,none⟩=some (.int .i64 x.b)/\w'.cell? ⟨g,c*8+3,none⟩=some (.int .i64 x.i)/\w'.cell? ⟨g,c*8+4,none⟩=some (.int .i64 x.j)/\w'.cell? ⟨g,c*8+5,none⟩=some (.slice x.ad x.ln x.cp)/\w'.cell? ⟨g,c*8+6,none⟩=some (.int .i64 x.wt)/\w'.cell? ⟨g,c*8+7,none⟩=some (.int .i64 x.nm)/\w'.cell? ⟨g,b*8,none⟩=some (.int .i64 e.r)/\w'.cell? ⟨g,b*8+1,none⟩=some (.int .i64 e.a)/\w'.cell? ⟨g,b*8+2,none⟩=some (.int .i64 e.b)/\w'.cell? ⟨g,b*8+3,none⟩=some (.int .i64 e.i)/\w'.cell? ⟨g,b*8+4,none⟩=some (.int .i64 e.j)/\w'.cell? ⟨g,b*8+5,none⟩=some (.slice e.ad e.ln e.cp)/\w'.cell? ⟨g,b*8+6,none⟩=some (.int .i64 e.wt)/\w'.cell? ⟨g,b*8+7,none⟩=some (.int .i64 e.nm)) (go_keep)
     (first
      |(go_at_call 29;refine (aD a1 _ (by first|exact ⟨0,rfl⟩|exact ⟨1,rfl⟩|exact ⟨_,rfl⟩)).mono ?_;rintro f a0 ⟨rfl,l⟩;obtain ⟨e5,e6,f5,f6,f7,f8,f9,g0,g1,g2,e7,e8,e9,f0,f1,f2,f3,f4⟩:=b8.o.below l;have a2:=aA l;clear l)
      |go_in)
    have u:=aA (m.o.below a2.o);have y:=aA (lH n.o (gS a2.o));go_wp2
    ·have W:lG x e=true:=by assumption
     go_roundw;case rel=>
      have C:=a3.o;rw [aI W] at C;have:=a5.o;exact ⟨d+1,by omega,by rw [C],by have:(c:Int)+1=((2*q+1+(d+1):Nat):Int):=(by omega);rw [<-this],u.o,y.o⟩
     case measure=>simp [intOf];omega
    ·have W:lG x e=false:=by assumption
     go_roundw;case rel=>
      have C:=a3.o;rw [aH (by simp [W])] at C;have:=a5.o;exact ⟨d+1,by omega,by rw [C],by have:(c:Int)+1=((2*q+1+(d+1):Nat):Int):=(by omega);rw [<-this],u.o,y.o⟩
     case measure=>simp [intOf];omega
   ·have Q:=O.o;have b0:eQ a q 2=eQ a q d:=by
     rcases Nat.lt_or_ge d 2 with h|h
     ·have p:a.length<=2*q+1+d:=by omega
      have a6:=aNo p;rcases (show d=0\/d=1 by omega) with rfl|rfl
      ·rw [aNo (t:=1) (by omega),a6]
      ·exact a6
     ·rw [show d=2 by omega]
    rw [<-b0] at X ⊢;obtain ⟨b,r⟩ : ∃b,eQ a q 2=b:=⟨_,rfl⟩;rw [r] at X ⊢;have c6:¬(2*q+1+d<=2*q+2)\/¬(2*q+1+d<L.length):=by omega
    obtain ⟨c,t⟩ : ∃c,2*q+1+d=c:=⟨_,rfl⟩;rw [t] at c6 ⊢;have N:=aA r;clear r b0 b2 c7 t;have J:=aA (λ(a7:q<a.length) (a8:b<a.length) (c5:q≠b)=>aK9 B hp (.slice I L.length A) a q b wr m.o a7 a8 c5);by_cases a7:c<=2*q+2
    ·have a8:¬c<L.length:=by omega
     have c1:(c:Int)<=2*(q:Int)+2:=by omega
     have d3:¬(c:Int)<(L.length:Int):=by omega
     by_cases s:b=q
     ·subst s;go_wp2;refine bodyPost_ret (results_none rfl _ _ _) rfl ?_;rw [<-M.o,aNq N.o];exact ⟨⟨_,rfl⟩,m.o,n.o⟩
     ·have k:q<a.length:=by omega
      have j:b<a.length:=by omega
      have c3:¬(b:Int)=(q:Int):=by omega
      obtain ⟨i,rfl⟩ : ∃V,i=V+1:=⟨i-1,by omega⟩;have E:=aNr (f:=i) N.o s k j;have H:=yK k j;have T:=aA (aD J k j (λf=>s f.symm));generalize nW a q b k j=M' at *;have U:=aA E;have o:=aA H;clear E H J;go_wp2_with (first
       |(go_at_call 95;refine (aD T).mono ?_;rintro f c9 ⟨⟨Z,rfl⟩,p,G⟩;have u:=aA p;have y:=aA (lH n.o G);clear p G)
       |go_in)
      go_roundw;case rel=>exact ⟨b,i,M',rfl,Or.inl (by rw [o.o];exact j),by rw [o.o];omega,by rw [o.o];exact O.o,u.o,y.o,by rw [<-M.o,U.o]⟩
      case measure=>simp [intOf];omega
    ·have c1:¬(c:Int)<=2*(q:Int)+2:=by omega
     by_cases s:b=q
     ·subst s;go_wp2;refine bodyPost_ret (results_none rfl _ _ _) rfl ?_;rw [<-M.o,aNq N.o];exact ⟨⟨_,rfl⟩,m.o,n.o⟩
     ·have k:q<a.length:=by omega
      have j:b<a.length:=by omega
      have c3:¬(b:Int)=(q:Int):=by omega
      obtain ⟨i,rfl⟩ : ∃V,i=V+1:=⟨i-1,by omega⟩;have E:=aNr (f:=i) N.o s k j;have H:=yK k j;have T:=aA (aD J k j (λf=>s f.symm));generalize nW a q b k j=M' at *;have U:=aA E;have o:=aA H;clear E H J;go_wp2_with (first
       |(go_at_call 95;refine (aD T).mono ?_;rintro f c9 ⟨⟨Z,rfl⟩,p,G⟩;have u:=aA p;have y:=aA (lH n.o G);clear p G)
       |go_in)
      go_roundw;case rel=>exact ⟨b,i,M',rfl,Or.inl (by rw [o.o];exact j),by rw [o.o];omega,by rw [o.o];exact O.o,u.o,y.o,by rw [<-M.o,U.o]⟩
      case measure=>simp [intOf];omega
theorem bCk(x:Cd):∀c∈x.cells,c.oneCell'=true:=by intro c a;simp [Cd.cells] at a;rcases a with rfl|rfl|rfl|rfl|rfl|rfl|rfl|rfl<;>rfl
theorem cG.frz(a:cG B w hp v L)(c:Nat):w.frozen? ⟨hp,c,none⟩=false:=by simp [zn,a.box]
theorem cG.more{a:World}{e:Value}(c:cG B w hp v L)(j:a.ownsRow B 73 8 e (L.length+1) (gO L++x.cells))(i:w.grownBy a v.ownBlock):a.cell? ⟨hp,0,none⟩=some v/\a.frozen? ⟨hp,0,none⟩=false/\cG B (a.setCell ⟨hp,0,none⟩ e) hp e (L++[x])/\Mv [73,100] B w (a.setCell ⟨hp,0,none⟩ e):=by
 have d:a.heap[hp]?=some (.cells #[v,.func (.func 29) #[] #[]] 100 (0,0)):=by rw [i.block hp (zy.1 c.box).1 (λl=>eC c.row c.box (by decide) l.symm)];exact c.box
 have p:=eC j d (by decide);have o:=(zy.1 d).1;refine ⟨by simp [zx,d],by simp [zn,d],⟨?_,?_,c.base⟩,?_⟩
 ·show (a.heap.modify hp _)[hp]?=_;rw [zt (by rw [zo];exact o),zs,(zy.1 d).2];rfl
 ·have:=dT j (cM a ⟨hp,0,none⟩ e) (Or.inr p);rw [aUw];simpa [gO] using this
 ·refine Mv.trans (V:=a) (Mv.of_grown i (λr f=>?_)) (Mv.of_grown (cM a ⟨hp,0,none⟩ e) (λr f=>by cases f;exact ⟨c.base,_,_,d,by simp⟩));obtain ⟨_,⟨rfl,_⟩|⟨g,cap,k,rfl,m,n,_⟩⟩:=c.row
  ·cases f
  ·cases f;exact ⟨m,k,_,n,by simp⟩
theorem bCl(B hp:Nat)(v:Value)(L:List Cd)(x:Cd)(w:World)(f:cG B w hp v L)(a4:L.length<=1000000)(a3:B<=w.heap.size):Calls zu 45 #[.pointer (some ⟨hp,0,none⟩),x.agg] w λr w'=>(∃A,r=.returned A)/\∃Y,cG B w' hp Y (iJ L.length (L++[x]) L.length)/\Mv [73,100] B w w':=by
 obtain ⟨C,D,rfl⟩:=aZ f.row;have F:=aA f;clear f;unfold Cd.agg;go_enter Tryz.func45,Tryz.ntmps45;go_wp2_with fail;obtain ⟨a,z,d,c⟩ : ∃a,w.alloc (.cells #[.int .i64 x.r,.int .i64 x.a,.int .i64 x.b,.int .i64 x.i,.int .i64 x.j,.slice x.ad x.ln x.cp,.int .i64 x.wt,.int .i64 x.nm] 73)=a/\aB w a/\a.heap[w.heap.size]?=some (.cells #[.int .i64 x.r,.int .i64 x.a,.int .i64 x.b,.int .i64 x.i,.int .i64 x.j,.slice x.ad x.ln x.cp,.int .i64 x.wt,.int .i64 x.nm] 73 (0,0)):=⟨_,rfl,(Below.refl _ w).alloc (zz _) _,zw w _⟩;simp only [z];clear z;have i:=F.o.below d;have p:=i.c0.1;have R:∀l,(a.alloc l).cell? ⟨hp,0,none⟩=some (.slice C L.length D):=λl=>aC ((Below.refl _ a).alloc (zz _) l) p
 have H:a.cell? ⟨w.heap.size,0,none⟩=some (.int .i64 x.r):=by simp [zx,c]
 have I:a.cell? ⟨w.heap.size,1,none⟩=some (.int .i64 x.a):=by simp [zx,c]
 have J:a.cell? ⟨w.heap.size,2,none⟩=some (.int .i64 x.b):=by simp [zx,c]
 have M:a.cell? ⟨w.heap.size,3,none⟩=some (.int .i64 x.i):=by simp [zx,c]
 have N:a.cell? ⟨w.heap.size,4,none⟩=some (.int .i64 x.j):=by simp [zx,c]
 have O:a.cell? ⟨w.heap.size,5,none⟩=some (.slice x.ad x.ln x.cp):=by simp [zx,c]
 have P:a.cell? ⟨w.heap.size,6,none⟩=some (.int .i64 x.wt):=by simp [zx,c]
 have Q:a.cell? ⟨w.heap.size,7,none⟩=some (.int .i64 x.nm):=by simp [zx,c]
 have X:=d.size;have j:=i.below (aR ⟨1,rfl⟩);have y:a.drew.ownsRow B 73 8 (.slice C L.length D) L.length (gO L):=j.row;have n:=aA j;have m:=aA d;have a6:zu.follows .mixedOrders=true:=by kernel_rfl
 clear i c j d;go_region_law (refine oY ?g1 (.tmp 8) (.tmp 10) 98 73 ?g2 (.agg #[.int .i64 0,.int .i64 0,.int .i64 0,.int .i64 0,.int .i64 0,.slice none 0 0,.int .i64 0,.int .i64 0]) 8 80 Tryz.underlying98 aUv ?g3 ?g4 ?g5 B _ L.length (gO L) ?g6 (y.alloc _) ?g7 ?g8 a.heap.size 1 x.cells ?g9 ?g10 (aM4 a.drew #[.int .i64 x.r,.int .i64 x.a,.int .i64 x.b,.int .i64 x.i,.int .i64 x.j,.slice x.ad x.ln x.cp,.int .i64 x.wt,.int .i64 x.nm] 73) (bCk x) ?_;(case g1=>rfl);(case g2=>rfl);(case g3=>rfl);(case g4=>decide);(case g5=>decide);(case g6=>rfl);(case g7=>omega);(case g8=>simp;omega);(case g9=>rfl);(case g10=>rfl);intro a7 a1 k t;obtain ⟨T,U,s,u⟩:=cG.more (n.o.below ((Below.refl _ a.drew).alloc (zz _) _)) k t;have e:=aA s;have o:=aA u;obtain ⟨Z,a0,rfl⟩:=aZ k;clear k t s u);all_goals
  have a2:=e.o.c0.1;have G:=aA ((Mv.of_below (S:=[73,100]) (B:=B) (m.o.trans (((aR ⟨1,rfl⟩).alloc (zz _) _).mono X))).trans o.o);clear T U o n m H I J M N O P Q p R y;generalize a1.setCell ⟨hp,0,none⟩ (.slice Z (L.length+1) a0)=w4 at *;have E:=aA (bCh B hp _ (L++[x]) L.length w4 e.o (by simp) (by simp;omega));have a5:((L.length:Int)+1)-1=(L.length:Int):=by omega
  go_wp2_with (first
   |(go_at_call 72;refine (aD E).mono ?_;rintro r a8 ⟨⟨A,rfl⟩,V,W⟩)
   |go_in)
  go_end0;exact ⟨⟨_,rfl⟩,_,V,G.o.trans ((e.o.mv W).mono (by simp) (zz _))⟩
def iO:Cd:=⟨0,0,0,0,0,none,0,0,0,0,[]⟩
def jV(L:List Cd):List Cd:=match L.getLast? with
 |none=>[]
 |some y=>kX (L.length-1) ((L.set 0 y).take (L.length-1)) 0
theorem bCm(w:World):∃a,(w.alloc (.cells #[.int .i64 0,.int .i64 0,.int .i64 0,.int .i64 0,.int .i64 0,.slice none 0 0,.int .i64 0,.int .i64 0] 73)).alloc (.cells #[.int .i64 0,.int .i64 0,.int .i64 0,.int .i64 0,.int .i64 0,.slice none 0 0,.int .i64 0,.int .i64 0] 73)=a/\aB w a/\a.heap.size=w.heap.size+2/\
  a.heap[w.heap.size]?=some (.cells #[.int .i64 0,.int .i64 0,.int .i64 0,.int .i64 0,.int .i64 0,.slice none 0 0,.int .i64 0,.int .i64 0] 73 (0,0))/\a.heap[w.heap.size+1]?=some (.cells #[.int .i64 0,.int .i64 0,.int .i64 0,.int .i64 0,.int .i64 0,.slice none 0 0,.int .i64 0,.int .i64 0] 73 (0,0)):=by
 refine ⟨_,rfl,((Below.refl _ w).alloc (zz _) _).alloc (by simp) _,by simp,(Below.heap_alloc _ _ _ (by simp)).trans (zw w _),?_⟩;have:=zw (w.alloc (.cells #[.int .i64 0,.int .i64 0,.int .i64 0,.int .i64 0,.int .i64 0,.slice none 0 0,.int .i64 0,.int .i64 0] 73)) (.cells #[.int .i64 0,.int .i64 0,.int .i64 0,.int .i64 0,.int .i64 0,.slice none 0 0,.int .i64 0,.int .i64 0] 73);rwa [zl] at this
theorem bCn(B hp:Nat)(v:Value)(w:World)(a:cG B w hp v []):Calls zu 46 #[.pointer (some ⟨hp,0,none⟩)] w λf w'=>f=.returned (.tuple #[iO.agg,.bool false])/\aB w w':=by
 obtain ⟨i,j,rfl⟩:=aZ a.row;simp only [List.length_nil] at a;have e:=a.c0.1;have k:∀c d,((w.alloc c).alloc d).cell? ⟨hp,0,none⟩=some (.slice i 0 j):=λc d=>aC (((Below.refl _ w).alloc (zz _) c).alloc (by simp) d) e
 clear a e;go_enter Tryz.func46,Tryz.ntmps46;go_wp2;refine bodyPost_ret (v:=.tuple #[iO.agg,.bool false]) (by simp [results,Tryz.results46,go_sem,iO,Cd.agg];try rfl) rfl ?_;exact ⟨rfl,((Below.refl _ w).alloc (zz _) _).alloc (by simp) _⟩
def jF(w:World)(b:Nat)(x:Cd):Prop:=w.heap[b]?=some (.cells #[.int .i64 x.r,.int .i64 x.a,.int .i64 x.b,.int .i64 x.i,.int .i64 x.j,.slice x.ad x.ln x.cp,.int .i64 x.wt,.int .i64 x.nm] 73 (0,0))
theorem jF.cells(a:jF w b x):w.cell? ⟨b,0,none⟩=some (.int .i64 x.r)/\w.cell? ⟨b,1,none⟩=some (.int .i64 x.a)/\w.cell? ⟨b,2,none⟩=some (.int .i64 x.b)/\w.cell? ⟨b,3,none⟩=some (.int .i64 x.i)/\w.cell? ⟨b,4,none⟩=some (.int .i64 x.j)/\w.cell? ⟨b,5,none⟩=some (.slice x.ad x.ln x.cp)/\w.cell? ⟨b,6,none⟩=some (.int .i64 x.wt)/\w.cell? ⟨b,7,none⟩=some (.int .i64 x.nm):=by refine ⟨?_,?_,?_,?_,?_,?_,?_,?_⟩<;>simp [zx,show w.heap[b]?=_ from a]
theorem jF.frz(a:jF w b x)(c:Nat):w.frozen? ⟨b,c,none⟩=false:=by simp [zn,show w.heap[b]?=_ from a]
theorem jF.grown{c:Option Nat}(a:jF w b x)(d:w.grownBy w' c)(e:some b≠c):jF w' b x:=(d.block b (zy.1 a).1 e).trans a
theorem jF.below(a:jF w b x)(c:aB w w'):jF w' b x:=(c.block b (zy.1 a).1).trans a
theorem jF.put{y:Cd}(f:jF w b x):jF (gG w b 0 y) b y:=by
 have a:∀(c:World) (d:Array Value) (k:Nat) (v:Value),c.heap[b]?=some (.cells d 73 (0,0))->(c.setCell ⟨b,k,none⟩ v).heap[b]?=some (.cells (d.setIfInBounds k v) 73 (0,0)):=λc d k v e=>by
  have i:=(zy.1 e).1;show (c.heap.modify b _)[b]?=_;rw [zt (by rw [zo];exact i),zs,(zy.1 e).2];rfl
 unfold jF gG;simp only [zm];rw [a _ _ 7 _ (a _ _ 6 _ (a _ _ 5 _ (a _ _ 4 _ (a _ _ 3 _ (a _ _ 2 _ (a _ _ 1 _ (a _ _ 0 _ f)))))))];simp
theorem aNs:∀(L:List Cd) (a:Nat),(gO L).take (a*8)=gO (L.take a)
 |[],a=>by simp [gO]
 |x::L,0=>by simp [gO]
 |x::L,a+1=>by
  rw [wH,List.take_succ_cons,wH,<-aNs L a,show (a+1)*8=x.cells.length+a*8 by rw [aAq];omega,List.take_length_add_append]
theorem cG.other{c:Nat}(a:cG B w hp v L)(d:w.grownBy w' (some c))(f:hp≠c)(e:v.ownBlock≠some c):cG B w' hp v L:=
 ⟨(d.block hp (zy.1 a.box).1 (by simp;omega)).trans a.box,dT a.row d (Or.inr e),a.base⟩
theorem cG.shrink{r:Nat}(a:cG B w hp (.slice (some ⟨g,0,none⟩) r cap) L){m:Nat}(k:m<=L.length):cG B (w.setCell ⟨hp,0,none⟩ (.slice (some ⟨g,0,none⟩) m cap)) hp (.slice (some ⟨g,0,none⟩) m cap) (L.take m)/\w.grownBy (w.setCell ⟨hp,0,none⟩ (.slice (some ⟨g,0,none⟩) m cap)) (some hp):=by
 have j:=(zy.1 a.box).1;have n:=eC a.row a.box (by decide);refine ⟨⟨?_,?_,a.base⟩,cM w ⟨hp,0,none⟩ _⟩
 ·show (w.heap.modify hp _)[hp]?=_;rw [zt (by rw [zo];exact j),zs,(zy.1 a.box).2];rfl
 ·refine dT ?_ (cM w ⟨hp,0,none⟩ _) (Or.inr (by simpa [zq] using n));obtain ⟨u,⟨c,_⟩|⟨t,s,e,c,f,i,y,l,p,o⟩⟩:=a.row
  ·cases c
  ·simp at c;obtain ⟨rfl,_,rfl⟩:=c;have d:(L.take m).length=m:=by simp;omega
   rw [d];refine ⟨by rw [aK5,d],Or.inr ⟨g,cap,e,rfl,f,i,by omega,l,p,?_⟩⟩;rw [<-aNs,<-o,List.take_take,Nat.min_eq_left (Nat.mul_le_mul_right 8 k)]
theorem cG.get{j:Nat}(e:cG B w hp (.slice (some ⟨g,0,none⟩) j cap) L){k:Nat}{x:Cd}(f:L[k]?=some x):aNn w g k x:=by obtain ⟨i,d⟩:=zp.1 f;obtain ⟨m,l,a,c⟩:=e.at i;simp at a;obtain ⟨rfl,_⟩:=a;rw [d] at c;exact c
theorem bCo(B hp:Nat)(v:Value)(L:List Cd)(w:World)(P:cG B w hp v L)(Q:0<L.length)(j4:L.length<=1000000)(h0:B<=w.heap.size):Calls zu 46 #[.pointer (some ⟨hp,0,none⟩)] w λj w'=>j=.returned (.tuple #[L[0].agg,.bool true])/\∃i7,cG B w' hp i7 (jV L)/\Mv [73,100] B w w':=by
 obtain ⟨a,J⟩ : ∃a,L.length=a+1:=⟨L.length-1,by omega⟩;obtain ⟨g,cap,rfl,h1⟩:=P.at Q;clear h1;obtain ⟨c,a0⟩ : ∃c,L[a]=c:=⟨_,rfl⟩;obtain ⟨x,Z⟩ : ∃x,L[0]=x:=⟨_,rfl⟩;have d1:jV L=kX a ((L.set 0 c).take a) 0:=by
  unfold jV;have:L.getLast?=some c:=by rw [List.getLast?_eq_getElem?,J,Nat.add_sub_cancel,zr (by omega),a0]
  rw [this,J];rfl
 rw [Z,d1];clear d1;have e2:L[a]?=some c:=by rw [zr (by omega),a0]
 have e1:L[0]?=some x:=by rw [zr Q,Z]
 have b6:=aA e1;have b7:=aA e2;have F:=aA J;have k2:(L.length:Int)-1=(a:Int):=by omega
 have j9:¬((L.length:Int)=0):=by omega
 have j8:(0:Int)<(L.length:Int):=by omega
 have k4:(a:Int)<(L.length:Int):=by omega
 have k3:(a:Int)<=(L.length:Int):=by omega
 have k5:(0:Int)<=(a:Int):=by omega
 have k6:wrap64 ((L.length:Int)-1)=(a:Int):=by unfold wrap64;omega
 have D:=aA P;clear P Z a0 J e1 e2 Q;generalize hle:L.length=ml at *;have E:=aA hle;clear hle;go_enter Tryz.func46,Tryz.ntmps46;obtain ⟨e,h7,R,h5,d2,c8⟩:=bCm w;have G:=D.o.below R;have b8:=G.c0.1;have g6:∀d,(e.alloc d).cell? ⟨hp,0,none⟩=some (.slice (some ⟨g,0,none⟩) ml cap):=λd=>aC ((Below.refl _ e).alloc (zz _) d) b8
 obtain ⟨m,n,o,p,r,s,t,u⟩:=G.get b6.o;simp only [Nat.zero_mul,zm] at m n o p r s t u;have f8:=λd=>aC ((Below.refl _ e).alloc (zz _) d) m
 have f9:=λd=>aC ((Below.refl _ e).alloc (zz _) d) n
 have g0:=λd=>aC ((Below.refl _ e).alloc (zz _) d) o
 have g1:=λd=>aC ((Below.refl _ e).alloc (zz _) d) p
 have g2:=λd=>aC ((Below.refl _ e).alloc (zz _) d) r
 have g3:=λd=>aC ((Below.refl _ e).alloc (zz _) d) s
 have g4:=λd=>aC ((Below.refl _ e).alloc (zz _) d) t
 have g5:=λd=>aC ((Below.refl _ e).alloc (zz _) d) u
 have b1:=aA G;clear G;have k1:zu.follows .mixedOrders=true:=by kernel_rfl
 go_wp2;clear h7;go_region;have j6:g<w.heap.size:=(cO D.o.row g rfl).2;have j7:hp<w.heap.size:=(zy.1 D.o.box).1;have k0:(a:Int)<=(cap:Int):=by
  obtain ⟨_,⟨j,_⟩|⟨j3,i9,j0,j,_,_,j5,_⟩⟩:=D.o.row
  ·cases j
  ·simp at j;have:=E.o;omega
 have h6:∃f,(e.alloc (.cells #[.int .i64 x.r,.int .i64 x.a,.int .i64 x.b,.int .i64 x.i,.int .i64 x.j,.slice x.ad x.ln x.cp,.int .i64 x.wt,.int .i64 x.nm] 73)).drew=f/\aB e f/\jF f (w.heap.size+2) x:=by refine ⟨_,rfl,((Below.refl _ e).alloc (zz _) _).trans ((aR ⟨1,rfl⟩).mono (by simp)),?_⟩;rw [<-h5];exact zw e _
 obtain ⟨f,d7,z,c1⟩:=h6;simp only [d7];clear d7;have d3:jF f w.heap.size iO:=jF.below (w:=e) d2 z;have c9:jF f (w.heap.size+1) iO:=jF.below (w:=e) c8 z;have k:=b1.o.below z;have b2:=aA (Mv.of_below (S:=[73,100]) (B:=B) (bD R z));clear d2 c8 z R b1 b8 g6 m n o p r s t u f8 f9 g0 g1 g2 g3 g4 g5;have g7:=k.c0.1;obtain ⟨m,n,o,p,r,s,t,u⟩:=k.get b6.o;simp only [Nat.zero_mul,zm] at m n o p r s t u;obtain ⟨a2,a3,a4,a5,a6,a7,a8,a9⟩:=k.get b7.o;have V:=k.frozen;have N:=aA k;clear k;go_wp2;go_region;have X:=N.o.put (k:=0) (x:=c) E.o.symm (by have:=F.o;have:=E.o;omega);have d8:((((((((f.setCell ⟨g,0,none⟩ (.int .i64 c.r)).setCell ⟨g,1,none⟩ (.int .i64 c.a)).setCell ⟨g,2,none⟩ (.int .i64 c.b)).setCell ⟨g,3,none⟩ (.int .i64 c.i)).setCell ⟨g,4,none⟩ (.int .i64 c.j)).setCell ⟨g,5,none⟩ (.slice c.ad c.ln c.cp)).setCell ⟨g,6,none⟩ (.int .i64 c.wt)).setCell ⟨g,7,none⟩ (.int .i64 c.nm))=gG f g (0*8) c:=rfl;simp only [d8];clear d8 m n o p r s t u a2 a3 a4 a5 a6 a7 a8 a9 g7 V;have T:Below (gG f g (0*8) c).heap.size (gG f g (0*8) c) (gG f g (0*8) c).drew:=aR ⟨1,rfl⟩;have y:=X.1.below T;have A:=lH X.2 (gS T);have d4:=d3.grown A (by simp;omega);have d0:=c9.grown A (by simp;omega);have c2:=c1.grown A (by simp;omega);have b3:=aA (b2.o.trans ((N.o.mv (w':=(gG f g (0*8) c).drew) A).mono (by simp) (zz _)));clear X T A d3 c9 c1 b2 N;generalize (gG f g (0*8) c).drew=w4 at *;have e3:(L.set 0 c)[a]?=some c:=by
  have b9:=b7.o;have g9:=(zp.1 b9).1;by_cases h4:a=0
  ·subst h4;simp [g9]
  ·rw [List.getElem?_set_ne (by omega)];exact b9
 have g8:=y.c0.1;obtain ⟨a2,a3,a4,a5,a6,a7,a8,a9⟩:=y.get e3;obtain ⟨e4,e5,e6,e7,e8,e9,f0,f1⟩:=d0.cells;simp only [iO] at e4 e5 e6 e7 e8 e9 f0 f1;have V:=y.frozen;have O:=aA y;clear y;go_wp2;go_region;have C:(L.set 0 c).length=ml:=by rw [List.length_set];exact E.o
 have Y:=O.o.put (k:=a) (x:=iO) C.symm (by rw [C];have:=F.o;omega);have d9:((((((((w4.setCell ⟨g,a*8,none⟩ (.int .i64 0)).setCell ⟨g,a*8+1,none⟩ (.int .i64 0)).setCell ⟨g,a*8+2,none⟩ (.int .i64 0)).setCell ⟨g,a*8+3,none⟩ (.int .i64 0)).setCell ⟨g,a*8+4,none⟩ (.int .i64 0)).setCell ⟨g,a*8+5,none⟩ (.slice none 0 0)).setCell ⟨g,a*8+6,none⟩ (.int .i64 0)).setCell ⟨g,a*8+7,none⟩ (.int .i64 0))=gG w4 g (a*8) iO:=rfl;simp only [d9];clear d9 e4 e5 e6 e7 e8 e9 f0 f1 a2 a3 a4 a5 a6 a7 a8 a9 g8 V;have U:Below (gG w4 g (a*8) iO).heap.size (gG w4 g (a*8) iO) (gG w4 g (a*8) iO).drew:=aR ⟨1,rfl⟩;have l:=Y.1.below U;have H:=lH Y.2 (gS U);have d5:=d4.grown H (by simp;omega);have c3:=c2.grown H (by simp;omega);have b4:=aA (b3.o.trans ((O.o.mv (w':=(gG w4 g (a*8) iO).drew) H).mono (by simp) (zz _)));clear Y U H d4 d0 c2 b3 O;generalize (gG w4 g (a*8) iO).drew=w5 at *;have i8:=l.c0.1;have j1:=l.frz;have i:=l.shrink (m:=a) (by rw [List.length_set,C];have:=F.o;omega);have c7:((L.set 0 c).set a iO).take a=(L.set 0 c).take a:=by rw [List.take_set_of_le (zz _)]
 rw [c7] at i;have d6:=d5.grown i.2 (by simp;omega);have c4:=c3.grown i.2 (by simp;omega);have f5:=aA (b4.o.trans (Mv.of_grown (S:=[73,100]) (B:=B) i.2 (λh8 W=>by cases W;exact ⟨l.base,_,_,l.box,by simp⟩)));have h3:((L.set 0 c).take a).length=a:=by rw [List.length_take,C];have:=F.o;omega
 have b0:=aA (bCj B hp _ ((L.set 0 c).take a) _ i.1 (by omega));rw [h3] at b0;have f7:=aA d6;have f2:=aA c4;have f3:=aA i.1;clear d5 c3 b4 l i d6 c4 c7 e3 C;go_wp2_with (first
  |(go_at_call 73;refine (aD b0).mono ?_;rintro j a1 ⟨⟨m3,rfl⟩,c0,I⟩;have M:=f7.o.grown I (by simp [zq];omega);have c5:=f2.o.grown I (by simp [zq];omega);obtain ⟨k7,k8,k9,l0,l1,l2,l3,l4⟩:=c5.cells;obtain ⟨l5,l6,l7,l8,l9,m0,m1,m2⟩:=M.cells;have j2:=M.frz;have b5:=aA M;have f4:=aA c0;have f6:=aA (f5.o.trans ((f3.o.mv I).mono (by simp) (zz _)));clear M c5 c0 I)
  |go_in)
 have e0:((((((((a1.setCell ⟨w.heap.size,0,none⟩ (.int .i64 x.r)).setCell ⟨w.heap.size,1,none⟩ (.int .i64 x.a)).setCell ⟨w.heap.size,2,none⟩ (.int .i64 x.b)).setCell ⟨w.heap.size,3,none⟩ (.int .i64 x.i)).setCell ⟨w.heap.size,4,none⟩ (.int .i64 x.j)).setCell ⟨w.heap.size,5,none⟩ (.slice x.ad x.ln x.cp)).setCell ⟨w.heap.size,6,none⟩ (.int .i64 x.wt)).setCell ⟨w.heap.size,7,none⟩ (.int .i64 x.nm))=gG a1 w.heap.size 0 x:=rfl;simp only [e0];clear e0;have h2:=b5.o.put (y:=x);have c6:=aK7 a1 w.heap.size 0 x;obtain ⟨h9,i0,i1,i2,i3,i4,i5,i6⟩:=h2.cells;refine bodyPost_ret (v:=.tuple #[x.agg,.bool true]) (by simp [results,Tryz.results46,go_sem,h9,i0,i1,i2,i3,i4,i5,i6,Cd.agg];try rfl) rfl ?_;exact ⟨rfl,_,f4.o.other c6 (by omega) (by simp [zq];omega),f6.o.trans (Mv.of_grown c6 (λh8 W=>by cases W;exact ⟨h0,_,_,b5.o,by simp⟩))⟩
theorem bCp(e k:Bool)(d i:Option Addr)(j l g:Nat)(c f:List Nd)(w:World)(n:dV w d c)(o:dV w i f)(u:w.cell? ⟨g,0,none⟩=some (.bool k))(y:w.cell? ⟨g,1,none⟩=some (.slice i f.length l)):Calls zu 71 #[.agg #[.bool e,.slice d c.length j],.pointer (some ⟨g,0,none⟩)] w λm w'=>m=.returned (.bool (mG (e,c) (k,f)))/\aB w w':=by
 have a:aB w (w.alloc (.cells #[.bool e,.slice d c.length j] 86)):=(Below.refl _ _).alloc (zz _) _;have r:=aA (aDu e k d i j l c f _ (n.below a (zz _)) (o.below a (zz _)));have z:=aC a u;have A:=aC a y;have s:=aA a;clear a n o;go_enter Tryz.func71,Tryz.ntmps71;go_wp2_with (go_at_call 37;refine (aD r).mono ?_;rintro m C ⟨rfl,p⟩;have t:=aA (s.o.trans (p.mono (by simp)));clear p);go_ret;exact ⟨rfl,t.o⟩
theorem bCq(D r:Option Addr)(cap E g:Nat)(c:List (Lt×Value))(f:Bool)(e:List Nd)(w:World)(a4:c.length<=4398046511104)
  (I:∀a (a3:a<c.length),∃m,D=some ⟨m,0,none⟩/\w.cell? ⟨m,a*2,none⟩=some (.bool c[a].1.1)/\w.cell? ⟨m,a*2+1,none⟩=some c[a].2)
  (G:∀P∈c,lB w P.2 P.1.2) (F:dV w r e) (W:w.cell? ⟨g,0,none⟩=some (.bool f)) (X:w.cell? ⟨g,1,none⟩=some (.slice r e.length E)):Calls zu 94 #[.slice D c.length cap,.func (Fn.func 71) #[] #[.pointer (some ⟨g,0,none⟩)]] w λs w'=>∃Q:Int,s=.returned (.int .i64 Q)/\decide (0<=Q)=fP (c.map zv) (f,e)/\aB w w':=by
 have V:=aA I;have U:=aA G;have T:=aA F;clear I G F;go_enter Tryz.func94,Tryz.ntmps94;go_wp2;go_loopw [8] (λz wr=>∃a:Nat,a<=c.length/\z=.int .i64 a/\fP ((c.map zv).take a) (f,e)=false/\aB w wr) (λz _=>c.length-(intOf z).toNat);case atStart=>exact ⟨0,Nat.zero_le _,rfl,rfl,Below.refl _ _⟩
 case round=>
  obtain ⟨a,a5,rfl,N,d⟩:=hrel;have p:=aA N;clear N;by_cases M:a<c.length
  ·obtain ⟨m,rfl,t,l⟩:=V.o a M;obtain ⟨Y,Z,O,y⟩:=U.o c[a] (zk _);rw [O] at l;have n:=aKf c (f,e) a M;rw [p.o,Bool.false_or] at n;have u:=aKg c (f,e) (a+1);rw [n] at u;generalize c[a].1=x at *;obtain ⟨R,S⟩:=x;simp only at t l y;have a1:=aC d t;have a2:=aC d l;have j:=aA (bCp R f Y r Z E g S e wr (y.below d (zz _)) (T.o.below d (zz _)) (aC d W) (aC d X));have A:=aA n;have C:=aA u;have k:=aA d;have H:=d.size;clear n u d O y t l;cases hl:mG (R,S) (f,e)
   ·rw [hl] at j A;clear hl;go_wp2_with (go_at_call 71;refine (aD j).mono ?_;rintro s a0 ⟨rfl,i⟩;have o:=aA (k.o.trans (i.mono H));clear i);go_roundw;case rel=>exact ⟨a+1,by omega,by go_num,A.o,o.o⟩
    case measure=>simp [intOf];omega
   ·rw [hl] at j C;clear hl;go_wp2_with (go_at_call 71;refine (aD j).mono ?_;rintro s a0 ⟨rfl,i⟩;have o:=aA (k.o.trans (i.mono H));clear i);go_ret;exact ⟨_,rfl,by rw [C.o (by first|rfl|trivial)];simp,o.o⟩
  ·have J:(c.map zv).take a=c.map zv:=List.take_of_length_le (by simp;omega);rw [J] at p;have k:=aA d;clear J d;go_wp2;go_ret;exact ⟨_,rfl,by rw [p.o];rfl,k.o⟩
theorem bCr(d e:Option Addr)(cap j g:Nat)(a:List (Lt×Value))(i:Bool)(c:List Nd)(w:World)(C:a.length<=4398046511104)
  (s:∀k (D:k<a.length),∃f,d=some ⟨f,0,none⟩/\w.cell? ⟨f,k*2,none⟩=some (.bool a[k].1.1)/\w.cell? ⟨f,k*2+1,none⟩=some a[k].2)
  (p:∀u∈a,lB w u.2 u.1.2) (o:dV w e c) (m:w.cell? ⟨g,0,none⟩=some (.bool i)) (n:w.cell? ⟨g,1,none⟩=some (.slice e c.length j)):Calls zu 70 #[.slice d a.length cap,.func (Fn.func 71) #[] #[.pointer (some ⟨g,0,none⟩)]] w λl w'=>l=.returned (.bool (fP (a.map zv) (i,c)))/\aB w w':=by
 have y:=aA (bCq d e cap j g a i c w C s p o m n);clear s p o m n;go_enter Tryz.func70,Tryz.ntmps70;go_wp2_with (go_at_call 94;refine (aD y).mono ?_;rintro l F ⟨E,rfl,t,r⟩;have A:=aA t;have z:=aA r;clear t r);go_ret;exact ⟨dK A.o,z.o⟩
def qF(a:List Lt)(d:Nat):Bool:=(List.range d).any λc=>fP (a.take c) (!(a.getD c default).1,(a.getD c default).2)
def eR(a:List Lt):Bool:=qF a a.length
theorem aNt(a:List Lt)(c:Nat)(d:c<a.length):qF a (c+1)=(qF a c || fP (a.take c) (!a[c].1,a[c].2)):=by unfold qF;rw [List.range_succ,List.any_append];simp [d]
theorem bCs(a:List Lt){k:Nat}(f:k<=a.length)(c:qF a k=true):eR a=true:=by unfold eR qF at *;rw [List.any_eq_true] at *;obtain ⟨i,e,d⟩:=c;exact ⟨i,List.mem_range.2 (Nat.lt_of_lt_of_le (List.mem_range.1 e) f),d⟩
theorem aFv(J:Option Addr)(cap:Nat)(c:List (Lt×Value))(w:World)(a6:c.length<=100000)(a5:c.length<=cap)
  (N:∀a (a4:a<c.length),∃n,J=some ⟨n,0,none⟩/\w.cell? ⟨n,a*2,none⟩=some (.bool c[a].1.1)/\w.cell? ⟨n,a*2+1,none⟩=some c[a].2)
  (M:∀s∈c,lB w s.2 s.1.2):Calls zu 43 #[.slice J c.length cap] w λu w'=>u=.returned (.bool (eR (c.map zv)))/\aB w w':=by
 have G:=aA N;have F:=aA M;clear N M;go_enter Tryz.func43,Tryz.ntmps43;go_wp2;go_loopw [8] (λE wr=>∃a:Nat,a<=c.length/\E=.int .i64 a/\qF (c.map zv) a=false/\aB w wr) (λE _=>c.length-(intOf E).toNat);case atStart=>exact ⟨0,Nat.zero_le _,rfl,rfl,Below.refl _ _⟩
 case round=>
  obtain ⟨a,a8,rfl,p,j⟩:=hrel;have I:=aA p;clear p;by_cases O:a<c.length
  ·obtain ⟨n,rfl,y,r⟩:=G.o a O;obtain ⟨d,e,P,A⟩:=F.o c[a] (zk _);rw [P] at r;have C:=aNt (c.map zv) a (by simpa using O);rw [I.o,Bool.false_or] at C;have D:qF (c.map zv) (a+1)=fP ((c.map zv).take a) (!c[a].1.1,c[a].1.2):=by simpa using C
   generalize c[a].1=x at *;obtain ⟨f,i⟩:=x;simp only at y r A D;have a2:=aC j y;have a3:=aC j r;have X:=j.size;have b0:(a:Int)<(c.length:Int):=by omega
   have a9:(a:Int)<=(cap:Int):=by omega
   have l:aB w ((wr.alloc (.cells #[.bool f,.slice d i.length e] 86)).alloc (.cells #[.bool !f,.slice d i.length e] 86)):=(j.alloc X _).alloc (by simp;omega) _;have z:((wr.alloc (.cells #[.bool f,.slice d i.length e] 86)).alloc (.cells #[.bool !f,.slice d i.length e] 86)).heap[wr.heap.size+1]?=some (.cells #[.bool !f,.slice d i.length e] 86):=by have:=zw (wr.alloc (.cells #[.bool f,.slice d i.length e] 86)) (.cells #[.bool !f,.slice d i.length e] 86);rwa [zl] at this
   have Q:(c.take a).length=a:=by simp;omega
   have m:=aA (bCr (some ⟨n,0,none⟩) d cap e (wr.heap.size+1) (c.take a) (!f) i ((wr.alloc (.cells #[.bool f,.slice d i.length e] 86)).alloc (.cells #[.bool !f,.slice d i.length e] 86)) (by omega)
    (λa0 a7=>by
     obtain ⟨T,U,V,W⟩:=G.o a0 (by omega);rw [List.getElem_take];exact ⟨T,U,aC l V,aC l W⟩)
    (λs hp=>(F.o s (List.mem_of_mem_take hp)).below l (zz _)) (A.below l (zz _)) (aLo z).1 (aLo z).2)
   rw [Q,List.map_take,<-D] at m;have k:=aA l;have H:=aA (bCs (c.map zv) (k:=a+1) (by simp;omega));clear C D l z Q y r A P j;cases hi:qF (c.map zv) (a+1)
   ·rw [hi] at m;have R:=aA hi;clear hi;go_wp2_with (first
     |(go_at_call 70;refine (aD m).mono ?_;rintro u a1 ⟨rfl,o⟩;have t:=aA (k.o.trans (o.mono (by have:=k.o.size;simpa using this)));clear o)
     |go_in)
    go_roundw;case rel=>exact ⟨a+1,by omega,by go_num,R.o,t.o⟩
    case measure=>simp [intOf];omega
   ·have S:=aA (H.o hi);rw [hi] at m;clear hi H;go_wp2_with (first
     |(go_at_call 70;refine (aD m).mono ?_;rintro u a1 ⟨rfl,o⟩;have t:=aA (k.o.trans (o.mono (by have:=k.o.size;simpa using this)));clear o)
     |go_in)
    go_ret;exact ⟨by rw [S.o];rfl,t.o⟩
  ·have Z:a=(c.map zv).length:=by simp;omega
   have k:=aA j;clear j;go_wp2;go_ret;have Y:eR (c.map zv)=false:=by have p:=I.o;rw [Z] at p;exact p
   exact ⟨by rw [Y];rfl,k.o⟩
