import Derived.Test.YtbpiopdphigodaaGreatDoorXHp0P
import Derived.Test.YtbpiopdphigodaaGreatDoorStepAppP
open Array renaming getElem?_eq_some_iff→zz,getElem?_eq_getElem→zv,getElem_modify_self→zu,size_modify→zp
open List renaming getElem?_eq_getElem→zt,getElem?_eq_some_iff→zq
open Nat renaming le_refl→zy,zero_add→zn
namespace Go.Proofs.YtbpiopdphigodaaGreatDoor
open _root_.Go.Proofs.Tryz renaming prog→zs
open Value renaming ownBlock→zr
open World renaming cell?→zx,alloc_heap_new→zw,frozen?→zo
set_option maxHeartbeats 8000000
set_option maxRecDepth 100000
open Go.RowKit
variable{x:Cd}{L:List Cd}{B b cap g hp q:Nat}{v:Value}{w w':World}
def iO:Nat->List Cd->Nat->List Cd
 |0,L,_=>L
 |f+1,L,k=>if h:0<k/\k<L.length then (if kU (L[k]'h.2) (L[(k-1) / 2]'(by omega)) then iO f (nX L k ((k-1) / 2) h.2 (by omega)) ((k-1) / 2) else L) else L
theorem aKl:∀(f:Nat) (L:List Cd) (a:Nat),(iO f L a).length=L.length
 |0,_,_=>rfl
 |f+1,L,a=>by
  unfold iO;split
  ·split
   ·rw [aKl f];exact xA _ _
   ·rfl
  ·rfl
def aKm(w:World)(g a:Nat)(x:Cd):Prop:=w.cell? ⟨g,a*8,none⟩=some (.int .i64 x.r)/\w.cell? ⟨g,a*8+1,none⟩=some (.int .i64 x.a)/\w.cell? ⟨g,a*8+2,none⟩=some (.int .i64 x.b)/\w.cell? ⟨g,a*8+3,none⟩=some (.int .i64 x.i)/\
 w.cell? ⟨g,a*8+4,none⟩=some (.int .i64 x.j)/\w.cell? ⟨g,a*8+5,none⟩=some (.slice x.ad x.ln x.cp)/\w.cell? ⟨g,a*8+6,none⟩=some (.int .i64 x.wt)/\w.cell? ⟨g,a*8+7,none⟩=some (.int .i64 x.nm)
theorem bZ.at(a:bZ B w hp v L){k:Nat}(c:k<L.length):∃g cap,v=.slice (some ⟨g,0,none⟩) L.length cap/\aKm w g k L[k]:=a.cells c
theorem aYg{f:Nat}{a:Nat}(e:0<a)(d:a<L.length):∃(c:Nat) (i:c<L.length),((a:Int)-1).tdiv 2=(c:Int)/\c<a/\iO (f+1) L a=if kU L[a] L[c] then iO f (nX L a c d i) c else L:=by
 refine ⟨(a-1) / 2,by omega,?_,by omega,?_⟩
 ·rw [show ((a:Int)-1)=((a-1:Nat):Int) by omega];rfl
 ·conv=>lhs;unfold iO
  rw [dif_pos ⟨e,d⟩]
def zX(hp g d cap q c:Nat)(x a:Cd)(w':World):Prop:=w'.cell? ⟨hp,0,none⟩=some (.slice (some ⟨g,0,none⟩) d cap)/\w'.cell? ⟨hp,1,none⟩=some (.func (.func 41) #[] #[])/\w'.cell? ⟨g,q*8,none⟩=some (.int .i64 x.r)/\w'.cell? ⟨g,q*8+1,none⟩=some (.int .i64 x.a)/\w'.cell? ⟨g,q*8+2,none⟩=some (.int .i64 x.b)/\w'.cell? ⟨g,q*8+3,none⟩=some (.int .i64 x.i)/\w'.cell? ⟨g,q*8+4,none⟩=some (.int .i64 x.j)/\w'.cell? ⟨g,q*8+5,none⟩=some (.slice x.ad x.ln x.cp)/\w'.cell? ⟨g,q*8+6,none⟩=some (.int .i64 x.wt)/\w'.cell? ⟨g,q*8+7,none⟩=some (.int .i64 x.nm)/\w'.cell? ⟨g,c*8,none⟩=some (.int .i64 a.r)/\w'.cell? ⟨g,c*8+1,none⟩=some (.int .i64 a.a)/\w'.cell? ⟨g,c*8+2,none⟩=some (.int .i64 a.b)/\w'.cell? ⟨g,c*8+3,none⟩=some (.int .i64 a.i)/\w'.cell? ⟨g,c*8+4,none⟩=some (.int .i64 a.j)/\w'.cell? ⟨g,c*8+5,none⟩=some (.slice a.ad a.ln a.cp)/\w'.cell? ⟨g,c*8+6,none⟩=some (.int .i64 a.wt)/\w'.cell? ⟨g,c*8+7,none⟩=some (.int .i64 a.nm)
theorem zX.below{n c:Nat}{y:Cd}(d:zX hp g n cap q c x y w)(a:aB w w'):zX hp g n cap q c x y w':=by obtain ⟨e,f,s,t,u,z,A,C,D,E,i,j,k,l,m,o,p,r⟩:=d;exact ⟨aD a e,aD a f,aD a s,aD a t,aD a u,aD a z,aD a A,aD a C,aD a D,aD a E,aD a i,aD a j,aD a k,aD a l,aD a m,aD a o,aD a p,aD a r⟩
theorem bZ.two{c:Nat}(a:bZ B w hp (.slice (some ⟨g,0,none⟩) L.length cap) L)(f:q<L.length)(i:c<L.length):zX hp g L.length cap q c L[q] L[c] w:=by obtain ⟨G,E,d,j,k,l,m,n,o,p,r⟩:=a.cells f;obtain ⟨H,F,e,s,t,u,y,z,A,C,D⟩:=a.cells i;cases d;cases e;exact ⟨a.c0.1,a.c0.2,j,k,l,m,n,o,p,r,s,t,u,y,z,A,C,D⟩
theorem aYh(B hp:Nat)(v:Value)(L:List Cd)(f:Nat)(w:World)(G:bZ B w hp v L)(a1:f<L.length)(a9:L.length<=1000000000):Calls zs 96 #[.pointer (some ⟨hp,0,none⟩),.int .i64 f] w λi w'=>(∃Q,i=.returned Q)/\bZ B w' hp v (iO f L f)/\w.grownBy w' v.ownBlock:=by
 have S:=aA G;clear G;go_enter Tryz.func96,Tryz.ntmps96;go_wp2;go_loopw [1] (λz wr=>∃(q e:Nat) (a:List Cd),z=.int .i64 q/\q<a.length/\q<=e/\a.length=L.length/\bZ B wr hp v a/\w.grownBy wr v.ownBlock/\iO e a q=iO f L f) (λz _=>(intOf z).toNat);case atStart=>exact ⟨f,f,L,rfl,a1,zy _,rfl,S.o,⟨rfl,rfl,rfl,zy _,λ_ _ _=>rfl⟩,rfl⟩
 case round=>
  obtain ⟨q,e,a,rfl,k,b0,J,j,m,d⟩:=hrel;by_cases Z:0<q
  ·obtain ⟨e,rfl⟩ : ∃Y,e=Y+1:=⟨e-1,by omega⟩;obtain ⟨c,n,a0,b5,P⟩:=aYg (f:=e) Z k;rw [P] at d;obtain ⟨g,cap,rfl,_⟩:=j.at k;have N:=j.two k n;have R:=aA (λ(l:World) (a7:bZ B l hp (.slice (some ⟨g,0,none⟩) a.length cap) a)=>aKf B hp _ a q c l a7 k n (by omega));generalize hM':nX a q c k n=M' at *;have M:M'.length=a.length:=by rw [<-hM'];exact xA _ _
   have A:=aA (λ(l:World) (a6:∃s,l=wr.drewN s)=>(aKe a[q] a[c] l).mono (R':=λi o=>i=.returned (.bool (kU a[q] a[c]))/\aB wr o) (λi o d=>by
    obtain ⟨s,rfl⟩:=a6;exact ⟨d.1,(aQ ⟨s,rfl⟩).trans d.2⟩))
   generalize a[q]=x at *;generalize a[c]=y at *;unfold Cd.agg at A;have X:=aA N;obtain ⟨d6,d7,e6,e7,e8,e9,f0,f1,f2,f3,d8,d9,e0,e1,e2,e3,e4,e5⟩:=N;have p:=aA j;have r:=aA m;have D:=aA d;have W:=aA (show a.length=L.length from J);have b2:(0:Int)<(q:Int):=by omega
   have b3:(0:Int)<=(q:Int):=by omega
   have b6:(0:Int)<=(c:Int):=by omega
   have b1:(q:Int)<(a.length:Int):=by omega
   have b4:(c:Int)<(a.length:Int):=by omega
   have a3:wrap64 ((q:Int)-1)=(q:Int)-1:=by unfold wrap64;omega
   have a5:wrap64 (c:Int)=(c:Int):=by unfold wrap64;omega
   have a4:wrap64 (((q:Int)-1).tdiv 2)=(c:Int):=by rw [a0];unfold wrap64;omega
   clear d P j m hM' J;generalize hml:a.length=ml at *;have V:=aA hml;clear hml;go_wp2;go_region_held3 (λw'=>w'.cell? ⟨hp,0,none⟩=some (.slice (some ⟨g,0,none⟩) ml cap)/\w'.cell? ⟨hp,1,none⟩=some (.func (.func 41) #[] #[])/\w'.cell? ⟨g,q*8,none⟩=some (.int .i64 x.r)/\w'.cell? ⟨g,q*8+1,none⟩=some (.int .i64 x.a)/\w'.cell? ⟨g,q*8+2,none⟩=some (.int .i64 x.b)/\w'.cell? ⟨g,q*8+3,none⟩=some (.int .i64 x.i)/\w'.cell? ⟨g,q*8+4,none⟩=some (.int .i64 x.j)/\w'.cell? ⟨g,q*8+5,none⟩=some (.slice x.ad x.ln x.cp)/\w'.cell? ⟨g,q*8+6,none⟩=some (.int .i64 x.wt)/\w'.cell? ⟨g,q*8+7,none⟩=some (.int .i64 x.nm)/\w'.cell? ⟨g,c*8,none⟩=some (.int .i64 y.r)/\w'.cell? ⟨g,c*8+1,none⟩=some (.int .i64 y.a)/\w'.cell? ⟨g,c*8+2,none⟩=some (.int .i64 y.b)/\w'.cell? ⟨g,c*8+3,none⟩=some (.int .i64 y.i)/\w'.cell? ⟨g,c*8+4,none⟩=some (.int .i64 y.j)/\w'.cell? ⟨g,c*8+5,none⟩=some (.slice y.ad y.ln y.cp)/\w'.cell? ⟨g,c*8+6,none⟩=some (.int .i64 y.wt)/\w'.cell? ⟨g,c*8+7,none⟩=some (.int .i64 y.nm)) (go_keep)
    (first
     |(go_at_call 41;refine (aC A _ (by first|exact ⟨0,rfl⟩|exact ⟨1,rfl⟩|exact ⟨_,rfl⟩)).mono ?_;rintro i o ⟨rfl,t⟩;obtain ⟨b7,b8,c7,c8,c9,d0,d1,d2,d3,d4,b9,c0,c1,c2,c3,c4,c5,c6⟩:=X.o.below t;have C:=aA t;clear t)
     |go_in)
   have I:=p.o.below C.o;have E:=aA I;have F:=aA (kV r.o (fX C.o));clear I a3 a4 a5;go_wp2_with (first
    |(go_at_call 118;refine (aC R o E.o).mono ?_;rintro i d5 ⟨⟨Q,rfl⟩,H,O⟩;have T:=aA H;have U:=aA (kV F.o O);clear H O)
    |go_in)
   ·have u:kU x y=false:=by simpa using ‹(!kU x y)=true›
    refine bodyPost_ret (results_none rfl _ _ _) rfl ?_;have d:=D.o;rw [aF (by simp [u])] at d;rw [<-d];exact ⟨⟨_,rfl⟩,by rw [V.o];exact E.o,F.o⟩
   ·have u:kU x y=true:=by simpa using ‹(!kU x y)=false›
    go_roundw;case rel=>
     have d:=D.o;rw [aG u] at d;exact ⟨c,e,M',rfl,by rw [M];exact n,by omega,by rw [M];exact W.o,T.o,U.o,d⟩
    case measure=>simp [intOf];omega
  ·have a2:q=0:=by omega
   subst a2;have a8:iO e a 0=a:=by
    cases e with
    |zero=>rfl
    |succ e=>unfold iO;rw [dif_neg (by omega)]
   rw [a8] at d;have p:=aA j;have r:=aA m;clear j m;go_wp2;go_end0;rw [<-d];exact ⟨⟨_,rfl⟩,p.o,r.o⟩
def eP(L:List Cd)(q:Nat):Nat->Nat
 |0=>q
 |t+1=>if h:2*q+1+t<L.length/\eP L q t<L.length then (if kU (L[2*q+1+t]'h.1) (L[eP L q t]'h.2) then 2*q+1+t else eP L q t) else eP L q t
theorem aDk(L:List Cd)(q:Nat):∀t,eP L q t=q\/(q<eP L q t/\eP L q t<2*q+1+t/\eP L q t<L.length)
 |0=>Or.inl rfl
 |t+1=>by
  unfold eP;split
  ·split
   ·right;omega
   ·rcases aDk L q t with h|h
    ·exact Or.inl h
    ·right;omega
  ·rcases aDk L q t with h|h
   ·exact Or.inl h
   ·right;omega
theorem aKn{t:Nat}(a:L.length<=2*q+1+t):eP L q (t+1)=eP L q t:=by
 conv=>lhs;unfold eP
 rw [dif_neg (by omega)]
theorem aYi{a:Nat}(c:2*q+1+a<L.length)(d:eP L q a<L.length):eP L q (a+1)=if kU L[2*q+1+a] L[eP L q a] then 2*q+1+a else eP L q a:=by
 conv=>lhs;unfold eP
 rw [dif_pos ⟨c,d⟩]
def lK:Nat->List Cd->Nat->List Cd
 |0,L,_=>L
 |f+1,L,q=>if h:eP L q 2≠q/\q<L.length/\eP L q 2<L.length then lK f (nX L q (eP L q 2) h.2.1 h.2.2) (eP L q 2) else L
theorem aKo:∀(f:Nat) (L:List Cd) (q:Nat),(lK f L q).length=L.length
 |0,_,_=>rfl
 |f+1,L,q=>by
  unfold lK;split
  ·rw [aKo f];exact xA _ _
  ·rfl
theorem aKp{f:Nat}(a:eP L q 2=q):lK f L q=L:=by
 cases f with
 |zero=>rfl
 |succ f=>unfold lK;rw [dif_neg (by omega)]
theorem aKq{f:Nat}(d:eP L q 2=b)(e:b≠q)(a:q<L.length)(c:b<L.length):lK (f+1) L q=lK f (nX L q b a c) b:=by
 subst d;conv=>lhs;unfold lK
 rw [dif_pos ⟨e,a,c⟩]
theorem aYj(B hp:Nat)(v:Value)(L:List Cd)(w:World)(h:bZ B w hp v L)(d4:L.length<=1000000000):Calls zs 97 #[.pointer (some ⟨hp,0,none⟩),.int .i64 0] w λf w'=>(∃Z,f=.returned Z)/\bZ B w' hp v (lK L.length L 0)/\w.grownBy w' v.ownBlock:=by
 obtain ⟨I,A,rfl⟩:=aY h.row;have b7:=aA h;clear h;go_enter Tryz.func97,Tryz.ntmps97;go_wp2;go_loopw [1] (λY wr=>∃(q i:Nat) (a:List Cd),Y=.int .i64 q/\(q<a.length\/q=0)/\a.length<=q+i/\a.length=L.length/\bZ B wr hp (.slice I L.length A) a/\w.grownBy wr (Value.slice I L.length A).ownBlock/\lK i a q=lK L.length L 0) (λY _=>L.length-(intOf Y).toNat);case atStart=>exact ⟨0,L.length,L,rfl,Or.inr rfl,by omega,rfl,b7.o,⟨rfl,rfl,rfl,zy _,λ_ _ _=>rfl⟩,rfl⟩
 case round=>
  obtain ⟨q,i,a,rfl,e3,e2,a9,z,F,D⟩:=hrel;have e4:q<=L.length:=by omega
  have m:=aA z;have n:=aA F;have M:=aA D;have O:=aA a9;clear D z F a9;go_wp2;go_loopw [4,5] (λb c wr=>∃d:Nat,d<=2/\b=.int .i64 (eP a q d)/\c=.int .i64 (2*q+1+d:Nat)/\bZ B wr hp (.slice I L.length A) a/\w.grownBy wr (Value.slice I L.length A).ownBlock) (λ_ c _=>2*q+3-(intOf c).toNat);case atStart=>exact ⟨0,by omega,rfl,by simp,m.o,n.o⟩
  case round=>
   obtain ⟨d,c7,rfl,rfl,z,F⟩:=hrel;have X:=aDk a q d;have d2:=z.c0.1;have m:=aA z;have n:=aA F;clear z F;by_cases b2:d<=1/\2*q+1+d<L.length
   ·obtain ⟨d7,c4⟩:=b2;have Q:=O.o;have l:eP a q d<a.length:=by omega
    have S:2*q+1+d<a.length:=by omega
    have b3:=aYi S l;obtain ⟨c,t⟩ : ∃c,2*q+1+d=c:=⟨_,rfl⟩;obtain ⟨b,r⟩ : ∃b,eP a q d=b:=⟨_,rfl⟩;have a4:aI (∃x e,x=a[2*q+1+d]/\e=a[eP a q d]/\eP a q (d+1)=if kU x e then c else b):=aA ⟨_,_,rfl,rfl,by rw [<-t,<-r];exact b3⟩;obtain ⟨x,e,b4,b5,b1⟩:=a4.o;have P:=m.o;rw [<-Q] at P;obtain ⟨g,cap,c0,c2⟩:=P.at S;clear c2;cases c0;have R:=P.two S l;rw [<-b4,<-b5,Q] at R;simp only [t,r] at R ⊢;have a1:=aA (λ(b6:World) (c8:∃f,b6=wr.drewN f)=>(aKe x e b6).mono (R':=λf a0=>f=.returned (.bool (kU x e))/\aB wr a0) (λf a0 D=>by
     obtain ⟨b9,rfl⟩:=c8;exact ⟨D.1,(aQ ⟨b9,rfl⟩).trans D.2⟩))
    unfold Cd.agg at a1;have b8:=aA R;obtain ⟨g3,g4,h3,h4,h5,h6,h7,h8,h9,i0,g5,g6,g7,g8,g9,h0,h1,h2⟩:=R;have d0:=aA l;have a3:=aA b1;have e0:(c:Int)<=2*(q:Int)+2:=by omega
    have e1:(0:Int)<=(c:Int):=by omega
    have d6:(0:Int)<=(b:Int):=by omega
    have d9:(c:Int)<(L.length:Int):=by omega
    have d5:(b:Int)<(L.length:Int):=by omega
    have d8:c<=2*q+2:=by omega
    have a5:=aA (show c=2*q+1+d from t.symm);clear b3 b4 b5 P X Q t r b1 a4 l S c4;generalize hml:L.length=ml at *;have d1:=aA hml;clear hml;go_wp2;go_region_held3 (λw'=>w'.cell? ⟨hp,0,none⟩=some (.slice (some ⟨g,0,none⟩) ml A)/\w'.cell? ⟨hp,1,none⟩=some (.func (.func 41) #[] #[])/\w'.cell? ⟨g,c*8,none⟩=some (.int .i64 x.r)/\w'.cell? ⟨g,c*8+1,none⟩=some (.int .i64 x.a)/\w'.cell? ⟨g,c*8+2,none⟩=some (.int .i64 x.b)/\w'.cell? ⟨g,c*8+3,none⟩=some (.int .i64 x.i)/\w'.cell? ⟨g,c*8+4,none⟩=some (.int .i64 x.j)/\w'.cell? ⟨g,c*8+5,none⟩=some (.slice x.ad x.ln x.cp)/\w'.cell? ⟨g,c*8+6,none⟩=some (.int .i64 x.wt)/\w'.cell? ⟨g,c*8+7,none⟩=some (.int .i64 x.nm)/\w'.cell? ⟨g,b*8,none⟩=some (.int .i64 e.r)/\w'.cell? ⟨g,b*8+1,none⟩=some (.int .i64 e.a)/\w'.cell? ⟨g,b*8+2,none⟩=some (.int .i64 e.b)/\w'.cell? ⟨g,b*8+3,none⟩=some (.int .i64 e.i)/\w'.cell? ⟨g,b*8+4,none⟩=some (.int .i64 e.j)/\w'.cell? ⟨g,b*8+5,none⟩=some (.slice e.ad e.ln e.cp)/\w'.cell? ⟨g,b*8+6,none⟩=some (.int .i64 e.wt)/\w'.cell? ⟨g,b*8+7,none⟩=some (.int .i64 e.nm)) (go_keep)
     (first
      |(go_at_call 41;refine (aC a1 _ (by first|exact ⟨0,rfl⟩|exact ⟨1,rfl⟩|exact ⟨_,rfl⟩)).mono ?_;rintro f a0 ⟨rfl,l⟩;obtain ⟨e5,e6,f5,f6,f7,f8,f9,g0,g1,g2,e7,e8,e9,f0,f1,f2,f3,f4⟩:=b8.o.below l;have a2:=aA l;clear l)
      |go_in)
    have u:=aA (m.o.below a2.o);have y:=aA (kV n.o (fX a2.o));go_wp2
    ·have W:kU x e=true:=by assumption
     go_roundw;case rel=>
      have C:=a3.o;rw [aG W] at C;have:=a5.o;exact ⟨d+1,by omega,by rw [C],by have:(c:Int)+1=((2*q+1+(d+1):Nat):Int):=(by omega);rw [<-this],u.o,y.o⟩
     case measure=>simp [intOf];omega
    ·have W:kU x e=false:=by assumption
     go_roundw;case rel=>
      have C:=a3.o;rw [aF (by simp [W])] at C;have:=a5.o;exact ⟨d+1,by omega,by rw [C],by have:(c:Int)+1=((2*q+1+(d+1):Nat):Int):=(by omega);rw [<-this],u.o,y.o⟩
     case measure=>simp [intOf];omega
   ·have Q:=O.o;have b0:eP a q 2=eP a q d:=by
     rcases Nat.lt_or_ge d 2 with h|h
     ·have p:a.length<=2*q+1+d:=by omega
      have a6:=aKn p;rcases (show d=0\/d=1 by omega) with rfl|rfl
      ·rw [aKn (t:=1) (by omega),a6]
      ·exact a6
     ·rw [show d=2 by omega]
    rw [<-b0] at X ⊢;obtain ⟨b,r⟩ : ∃b,eP a q 2=b:=⟨_,rfl⟩;rw [r] at X ⊢;have c6:¬(2*q+1+d<=2*q+2)\/¬(2*q+1+d<L.length):=by omega
    obtain ⟨c,t⟩ : ∃c,2*q+1+d=c:=⟨_,rfl⟩;rw [t] at c6 ⊢;have N:=aA r;clear r b0 b2 c7 t;have J:=aA (λ(a7:q<a.length) (a8:b<a.length) (c5:q≠b)=>aKf B hp (.slice I L.length A) a q b wr m.o a7 a8 c5);by_cases a7:c<=2*q+2
    ·have a8:¬c<L.length:=by omega
     have c1:(c:Int)<=2*(q:Int)+2:=by omega
     have d3:¬(c:Int)<(L.length:Int):=by omega
     by_cases s:b=q
     ·subst s;go_wp2;refine bodyPost_ret (results_none rfl _ _ _) rfl ?_;rw [<-M.o,aKp N.o];exact ⟨⟨_,rfl⟩,m.o,n.o⟩
     ·have k:q<a.length:=by omega
      have j:b<a.length:=by omega
      have c3:¬(b:Int)=(q:Int):=by omega
      obtain ⟨i,rfl⟩ : ∃V,i=V+1:=⟨i-1,by omega⟩;have E:=aKq (f:=i) N.o s k j;have H:=xA k j;have T:=aA (aC J k j (λf=>s f.symm));generalize nX a q b k j=M' at *;have U:=aA E;have o:=aA H;clear E H J;go_wp2_with (first
       |(go_at_call 118;refine (aC T).mono ?_;rintro f c9 ⟨⟨Z,rfl⟩,p,G⟩;have u:=aA p;have y:=aA (kV n.o G);clear p G)
       |go_in)
      go_roundw;case rel=>exact ⟨b,i,M',rfl,Or.inl (by rw [o.o];exact j),by rw [o.o];omega,by rw [o.o];exact O.o,u.o,y.o,by rw [<-M.o,U.o]⟩
      case measure=>simp [intOf];omega
    ·have c1:¬(c:Int)<=2*(q:Int)+2:=by omega
     by_cases s:b=q
     ·subst s;go_wp2;refine bodyPost_ret (results_none rfl _ _ _) rfl ?_;rw [<-M.o,aKp N.o];exact ⟨⟨_,rfl⟩,m.o,n.o⟩
     ·have k:q<a.length:=by omega
      have j:b<a.length:=by omega
      have c3:¬(b:Int)=(q:Int):=by omega
      obtain ⟨i,rfl⟩ : ∃V,i=V+1:=⟨i-1,by omega⟩;have E:=aKq (f:=i) N.o s k j;have H:=xA k j;have T:=aA (aC J k j (λf=>s f.symm));generalize nX a q b k j=M' at *;have U:=aA E;have o:=aA H;clear E H J;go_wp2_with (first
       |(go_at_call 118;refine (aC T).mono ?_;rintro f c9 ⟨⟨Z,rfl⟩,p,G⟩;have u:=aA p;have y:=aA (kV n.o G);clear p G)
       |go_in)
      go_roundw;case rel=>exact ⟨b,i,M',rfl,Or.inl (by rw [o.o];exact j),by rw [o.o];omega,by rw [o.o];exact O.o,u.o,y.o,by rw [<-M.o,U.o]⟩
      case measure=>simp [intOf];omega
theorem aYk(x:Cd):∀c∈x.cells,c.oneCell'=true:=by intro c a;simp [Cd.cells] at a;rcases a with rfl|rfl|rfl|rfl|rfl|rfl|rfl|rfl<;>rfl
theorem bZ.frz(a:bZ B w hp v L)(c:Nat):w.frozen? ⟨hp,c,none⟩=false:=by simp [zo,a.box]
theorem bZ.more{a:World}{e:Value}(c:bZ B w hp v L)(j:a.ownsRow B 96 8 e (L.length+1) (gG L++x.cells))(i:w.grownBy a v.ownBlock):a.cell? ⟨hp,0,none⟩=some v/\a.frozen? ⟨hp,0,none⟩=false/\bZ B (a.setCell ⟨hp,0,none⟩ e) hp e (L++[x])/\Mv [96,120] B w (a.setCell ⟨hp,0,none⟩ e):=by
 have d:a.heap[hp]?=some (.cells #[v,.func (.func 41) #[] #[]] 120 (0,0)):=by rw [i.block hp (zz.1 c.box).1 (λl=>dZ c.row c.box (by decide) l.symm)];exact c.box
 have p:=dZ j d (by decide);have o:=(zz.1 d).1;refine ⟨by simp [zx,d],by simp [zo,d],⟨?_,?_,c.base⟩,?_⟩
 ·show (a.heap.modify hp _)[hp]?=_;rw [zv (by rw [zp];exact o),zu,(zz.1 d).2];rfl
 ·have:=dT j (cJ a ⟨hp,0,none⟩ e) (Or.inr p);rw [aY7];simpa [gG] using this
 ·refine Mv.trans (V:=a) (Mv.of_grown i (λr f=>?_)) (Mv.of_grown (cJ a ⟨hp,0,none⟩ e) (λr f=>by cases f;exact ⟨c.base,_,_,d,by simp⟩));obtain ⟨_,⟨rfl,_⟩|⟨g,cap,k,rfl,m,n,_⟩⟩:=c.row
  ·cases f
  ·cases f;exact ⟨m,k,_,n,by simp⟩
theorem aYl(B hp:Nat)(v:Value)(L:List Cd)(x:Cd)(w:World)(f:bZ B w hp v L)(a4:L.length<=1000000)(a3:B<=w.heap.size):Calls zs 71 #[.pointer (some ⟨hp,0,none⟩),x.agg] w λr w'=>(∃A,r=.returned A)/\∃Y,bZ B w' hp Y (iO L.length (L++[x]) L.length)/\Mv [96,120] B w w':=by
 obtain ⟨C,D,rfl⟩:=aY f.row;have F:=aA f;clear f;unfold Cd.agg;go_enter Tryz.func71,Tryz.ntmps71;go_wp2_with fail;obtain ⟨a,z,d,c⟩ : ∃a,w.alloc (.cells #[.int .i64 x.r,.int .i64 x.a,.int .i64 x.b,.int .i64 x.i,.int .i64 x.j,.slice x.ad x.ln x.cp,.int .i64 x.wt,.int .i64 x.nm] 96)=a/\aB w a/\a.heap[w.heap.size]?=some (.cells #[.int .i64 x.r,.int .i64 x.a,.int .i64 x.b,.int .i64 x.i,.int .i64 x.j,.slice x.ad x.ln x.cp,.int .i64 x.wt,.int .i64 x.nm] 96 (0,0)):=⟨_,rfl,(Below.refl _ w).alloc (zy _) _,zw w _⟩;simp only [z];clear z;have i:=F.o.below d;have p:=i.c0.1;have R:∀l,(a.alloc l).cell? ⟨hp,0,none⟩=some (.slice C L.length D):=λl=>aD ((Below.refl _ a).alloc (zy _) l) p
 have H:a.cell? ⟨w.heap.size,0,none⟩=some (.int .i64 x.r):=by simp [zx,c]
 have I:a.cell? ⟨w.heap.size,1,none⟩=some (.int .i64 x.a):=by simp [zx,c]
 have J:a.cell? ⟨w.heap.size,2,none⟩=some (.int .i64 x.b):=by simp [zx,c]
 have M:a.cell? ⟨w.heap.size,3,none⟩=some (.int .i64 x.i):=by simp [zx,c]
 have N:a.cell? ⟨w.heap.size,4,none⟩=some (.int .i64 x.j):=by simp [zx,c]
 have O:a.cell? ⟨w.heap.size,5,none⟩=some (.slice x.ad x.ln x.cp):=by simp [zx,c]
 have P:a.cell? ⟨w.heap.size,6,none⟩=some (.int .i64 x.wt):=by simp [zx,c]
 have Q:a.cell? ⟨w.heap.size,7,none⟩=some (.int .i64 x.nm):=by simp [zx,c]
 have X:=d.size;have j:=i.below (aQ ⟨1,rfl⟩);have y:a.drew.ownsRow B 96 8 (.slice C L.length D) L.length (gG L):=j.row;have n:=aA j;have m:=aA d;have a6:zs.follows .mixedOrders=true:=by kernel_rfl
 clear i c j d;go_region_law (refine nN ?g1 (.tmp 8) (.tmp 10) 118 96 ?g2 (.agg #[.int .i64 0,.int .i64 0,.int .i64 0,.int .i64 0,.int .i64 0,.slice none 0 0,.int .i64 0,.int .i64 0]) 8 80 Tryz.underlying118 aY6 ?g3 ?g4 ?g5 B _ L.length (gG L) ?g6 (y.alloc _) ?g7 ?g8 a.heap.size 1 x.cells ?g9 ?g10 (aIj a.drew #[.int .i64 x.r,.int .i64 x.a,.int .i64 x.b,.int .i64 x.i,.int .i64 x.j,.slice x.ad x.ln x.cp,.int .i64 x.wt,.int .i64 x.nm] 96) (aYk x) ?_;(case g1=>rfl);(case g2=>rfl);(case g3=>rfl);(case g4=>decide);(case g5=>decide);(case g6=>rfl);(case g7=>omega);(case g8=>simp;omega);(case g9=>rfl);(case g10=>rfl);intro a7 a1 k t;obtain ⟨T,U,s,u⟩:=bZ.more (n.o.below ((Below.refl _ a.drew).alloc (zy _) _)) k t;have e:=aA s;have o:=aA u;obtain ⟨Z,a0,rfl⟩:=aY k;clear k t s u);all_goals
  have a2:=e.o.c0.1;have G:=aA ((Mv.of_below (S:=[96,120]) (B:=B) (m.o.trans (((aQ ⟨1,rfl⟩).alloc (zy _) _).mono X))).trans o.o);clear T U o n m H I J M N O P Q p R y;generalize a1.setCell ⟨hp,0,none⟩ (.slice Z (L.length+1) a0)=w4 at *;have E:=aA (aYh B hp _ (L++[x]) L.length w4 e.o (by simp) (by simp;omega));have a5:((L.length:Int)+1)-1=(L.length:Int):=by omega
  go_wp2_with (first
   |(go_at_call 96;refine (aC E).mono ?_;rintro r a8 ⟨⟨A,rfl⟩,V,W⟩)
   |go_in)
  go_end0;exact ⟨⟨_,rfl⟩,_,V,G.o.trans ((e.o.mv W).mono (by simp) (zy _))⟩
def gR:Cd:=⟨0,0,0,0,0,none,0,0,0,0,[]⟩
def kD(L:List Cd):List Cd:=match L.getLast? with
 |none=>[]
 |some y=>lK (L.length-1) ((L.set 0 y).take (L.length-1)) 0
theorem aYm(w:World):∃a,(w.alloc (.cells #[.int .i64 0,.int .i64 0,.int .i64 0,.int .i64 0,.int .i64 0,.slice none 0 0,.int .i64 0,.int .i64 0] 96)).alloc (.cells #[.int .i64 0,.int .i64 0,.int .i64 0,.int .i64 0,.int .i64 0,.slice none 0 0,.int .i64 0,.int .i64 0] 96)=a/\aB w a/\a.heap.size=w.heap.size+2/\
  a.heap[w.heap.size]?=some (.cells #[.int .i64 0,.int .i64 0,.int .i64 0,.int .i64 0,.int .i64 0,.slice none 0 0,.int .i64 0,.int .i64 0] 96 (0,0))/\a.heap[w.heap.size+1]?=some (.cells #[.int .i64 0,.int .i64 0,.int .i64 0,.int .i64 0,.int .i64 0,.slice none 0 0,.int .i64 0,.int .i64 0] 96 (0,0)):=by
 refine ⟨_,rfl,((Below.refl _ w).alloc (zy _) _).alloc (by simp) _,by simp,(Below.heap_alloc _ _ _ (by simp)).trans (zw w _),?_⟩;have:=zw (w.alloc (.cells #[.int .i64 0,.int .i64 0,.int .i64 0,.int .i64 0,.int .i64 0,.slice none 0 0,.int .i64 0,.int .i64 0] 96)) (.cells #[.int .i64 0,.int .i64 0,.int .i64 0,.int .i64 0,.int .i64 0,.slice none 0 0,.int .i64 0,.int .i64 0] 96);rwa [World.size_alloc] at this
theorem aYn(B hp:Nat)(v:Value)(w:World)(a:bZ B w hp v []):Calls zs 72 #[.pointer (some ⟨hp,0,none⟩)] w λf w'=>f=.returned (.tuple #[gR.agg,.bool false])/\aB w w':=by
 obtain ⟨i,j,rfl⟩:=aY a.row;simp only [List.length_nil] at a;have e:=a.c0.1;have k:∀c d,((w.alloc c).alloc d).cell? ⟨hp,0,none⟩=some (.slice i 0 j):=λc d=>aD (((Below.refl _ w).alloc (zy _) c).alloc (by simp) d) e
 clear a e;go_enter Tryz.func72,Tryz.ntmps72;go_wp2;refine bodyPost_ret (v:=.tuple #[gR.agg,.bool false]) (by simp [results,Tryz.results72,go_sem,gR,Cd.agg];try rfl) rfl ?_;exact ⟨rfl,((Below.refl _ w).alloc (zy _) _).alloc (by simp) _⟩
def iP(w:World)(b:Nat)(x:Cd):Prop:=w.heap[b]?=some (.cells #[.int .i64 x.r,.int .i64 x.a,.int .i64 x.b,.int .i64 x.i,.int .i64 x.j,.slice x.ad x.ln x.cp,.int .i64 x.wt,.int .i64 x.nm] 96 (0,0))
theorem iP.cells(a:iP w b x):w.cell? ⟨b,0,none⟩=some (.int .i64 x.r)/\w.cell? ⟨b,1,none⟩=some (.int .i64 x.a)/\w.cell? ⟨b,2,none⟩=some (.int .i64 x.b)/\w.cell? ⟨b,3,none⟩=some (.int .i64 x.i)/\w.cell? ⟨b,4,none⟩=some (.int .i64 x.j)/\w.cell? ⟨b,5,none⟩=some (.slice x.ad x.ln x.cp)/\w.cell? ⟨b,6,none⟩=some (.int .i64 x.wt)/\w.cell? ⟨b,7,none⟩=some (.int .i64 x.nm):=by refine ⟨?_,?_,?_,?_,?_,?_,?_,?_⟩<;>simp [zx,show w.heap[b]?=_ from a]
theorem iP.frz(a:iP w b x)(c:Nat):w.frozen? ⟨b,c,none⟩=false:=by simp [zo,show w.heap[b]?=_ from a]
theorem iP.grown{c:Option Nat}(a:iP w b x)(d:w.grownBy w' c)(e:some b≠c):iP w' b x:=(d.block b (zz.1 a).1 e).trans a
theorem iP.below(a:iP w b x)(c:aB w w'):iP w' b x:=(c.block b (zz.1 a).1).trans a
theorem iP.put{y:Cd}(f:iP w b x):iP (fW w b 0 y) b y:=by
 have a:∀(c:World) (d:Array Value) (k:Nat) (v:Value),c.heap[b]?=some (.cells d 96 (0,0))->(c.setCell ⟨b,k,none⟩ v).heap[b]?=some (.cells (d.setIfInBounds k v) 96 (0,0)):=λc d k v e=>by
  have i:=(zz.1 e).1;show (c.heap.modify b _)[b]?=_;rw [zv (by rw [zp];exact i),zu,(zz.1 e).2];rfl
 unfold iP fW;simp only [zn];rw [a _ _ 7 _ (a _ _ 6 _ (a _ _ 5 _ (a _ _ 4 _ (a _ _ 3 _ (a _ _ 2 _ (a _ _ 1 _ (a _ _ 0 _ f)))))))];simp
theorem aKr:∀(L:List Cd) (a:Nat),(gG L).take (a*8)=gG (L.take a)
 |[],a=>by simp [gG]
 |x::L,0=>by simp [gG]
 |x::L,a+1=>by
  rw [uV,List.take_succ_cons,uV,<-aKr L a,show (a+1)*8=x.cells.length+a*8 by rw [zV];omega,List.take_length_add_append]
theorem bZ.other{c:Nat}(a:bZ B w hp v L)(d:w.grownBy w' (some c))(f:hp≠c)(e:v.ownBlock≠some c):bZ B w' hp v L:=
 ⟨(d.block hp (zz.1 a.box).1 (by simp;omega)).trans a.box,dT a.row d (Or.inr e),a.base⟩
theorem bZ.shrink{r:Nat}(a:bZ B w hp (.slice (some ⟨g,0,none⟩) r cap) L){m:Nat}(k:m<=L.length):bZ B (w.setCell ⟨hp,0,none⟩ (.slice (some ⟨g,0,none⟩) m cap)) hp (.slice (some ⟨g,0,none⟩) m cap) (L.take m)/\w.grownBy (w.setCell ⟨hp,0,none⟩ (.slice (some ⟨g,0,none⟩) m cap)) (some hp):=by
 have j:=(zz.1 a.box).1;have n:=dZ a.row a.box (by decide);refine ⟨⟨?_,?_,a.base⟩,cJ w ⟨hp,0,none⟩ _⟩
 ·show (w.heap.modify hp _)[hp]?=_;rw [zv (by rw [zp];exact j),zu,(zz.1 a.box).2];rfl
 ·refine dT ?_ (cJ w ⟨hp,0,none⟩ _) (Or.inr (by simpa [zr] using n));obtain ⟨u,⟨c,_⟩|⟨t,s,e,c,f,i,y,l,p,o⟩⟩:=a.row
  ·cases c
  ·simp at c;obtain ⟨rfl,_,rfl⟩:=c;have d:(L.take m).length=m:=by simp;omega
   rw [d];refine ⟨by rw [aKb,d],Or.inr ⟨g,cap,e,rfl,f,i,by omega,l,p,?_⟩⟩;rw [<-aKr,<-o,List.take_take,Nat.min_eq_left (Nat.mul_le_mul_right 8 k)]
theorem bZ.get{j:Nat}(e:bZ B w hp (.slice (some ⟨g,0,none⟩) j cap) L){k:Nat}{x:Cd}(f:L[k]?=some x):aKm w g k x:=by obtain ⟨i,d⟩:=zq.1 f;obtain ⟨m,l,a,c⟩:=e.at i;simp at a;obtain ⟨rfl,_⟩:=a;rw [d] at c;exact c
theorem aYo(B hp:Nat)(v:Value)(L:List Cd)(w:World)(P:bZ B w hp v L)(Q:0<L.length)(j4:L.length<=1000000)(h0:B<=w.heap.size):Calls zs 72 #[.pointer (some ⟨hp,0,none⟩)] w λj w'=>j=.returned (.tuple #[L[0].agg,.bool true])/\∃i7,bZ B w' hp i7 (kD L)/\Mv [96,120] B w w':=by
 obtain ⟨a,J⟩ : ∃a,L.length=a+1:=⟨L.length-1,by omega⟩;obtain ⟨g,cap,rfl,h1⟩:=P.at Q;clear h1;obtain ⟨c,a0⟩ : ∃c,L[a]=c:=⟨_,rfl⟩;obtain ⟨x,Z⟩ : ∃x,L[0]=x:=⟨_,rfl⟩;have d1:kD L=lK a ((L.set 0 c).take a) 0:=by
  unfold kD;have:L.getLast?=some c:=by rw [List.getLast?_eq_getElem?,J,Nat.add_sub_cancel,zt (by omega),a0]
  rw [this,J];rfl
 rw [Z,d1];clear d1;have e2:L[a]?=some c:=by rw [zt (by omega),a0]
 have e1:L[0]?=some x:=by rw [zt Q,Z]
 have b6:=aA e1;have b7:=aA e2;have F:=aA J;have k2:(L.length:Int)-1=(a:Int):=by omega
 have j9:¬((L.length:Int)=0):=by omega
 have j8:(0:Int)<(L.length:Int):=by omega
 have k4:(a:Int)<(L.length:Int):=by omega
 have k3:(a:Int)<=(L.length:Int):=by omega
 have k5:(0:Int)<=(a:Int):=by omega
 have k6:wrap64 ((L.length:Int)-1)=(a:Int):=by unfold wrap64;omega
 have D:=aA P;clear P Z a0 J e1 e2 Q;generalize hle:L.length=ml at *;have E:=aA hle;clear hle;go_enter Tryz.func72,Tryz.ntmps72;obtain ⟨e,h7,R,h5,d2,c8⟩:=aYm w;have G:=D.o.below R;have b8:=G.c0.1;have g6:∀d,(e.alloc d).cell? ⟨hp,0,none⟩=some (.slice (some ⟨g,0,none⟩) ml cap):=λd=>aD ((Below.refl _ e).alloc (zy _) d) b8
 obtain ⟨m,n,o,p,r,s,t,u⟩:=G.get b6.o;simp only [Nat.zero_mul,zn] at m n o p r s t u;have f8:=λd=>aD ((Below.refl _ e).alloc (zy _) d) m
 have f9:=λd=>aD ((Below.refl _ e).alloc (zy _) d) n
 have g0:=λd=>aD ((Below.refl _ e).alloc (zy _) d) o
 have g1:=λd=>aD ((Below.refl _ e).alloc (zy _) d) p
 have g2:=λd=>aD ((Below.refl _ e).alloc (zy _) d) r
 have g3:=λd=>aD ((Below.refl _ e).alloc (zy _) d) s
 have g4:=λd=>aD ((Below.refl _ e).alloc (zy _) d) t
 have g5:=λd=>aD ((Below.refl _ e).alloc (zy _) d) u
 have b1:=aA G;clear G;have k1:zs.follows .mixedOrders=true:=by kernel_rfl
 go_wp2;clear h7;go_region;have j6:g<w.heap.size:=(cL D.o.row g rfl).2;have j7:hp<w.heap.size:=(zz.1 D.o.box).1;have k0:(a:Int)<=(cap:Int):=by
  obtain ⟨_,⟨j,_⟩|⟨j3,i9,j0,j,_,_,j5,_⟩⟩:=D.o.row
  ·cases j
  ·simp at j;have:=E.o;omega
 have h6:∃f,(e.alloc (.cells #[.int .i64 x.r,.int .i64 x.a,.int .i64 x.b,.int .i64 x.i,.int .i64 x.j,.slice x.ad x.ln x.cp,.int .i64 x.wt,.int .i64 x.nm] 96)).drew=f/\aB e f/\iP f (w.heap.size+2) x:=by refine ⟨_,rfl,((Below.refl _ e).alloc (zy _) _).trans ((aQ ⟨1,rfl⟩).mono (by simp)),?_⟩;rw [<-h5];exact zw e _
 obtain ⟨f,d7,z,c1⟩:=h6;simp only [d7];clear d7;have d3:iP f w.heap.size gR:=iP.below (w:=e) d2 z;have c9:iP f (w.heap.size+1) gR:=iP.below (w:=e) c8 z;have k:=b1.o.below z;have b2:=aA (Mv.of_below (S:=[96,120]) (B:=B) (aZ R z));clear d2 c8 z R b1 b8 g6 m n o p r s t u f8 f9 g0 g1 g2 g3 g4 g5;have g7:=k.c0.1;obtain ⟨m,n,o,p,r,s,t,u⟩:=k.get b6.o;simp only [Nat.zero_mul,zn] at m n o p r s t u;obtain ⟨a2,a3,a4,a5,a6,a7,a8,a9⟩:=k.get b7.o;have V:=k.frozen;have N:=aA k;clear k;go_wp2;go_region;have X:=N.o.put (k:=0) (x:=c) E.o.symm (by have:=F.o;have:=E.o;omega);have d8:((((((((f.setCell ⟨g,0,none⟩ (.int .i64 c.r)).setCell ⟨g,1,none⟩ (.int .i64 c.a)).setCell ⟨g,2,none⟩ (.int .i64 c.b)).setCell ⟨g,3,none⟩ (.int .i64 c.i)).setCell ⟨g,4,none⟩ (.int .i64 c.j)).setCell ⟨g,5,none⟩ (.slice c.ad c.ln c.cp)).setCell ⟨g,6,none⟩ (.int .i64 c.wt)).setCell ⟨g,7,none⟩ (.int .i64 c.nm))=fW f g (0*8) c:=rfl;simp only [d8];clear d8 m n o p r s t u a2 a3 a4 a5 a6 a7 a8 a9 g7 V;have T:Below (fW f g (0*8) c).heap.size (fW f g (0*8) c) (fW f g (0*8) c).drew:=aQ ⟨1,rfl⟩;have y:=X.1.below T;have A:=kV X.2 (fX T);have d4:=d3.grown A (by simp;omega);have d0:=c9.grown A (by simp;omega);have c2:=c1.grown A (by simp;omega);have b3:=aA (b2.o.trans ((N.o.mv (w':=(fW f g (0*8) c).drew) A).mono (by simp) (zy _)));clear X T A d3 c9 c1 b2 N;generalize (fW f g (0*8) c).drew=w4 at *;have e3:(L.set 0 c)[a]?=some c:=by
  have b9:=b7.o;have g9:=(zq.1 b9).1;by_cases h4:a=0
  ·subst h4;simp [g9]
  ·rw [List.getElem?_set_ne (by omega)];exact b9
 have g8:=y.c0.1;obtain ⟨a2,a3,a4,a5,a6,a7,a8,a9⟩:=y.get e3;obtain ⟨e4,e5,e6,e7,e8,e9,f0,f1⟩:=d0.cells;simp only [gR] at e4 e5 e6 e7 e8 e9 f0 f1;have V:=y.frozen;have O:=aA y;clear y;go_wp2;go_region;have C:(L.set 0 c).length=ml:=by rw [List.length_set];exact E.o
 have Y:=O.o.put (k:=a) (x:=gR) C.symm (by rw [C];have:=F.o;omega);have d9:((((((((w4.setCell ⟨g,a*8,none⟩ (.int .i64 0)).setCell ⟨g,a*8+1,none⟩ (.int .i64 0)).setCell ⟨g,a*8+2,none⟩ (.int .i64 0)).setCell ⟨g,a*8+3,none⟩ (.int .i64 0)).setCell ⟨g,a*8+4,none⟩ (.int .i64 0)).setCell ⟨g,a*8+5,none⟩ (.slice none 0 0)).setCell ⟨g,a*8+6,none⟩ (.int .i64 0)).setCell ⟨g,a*8+7,none⟩ (.int .i64 0))=fW w4 g (a*8) gR:=rfl;simp only [d9];clear d9 e4 e5 e6 e7 e8 e9 f0 f1 a2 a3 a4 a5 a6 a7 a8 a9 g8 V;have U:Below (fW w4 g (a*8) gR).heap.size (fW w4 g (a*8) gR) (fW w4 g (a*8) gR).drew:=aQ ⟨1,rfl⟩;have l:=Y.1.below U;have H:=kV Y.2 (fX U);have d5:=d4.grown H (by simp;omega);have c3:=c2.grown H (by simp;omega);have b4:=aA (b3.o.trans ((O.o.mv (w':=(fW w4 g (a*8) gR).drew) H).mono (by simp) (zy _)));clear Y U H d4 d0 c2 b3 O;generalize (fW w4 g (a*8) gR).drew=w5 at *;have i8:=l.c0.1;have j1:=l.frz;have i:=l.shrink (m:=a) (by rw [List.length_set,C];have:=F.o;omega);have c7:((L.set 0 c).set a gR).take a=(L.set 0 c).take a:=by rw [List.take_set_of_le (zy _)]
 rw [c7] at i;have d6:=d5.grown i.2 (by simp;omega);have c4:=c3.grown i.2 (by simp;omega);have f5:=aA (b4.o.trans (Mv.of_grown (S:=[96,120]) (B:=B) i.2 (λh8 W=>by cases W;exact ⟨l.base,_,_,l.box,by simp⟩)));have h3:((L.set 0 c).take a).length=a:=by rw [List.length_take,C];have:=F.o;omega
 have b0:=aA (aYj B hp _ ((L.set 0 c).take a) _ i.1 (by omega));rw [h3] at b0;have f7:=aA d6;have f2:=aA c4;have f3:=aA i.1;clear d5 c3 b4 l i d6 c4 c7 e3 C;go_wp2_with (first
  |(go_at_call 97;refine (aC b0).mono ?_;rintro j a1 ⟨⟨m3,rfl⟩,c0,I⟩;have M:=f7.o.grown I (by simp [zr];omega);have c5:=f2.o.grown I (by simp [zr];omega);obtain ⟨k7,k8,k9,l0,l1,l2,l3,l4⟩:=c5.cells;obtain ⟨l5,l6,l7,l8,l9,m0,m1,m2⟩:=M.cells;have j2:=M.frz;have b5:=aA M;have f4:=aA c0;have f6:=aA (f5.o.trans ((f3.o.mv I).mono (by simp) (zy _)));clear M c5 c0 I)
  |go_in)
 have e0:((((((((a1.setCell ⟨w.heap.size,0,none⟩ (.int .i64 x.r)).setCell ⟨w.heap.size,1,none⟩ (.int .i64 x.a)).setCell ⟨w.heap.size,2,none⟩ (.int .i64 x.b)).setCell ⟨w.heap.size,3,none⟩ (.int .i64 x.i)).setCell ⟨w.heap.size,4,none⟩ (.int .i64 x.j)).setCell ⟨w.heap.size,5,none⟩ (.slice x.ad x.ln x.cp)).setCell ⟨w.heap.size,6,none⟩ (.int .i64 x.wt)).setCell ⟨w.heap.size,7,none⟩ (.int .i64 x.nm))=fW a1 w.heap.size 0 x:=rfl;simp only [e0];clear e0;have h2:=b5.o.put (y:=x);have c6:=aKd a1 w.heap.size 0 x;obtain ⟨h9,i0,i1,i2,i3,i4,i5,i6⟩:=h2.cells;refine bodyPost_ret (v:=.tuple #[x.agg,.bool true]) (by simp [results,Tryz.results72,go_sem,h9,i0,i1,i2,i3,i4,i5,i6,Cd.agg];try rfl) rfl ?_;exact ⟨rfl,_,f4.o.other c6 (by omega) (by simp [zr];omega),f6.o.trans (Mv.of_grown c6 (λh8 W=>by cases W;exact ⟨h0,_,_,b5.o,by simp⟩))⟩
