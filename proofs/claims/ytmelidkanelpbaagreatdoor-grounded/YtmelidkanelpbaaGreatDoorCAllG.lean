import Derived.Test.YtmelidkanelpbaaGreatDoorXKn0G
import Derived.Test.YtmelidkanelpbaaGreatDoorXSr7G
open Bool renaming and_eq_true→zw,false_eq_true→zn
open List renaming all_eq_true→zz,getElem_mem→zx,getElem?_eq_getElem→zv,mem_append→zu,eq_nil_of_length_eq_zero→zt,any_eq_true→zq,filterMap_cons→zp,map_map→zl,flatMap_cons→zk,mem_flatMap→zi,map_id→zh
open Nat renaming le_refl→zs,le_trans→zm
open Or renaming inl→zo,inr→zj
namespace Go.Proofs.YtmelidkanelpbaaGreatDoor
open _root_.Go.Proofs.Tryz renaming prog→zr
open World renaming block_lt_of_cell?→zy
open Go.RowKit Go.Shelf Go.WideMaps
set_option maxHeartbeats 4000000
set_option maxRecDepth 100000
variable{cs:List (List Lt)}{T:List (aL×Value)}{L:List Cd}{c d:List Lt}{ks:List Nat}{n:Nat}{w:World}
def aCi(n:Nat):Prop:=∀(a f:Nat) (e:Option Addr) (k:Nat) (d:List Lt) (L:bG) (w:World) (i:Option Addr) (j:Nat) (c:List Lt),c.length<=n->cB w a f (.slice e d.length k) L->dD w a e d->dD w a i c->c.length<=j->mP d->mP c->a<=w.heap.size->
 Calls zr 80 #[.pointer (some ⟨f,0,none⟩),.slice i c.length j] w λo l=>∃(g:Bool) (b:bG),o=.returned (.bool g)/\cB l a f (.slice e d.length k) b/\Fr a w l/\(∃m,b=L++m)/\(g=true->kR c L b/\aEm d c b)/\(g=false->¬gR d c L)
def aCj(n:Nat):Prop:=∀(a f:Nat) (e:Option Addr) (k:Nat) (d:List Lt) (L:bG) (w:World) (i l j:Nat) (c:List Lt),c.length<=n->0<c.length->cB w a f (.slice e d.length k) L->dD w a e d->dD w a (some ⟨i,l,none⟩) c->c.length<=j->mP d->mP c->a<=w.heap.size->
 Calls zr 100 #[.pointer (some ⟨f,0,none⟩),.slice (some ⟨i,l,none⟩) c.length j] w λp m=>∃(g:Bool) (b:bG),p=.returned (.bool g)/\cB m a f (.slice e d.length k) b/\Fr a w m/\(∃o,b=L++o)/\(g=true->kR c L b/\aEm d c b)/\(g=false->¬gR d c L)
def aGf:Value->Nat
 | .slice _ n _=>n
 |_=>0
def aPe(d c e:List Lt)(L:bG):Prop:=∀b,Tm b->jR b L->∀a∈c,a∈e\/(a.1,subst b a.2)∈d
theorem mP.of{b:List Lt}(e:mP c)(g:∀a∈b,a∈c):mP b:=λa f=>e a (g a f)
theorem gR.sub{b:List Lt}{L:bG}(e:gR d c L)(k:∀a∈b,a∈c):gR d b L:=by obtain ⟨l,f,g,i⟩:=e;exact ⟨l,f,g,λa j=>i a (k a j)⟩
theorem aPf{i e:List Lt}{L f g:bG}(j:kR c L f)(m:kR e f g)(l:∀a∈e,a∈i)(k:∀a∈i,a∈c):kR c L g:=j.trans m (λ_ b=>b) (λa b=>k a (l a b))
theorem aGg(n:Nat)(a5:aCj n):aCi n:=by
 intro j M I J d L w d2 d3 c e4 g a4 P e0 b1 b0 a3;have c4:=aA a5;have c5:=aA g;have c2:=aA a4;have c1:=aA P;have c3:=aA b1;have Z:=aA b0;have f2:=P.few;clear a5 g a4 P b1 b0;go_enter Tryz.func80,Tryz.ntmps80;go_wp2;go_loopw [1] (λW wr=>∃(e:List Lt) (f:bG) (V:Option Addr) (x:Nat),W=.slice V e.length x/\e.length<=n/\e.length<=x/\dD wr j V e/\cB wr j M (.slice I d.length J) f/\Fr j w wr/\(∀a∈e,a∈c)/\(∃c9,f=L++c9)/\(gR d c L↔gR d e f)/\kR c L f/\aPe d c e f) (λW _=>aGf W);case atStart=>exact ⟨c,L,d2,d3,rfl,e4,e0,c1.o,c5.o,Fr.refl _ _,λ_ h=>h,⟨[],by simp⟩,Iff.rfl,kR.refl _ _,λ_ _ _ a b=>zo b⟩
 case round=>
  obtain ⟨e,f,V,x,rfl,f4,e3,p,g,i,u,t,Q,r,s⟩:=hrel;by_cases a2:0<e.length
  ·obtain ⟨d1,e7,_,_,rfl,_⟩:=p.cell 0 a2;have f1:(0:Int)<(e.length:Int):=by omega
   have b8:=aA (bE6 j M (.slice I d.length J) f wr d1 e7 x e g p e3 (Z.o.of u) a2 (zm a3 i.size));have k:=aA i;have C:=aA g;have F:=aA u;have o:=aA t;have Y:=aA Q;have B:=aA r;have E:=aA s;have e6:=zm a3 i.size;clear p g i u t Q r s;go_wp2_with (first
    |(go_at_call 99;refine (aD b8).mono ?_;rintro d4 f0 ⟨b9,d0,d5,d7,d6,e8,e9,rfl,e1,e5,a6,a7,S,f3,d8,a8,m⟩;have b7:=aA (c4.o j M I J d f f0 d5 d7 d6 b9 (by omega) d8 (C.o.below m) (c2.o.fr (k.o.trans (Fr.of_below m))) a6 e1 c3.o (Z.o.of λa b=>F.o a ((S a).2 (zo b))) (zm e6 m.size));have X:=aA m;have c8:=aA a7;have l:=aA S;have c0:=aA a8;clear a6 a7 S a8 m)
    |(go_at_call 100;refine (aD b7).mono ?_;rintro d4 f5 ⟨y,a1,rfl,b2,a9,b4,b5,b6⟩;have D:=aA b2;have A:=aA a9;have a0:=aA b4;have c6:=aA b5;have c7:=aA b6;clear b2 a9 b4 b5 b6))
   ·have U:y=false:=by first|assumption|(cases y<;>simp_all)
    subst U;go_ret;refine ⟨false,a1,rfl,D.o,k.o.trans ((Fr.of_below X.o).trans A.o),?_,by simp,λ_ d9=>?_⟩
    ·obtain ⟨G,N⟩:=o.o;obtain ⟨H,O⟩:=a0.o;exact ⟨G++H,by rw [O,N];simp⟩
    ·exact c7.o rfl (((Y.o).1 d9).sub λa b=>(l.o a).2 (zo b))
   ·have U:y=true:=by first|assumption|(cases y<;>simp_all)
    subst U;go_roundw;case rel=>
     obtain ⟨R,b3⟩:=c6.o rfl;refine ⟨d0,a1,e8,e9,rfl,by omega,e5,c8.o.fr A.o,D.o,k.o.trans ((Fr.of_below X.o).trans A.o),λa b=>F.o a ((l.o a).2 (zj b)),?_,?_,?_,?_⟩
     ·obtain ⟨G,N⟩:=o.o;obtain ⟨H,O⟩:=a0.o;exact ⟨G++H,by rw [O,N];simp⟩
     ·exact Y.o.trans (aY0 l.o c0.o R D.o.ok.look b3)
     ·exact aPf B.o R (λa b=>(l.o a).2 (zo b)) F.o
     ·intro z v q a b;rcases E.o z v (R.ext q) a b with h|h
      ·rcases (l.o a).1 h with h|h
       ·exact zj (b3 z v q a h)
       ·exact zo h
      ·exact zj h
    case measure=>simp [aGf];omega
  ·have e2:e=[]:=zt (by omega);subst e2;have k:=aA i;have C:=aA g;have o:=aA t;have B:=aA r;have E:=aA s;clear p g i u t Q r s;go_wp2;go_ret;refine ⟨true,f,rfl,C.o,k.o,o.o,λ_=>⟨B.o,λz v q a b=>?_⟩,by simp⟩;rcases E.o z v q a b with h|h
   ·simp at h
   ·exact h
theorem aPg(b f:Nat)(o:Value)(L:bG)(w:World)(q r:Bool)(k l:Option Addr)(s m:Nat)(e a:List Nd)(A:cB w b f o L)(y:fV w b k e)(z:fV w b l a)(B:a.length<=m)(G:aQ e 1=true)(H:aQ a 1=true)(v:e.length<=60)(x:a.length<=60)(D:kA (q,e) (r,a) L=none):∀i,(∃n,i=w.drewN n)->Calls zr 114 #[.pointer (some ⟨f,0,none⟩),.agg #[.bool q,.slice k e.length s],.agg #[.bool r,.slice l a.length m]] i λt p=>t=.returned (.bool false)/\(∃j,cB p b f o (L++j))/\Fr b w p:=by
 intro i g;refine (aDv b f o L i q r k l s m e a (A.drawn g) (y.fr ((Fr.refl _ _).drawn g)) (z.fr ((Fr.refl _ _).drawn g)) B G H v x).mono ?_;rintro t p ⟨F,I,rfl,E,C,⟨j,rfl⟩,u,J⟩;cases F with
 |true=>rw [D] at u;simp at u
 |false=>exact ⟨rfl,⟨j,E⟩,((Fr.refl _ _).drawn g).trans C⟩
theorem aPh(b f:Nat)(m:Value)(L r:bG)(w:World)(p q:Bool)(j k:Option Addr)(s l:Nat)(e a:List Nd)(C:cB w b f m L)(A:fV w b j e)(B:fV w b k a)(D:a.length<=l)(H:aQ e 1=true)(I:aQ a 1=true)(x:e.length<=60)(y:a.length<=60)(v:kA (p,e) (q,a) L=some r):∀i,(∃n,i=w.drewN n)->Calls zr 114 #[.pointer (some ⟨f,0,none⟩),.agg #[.bool p,.slice j e.length s],.agg #[.bool q,.slice k a.length l]] i λt o=>t=.returned (.bool true)/\cB o b f m r/\Fr b w o:=by
 intro i g;refine (aDv b f m L i p q j k s l e a (C.drawn g) (A.fr ((Fr.refl _ _).drawn g)) (B.fr ((Fr.refl _ _).drawn g)) D H I x y).mono ?_;rintro t o ⟨G,J,rfl,F,E,_,z,u⟩;cases G with
 |true=>
  have:=z rfl;rw [v] at this;simp at this;subst this;exact ⟨rfl,F,((Fr.refl _ _).drawn g).trans E⟩
 |false=>rw [v] at u;simp at u
theorem dD.take{B a e:Nat}(b:dD w B (some ⟨a,e,none⟩) c)(k:Nat):dD w B (some ⟨a,e,none⟩) (c.take k):=by
 refine ⟨by have:=b.few;simp;omega,λj f=>?_⟩;have g:j<c.length:=by simp at f;omega
 have:=b.cell j g;simpa using this
theorem dD.drop{g f e:Nat}(i:dD w g (some ⟨f,e,none⟩) c)(a:Nat):dD w g (some ⟨f,e+a*2,none⟩) (c.drop a):=by
 refine ⟨by have:=i.few;simp;omega,λb s=>?_⟩;have t:a+b<c.length:=by simp at s;omega
 obtain ⟨k,x,j,l,m,u,o,p,q,r⟩:=i.cell (a+b) t;obtain ⟨rfl,rfl⟩ : f=k/\e=x:=by simpa using m
 have v:(c.drop a)[b]=c[a+b]:=by simp
 rw [v];exact ⟨f,e+a*2,j,l,rfl,u,by rw [show e+a*2+b*2=e+(a+b)*2 by omega];exact o,by rw [show e+a*2+b*2+1=e+(a+b)*2+1 by omega];exact p,q,r⟩
theorem aGh(c:List Lt)(a:Nat)(f:a<c.length):∀b,b∈c↔b=c[a]\/b∈c.take a++c.drop (a+1):=by
 intro b;have e:c=c.take a++c[a]::c.drop (a+1):=by rw [<-List.drop_eq_getElem_cons f,List.take_append_drop]
 constructor
 ·intro hl;rw [e] at hl;rcases zu.1 hl with hl|hl
  ·exact zj (List.mem_append_left _ hl)
  ·rcases List.mem_cons.1 hl with hl|hl
   ·exact zo hl
   ·exact zj (List.mem_append_right _ hl)
 ·rintro (rfl|hl)
  ·exact zx _
  ·rcases zu.1 hl with hl|hl
   ·exact List.mem_of_mem_take hl
   ·exact List.mem_of_mem_drop hl
theorem aPi(n:Nat)(g8:aCi n):aCj (n+1):=by
 intro j C g4 J d L w e i b c p0 l3 o b0 a9 o5 e0 d9 o1;have j4:=aA (aVa j C g4 J d L w (some ⟨e,i,none⟩) b c o b0 a9 e0 d9 l3);have k8:=aA g8;have n8:=aA o;have f1:=aA b0;have c4:=aA a9;have c7:=aA e0;have f2:=aA d9;have o4:=a9.few;have o6:=b0.few;clear g8 o b0 a9 e0 d9;go_enter Tryz.func100,Tryz.ntmps100;go_wp2_with (go_at_call 112;refine (aD j4).mono ?_;rintro M r ⟨a,rfl,X,h9,d8⟩;have j9:=aA h9;have c5:=aA d8;have p2:=d8.size;clear h9 d8);have l6:(a:Int)<=(b:Int):=by omega
 have l7:(a:Int)+1<=(c.length:Int):=by omega
 have l8:(c.length:Int)<=(b:Int):=by omega
 have l9:(0:Int)<=(a:Int):=by omega
 have m0:(a:Int)+1<=(b:Int):=by omega
 have m1:(0:Int)<=(a:Int)+1:=by omega
 have m2:((a:Int)+1).toNat=a+1:=by omega
 have m8:IntKind.i64.wrap ((a:Int)+1)=(a:Int)+1:=by rw [IntKind.wrap_i64];omega
 obtain ⟨m,q,m4,h2⟩ : ∃m q,(if b=a+1 then some (⟨e,i,none⟩ : Addr) else some ⟨e,i+(a+1)*2,none⟩)=some ⟨m,q,none⟩/\dD r j (some ⟨m,q,none⟩) (c.drop (a+1)):=by
  by_cases a8:b=a+1
  ·have:c.drop (a+1)=[]:=List.drop_eq_nil_of_le (by omega);rw [this];exact ⟨e,i,aI a8,⟨by simp,λa X=>by simp at X⟩⟩
  ·exact ⟨e,i+(a+1)*2,aH a8,(c4.o.fr c5.o).drop (a+1)⟩
 have b4:aB r (r.alloc (.cells #[.slice (some ⟨e,i,none⟩) a b,.slice (some ⟨m,q,none⟩) (c.length-(a+1)) (b-(a+1))] 51)):=(Below.refl _ _).alloc (zs _) _;have U:=uL r (.slice (some ⟨e,i,none⟩) a b) (.slice (some ⟨m,q,none⟩) (c.length-(a+1)) (b-(a+1))) 51;have h7:(c.take a).length=a:=by simp;omega
 have h8:(c.drop (a+1)).length=c.length-(a+1):=by simp
 have j3:=aA (λwx (F:∃n,wx=(r.alloc (.cells #[.slice (some ⟨e,i,none⟩) a b,.slice (some ⟨m,q,none⟩) (c.length-(a+1)) (b-(a+1))] 51)).drewN n)=>
  bE9 j r.heap.size e i b m q (b-(a+1)) (c.take a) (c.drop (a+1)) wx (((((c4.o.fr c5.o).take a).fr (Fr.of_below b4)).fr ((Fr.refl _ _).drawn F))) ((h2.fr (Fr.of_below b4)).fr ((Fr.refl _ _).drawn F)) (by rw [h7];obtain ⟨n0,rfl⟩:=F;exact U.1) (by rw [h8];obtain ⟨n0,rfl⟩:=F;exact U.2))
 have p1:(c.take a++c.drop (a+1)).length+1=c.length:=by simp;omega
 have j5:=aA b4;have f8:=aA (c4.o.cell a X);have d0:=aA (f2.o c[a] (zx _));have Q:=aA (aGh c a X);have j8:aM (mP (c.take a++c.drop (a+1))):=aA (f2.o.of λs hl=>(aGh c a X s).2 (zj hl));generalize hrest:c.take a++c.drop (a+1)=rest at *;obtain ⟨c0,F⟩ : ∃c0,c0=c[a]:=⟨_,rfl⟩;rw [<-F] at f8 d0 Q;clear b4 U h7 h8 h2 hrest F;go_region_held3 (λ_=>True) (trivial) ((go_at_call 113;refine (aD j3 _ (by first|exact ⟨0,rfl⟩|exact ⟨1,rfl⟩|exact ⟨_,rfl⟩)).mono ?_;rintro M b9 ⟨q0,rfl,i3,S⟩;have j7:=aA S;replace S:=uM (W:=r.alloc (.cells #[.slice (some ⟨e,i,none⟩) a b,.slice (some ⟨m,q,none⟩) (c.length-(a+1)) (b-(a+1))] 51)) (by first|exact ⟨0,rfl⟩|exact ⟨1,rfl⟩|exact ⟨_,rfl⟩) S;have k7:=aA i3;have j6:=aA S;clear i3 S));have d2:aB r b9:=j5.o.trans (j6.o.mono (by simp));have h0:Below ((r.alloc (.cells #[.slice (some ⟨e,i,none⟩) a b,.slice (some ⟨m,q,none⟩) (c.length-(a+1)) (b-(a+1))] 51)).drew).heap.size ((r.alloc (.cells #[.slice (some ⟨e,i,none⟩) a b,.slice (some ⟨m,q,none⟩) (c.length-(a+1)) (b-(a+1))] 51)).drew) b9:=j7.o;obtain ⟨n2,n3,rfl,m5,g7,-⟩:=k7.o.lits h0 (by omega);have G:aM (Fr j w b9):=aA (c5.o.trans (Fr.of_below d2));have f4:=aA (j9.o.below d2);have k6:=aA g7;have o2:=f4.o.among;have p3:=(G.o).size;clear d2 h0 g7 m4 l6 l7 l8 l9 m0 m1 m2 m8;go_wp2;go_loopw [27] (λe3 wr=>∃g:Nat,g<=d.length/\e3=.int .i64 g/\cB wr j C (.slice g4 d.length J) L/\Fr j b9 wr/\(∀t∈d.take g,∀x,kA c0 t L=some x->¬gR d rest x)) (λe3 _=>d.length-(intOf e3).toNat);case atStart=>exact ⟨0,Nat.zero_le _,rfl,f4.o,Fr.refl _ _,by simp⟩
 case round=>
  obtain ⟨g,o7,rfl,o,N,a0⟩:=hrel;by_cases h6:g<d.length
  ·obtain ⟨a7,b6,u,v,rfl,m6,n6,n7,a4,d5⟩:=((f1.o.fr G.o).fr N).cell g h6;obtain ⟨E,a3⟩:=c7.o d[g] (zx _);obtain ⟨l2,n1,e9,f0,g5,b5,e5,j0,m9,g9⟩:=f8.o;obtain ⟨rfl,rfl⟩ : e=l2/\i=n1:=by simpa using g5
   have R:=G.o.trans N;have c1:=R.cell e5 b5;have e7:=R.cell j0 b5;have d4:=g9.fr R;have i4:=b5.fr (zy w _ e5) R;obtain ⟨D,a2⟩:=d0.o;obtain ⟨n9,o0,h1⟩:=o.len;have o9:(L.length:Int)<=60:=by have:=o.ok.few;omega
   have a1:d.take (g+1)=d.take g++[d[g]]:=List.take_succ_eq_append_getElem h6;have i7:d[g]∈d:=zx _;have o8:(a:Int)<(c.length:Int):=by omega
   generalize d[g]=t at *;obtain ⟨k,l⟩:=t;obtain ⟨z,A⟩:=c0;simp only at n6 n7 E a3 d5 a4 c1 e7 d4 D a2 m9;have p:aB wr (wr.alloc (.cells #[.bool k,.slice u l.length v] 86)):=(Below.refl _ _).alloc (zs _) _;have U:=uL wr (.bool k) (.slice u l.length v) 86;have i5:=aAt (w:=wr) (B:=j) #[.bool k,.slice u l.length v] 86 (by decide) (by decide);have i6:lX (wr.alloc (.cells #[.bool k,.slice u l.length v] 86)) j e:=i4.fr (zy wr _ c1) (Fr.of_below p);have e6:=aC p c1;have e8:=aC p e7;have o3:=aC p h1;obtain ⟨d6,d7⟩:=U;have b1:=o.below p;have b2:=d4.fr (Fr.of_below p);have b3:=d5.fr (Fr.of_below p);have P:=aA (N.trans (Fr.of_below p));have f5:=aA a0;have f6:=aA a1;have k9:=aA i7;have H:=aA i5;have I:=aA i6;have p5:=(P.o).size;clear a0 a1 i7 o N R i4 b5 m6 i5 i6 g9 d4 d5 e5 j0 g5 c1 e7 h1;cases hml:kA (z,A) (k,l) L with
   |none=>
    have c3:=aA (aPg j C (.slice (some ⟨a7,b6,none⟩) d.length J) L _ z k e9 u f0 v A l b1 b2 b3 a4 D E a2 a3 hml);have a6:=aA hml;clear b1 b2 b3 hml a4 E a3 D a2 p;go_wp2_with fail;generalize hWI:wr.alloc (.cells #[.bool k,.slice u l.length v] 86)=WI at *;clear hWI;first|go_region_with (go_at_call 114;refine (aD c3 _ (by first|exact ⟨0,rfl⟩|exact ⟨1,rfl⟩|exact ⟨_,rfl⟩)).mono ?_;rintro M e4 ⟨rfl,⟨l1,Y⟩,f⟩;have g0:=f.cell e6 I.o;have g1:=f.cell e8 I.o;have g2:=f.cell d6 H.o;have g3:=f.cell d7 H.o;have c2:=aA (aDw j C _ L l1 e4 Y);have a5:=aA (P.o.trans f);clear Y f)|fail
    all_goals
     go_wp2_with (go_at_call 115;refine (aD c2).mono ?_;rintro M n5 ⟨rfl,Z,V⟩;have c9:=aA Z;have c6:=aA (a5.o.trans V);clear Z V);go_roundw;case rel=>exact ⟨g+1,by omega,by go_num,c9.o,c6.o,by
      intro t hy x y;rw [f6.o] at hy;rcases zu.1 hy with hy|hy
      ·exact f5.o t hy x y
      ·simp at hy;subst hy;rw [a6.o] at y;simp at y⟩
     case measure=>simp [intOf];omega
   |some L1=>
    have c3:=aA (aPh j C (.slice (some ⟨a7,b6,none⟩) d.length J) L L1 _ z k e9 u f0 v A l b1 b2 b3 a4 D E a2 a3 hml);obtain ⟨d1,g6,h5⟩:=aXx (x:=(z,A)) (y:=(k,l)) D E hml;have a6:=aA hml;have c8:=aA g6;have f7:=aA (And.intro D E);have f3:=aA h5;clear b1 b2 b3 hml a4 E a3 D a2 p g6 h5;go_wp2_with fail;generalize hWI:wr.alloc (.cells #[.bool k,.slice u l.length v] 86)=WI at *;clear hWI;go_region_held3 (λb8=>b8.cell? ⟨e,i+a*2,none⟩=some (.bool z)/\b8.cell? ⟨e,i+a*2+1,none⟩=some (.slice e9 A.length f0)/\b8.cell? ⟨wr.heap.size,0,none⟩=some (.bool k)/\b8.cell? ⟨wr.heap.size,1,none⟩=some (.slice u l.length v)) (go_keep)
     (first
      |(go_at_call 114;refine (aD c3 _ (by first|exact ⟨0,rfl⟩|exact ⟨1,rfl⟩|exact ⟨_,rfl⟩)).mono ?_;rintro M e4 ⟨rfl,Y,f⟩;have g0:=f.cell e6 I.o;have g1:=f.cell e8 I.o;have g2:=f.cell d6 H.o;have g3:=f.cell d7 H.o;have p4:=f.size;have j2:=aA (k8.o j C (some ⟨a7,b6,none⟩) J d L1 e4 n2 n3 rest (by omega) Y (((f1.o.fr G.o).fr P.o).fr f) ((k6.o.fr P.o).fr f) m5 c7.o j8.o (by omega));have B:=aA f;clear Y f)
      |(go_at_call 80;refine (aD j2).mono ?_;rintro M n4 ⟨b7,l0,rfl,e1,O,⟨f9,d3⟩,i1,i2⟩;have p6:=O.cell g0 (I.o.fr (zy _ _ e6) B.o);have p7:=O.cell g1 (I.o.fr (zy _ _ e8) B.o);have p8:=O.cell g2 (H.o.fr (zy _ _ d6) B.o);have p9:=O.cell g3 (H.o.fr (zy _ _ d7) B.o);have c2:=aA (aDw j C (.slice (some ⟨a7,b6,none⟩) d.length J) L (d1++f9) n4 (by rw [<-List.append_assoc,<-c8.o,<-d3];exact e1));have k2:=aA e1;have a5:=aA ((P.o.trans B.o).trans O);have k4:=aA i1;have k5:=aA i2;have k0:=aA d3;clear e1 O i1 i2 d3))
    go_wp2_with (go_at_call 115;refine (aD c2).mono ?_;rintro M n5 ⟨rfl,Z,V⟩;have c9:=aA Z;have c6:=aA (a5.o.trans V);clear Z V)
    ·have e2:b7=true:=by first|assumption|(cases b7<;>simp_all)
     subst e2;go_ret;obtain ⟨h4,m3⟩:=k4.o rfl;have m7:=aEl (x:=(z,A)) (y:=(k,l)) f7.o.1 f7.o.2 a6.o;refine ⟨true,l0,rfl,k2.o,G.o.trans a5.o,⟨d1++f9,by rw [k0.o,c8.o];simp⟩,λ_=>⟨?_,?_⟩,by simp⟩
     ·refine kR.trans (c:=[(z,A)]) ⟨d1,c8.o,λi9 i0=>⟨⟨(z,A),by simp,(f3.o i9 i0).1⟩,(f3.o i9 i0).2⟩⟩ h4 (λs hl=>?_) (λs hl=>(Q.o s).2 (zj hl));simp at hl;rw [hl];exact (Q.o _).2 (zo rfl)
     ·intro j1 i8 h3 s hl;rcases (Q.o s).1 hl with rfl|hl
      ·rw [((m7 j1 i8).1 (h4.ext h3)).2];exact k9.o
      ·exact m3 j1 i8 h3 s hl
    ·have e2:b7=false:=by first|assumption|(cases b7<;>simp_all)
     subst e2;go_roundw;case rel=>exact ⟨g+1,by omega,by go_num,c9.o,c6.o,by
      intro t hy x y;rw [f6.o] at hy;rcases zu.1 hy with hy|hy
      ·exact f5.o t hy x y
      ·simp at hy;subst hy;rw [a6.o] at y;simp at y;subst y;exact k5.o rfl⟩
     case measure=>simp [intOf];omega
  ·have a1:d.take g=d:=List.take_of_length_le (by omega);rw [a1] at a0;have k1:=aA o;have B:=aA N;have k3:aM (¬gR d c L):=aA (by
    intro l5;obtain ⟨t,hy,x,a8,l4⟩:=(aXy (λs hl=>(c7.o s hl).1) d0.o.1 Q.o).1 l5;exact a0 t hy x a8 l4)
   clear a1 a0 o N;go_wp2;go_ret;exact ⟨false,L,rfl,k1.o,G.o.trans B.o,⟨[],by simp⟩,by simp,λ_=>k3.o⟩
theorem aGi:∀n,aCj n
 |0=>λa i f g d L w b l e c k j=>by omega
 |n+1=>aPi n (aGg n (aGi n))
theorem aPj(n:Nat):aCi n:=aGg n (aGi n)
theorem cB.new(w:World)(a:Value):cB (w.alloc (.cells (iV a) 136)) w.heap.size w.heap.size a []:=by
 have f:(w.alloc (.cells (iV a) 136)).heap[w.heap.size]?=some (.cells (iV a) 136):=heap_alloc_new w _;have b:∀e,(w.alloc (.cells (iV a) 136)).cell? ⟨w.heap.size,e,none⟩=(iV a)[e]?:=λe=>by unfold World.cell?;simp only [f];rfl
 refine ⟨zs _,⟨_,f⟩,by rw [b];exact aMt a,λg i=>⟨_,by rw [b];exact aFi a g (by omega),rfl⟩,⟨.slice none 0 0,by rw [b];exact aFi a 60 (by omega),World.ownsRow_nil _ _ _ _⟩,mT.nil⟩
theorem aGj(a:aY c=true):mP c/\c.length<=8:=by simp only [aY,zw,bP,decide_eq_true_eq,zz] at a;exact ⟨λe b=>aLp (a.1.2 e b),a.1.1.1⟩
theorem dD.of{b:Option Addr}(h:cH w b c)(v:aB5 w b c)(u:c.length<=8)(x:mP c):dD w w.heap.size b c:=by
 refine ⟨u,λa o=>?_⟩;obtain ⟨g,r,f,i,j,k,l,m⟩:=h.cell a o;refine ⟨g,r,f,i,j,zo (zy w _ k),k,l,v a o g r f _ i j l,m,λp z=>?_⟩;have y:=aXt (q:=0) (x c[a] (zx _)).1;have s:0<c[a].2.length:=by
  rcases Nat.eq_zero_or_pos c[a].2.length with h|h
  ·exact absurd (zt h) y
  ·exact h
 obtain ⟨A,B,e,t,_⟩:=m.cell 0 s;rw [z] at e;simp at e;rw [e];exact zy w _ t
theorem aPk(l e:Option Addr)(o g:Nat)(b a:List Lt)(w:World)(i:cH w l b)(j:cH w e a)(F:aB5 w l b)(G:aB5 w e a)(U:b.length<=o)(D:aY b=true)(E:aY a=true):Calls zr 51 #[.slice l b.length o,.slice e a.length g] w λs a0=>∃k:Bool,s=.returned (.bool k)/\(k=true↔b.length<=a.length/\gR a b [])/\aB w a0:=by
 obtain ⟨t,Y⟩:=aGj D;obtain ⟨u,Z⟩:=aGj E;have q:=aA t;have r:=aA u;have J:=aA i;have M:=aA j;have R:=aA F;have S:=aA G;clear D E t u i j F G;go_enter Tryz.func51,Tryz.ntmps51;go_upto_region 1 with (fail);apply wp_region_lit;refine bB1 rfl rfl rfl rfl _ _ _ _ rfl rfl rfl rfl e a.length g rfl (by rfl) (by rfl) (by rfl) ?_;have v:=dD.of J.o R.o Y q.o;have x:=dD.of M.o S.o Z r.o;have m:aB w (w.alloc (.cells (iV (.slice e a.length g)) 136)):=(Below.refl _ _).alloc (zs _) _;have p:=aA m;have I:=aA (aPj b.length w.heap.size w.heap.size e g a [] _ l o b (zs _) (cB.new w (.slice e a.length g)) (x.fr (Fr.of_below m)) (v.fr (Fr.of_below m)) U r.o q.o (by simp));clear v x m;by_cases z:b.length<=a.length
 ·have W:(b.length:Int)<=(a.length:Int):=by omega
  go_wp2_with (go_at_call 80;refine (aD I).mono ?_;rintro s a3 ⟨k,a1,rfl,A,y,-,B,C⟩;have O:=aA A;have N:=aA (p.o.trans ((y.below (by simp)).mono (zs _)));have P:=aA B;have Q:=aA C;clear A y B C);go_ret;refine ⟨k,rfl,?_,N.o⟩;cases k with
  |true=>
   obtain ⟨V,X⟩:=P.o rfl;refine ⟨λ_=>⟨z,?_⟩,λ_=>rfl⟩;obtain ⟨H,i,j,_⟩:=aY1 (d:=a) O.o.ok.look;exact ⟨H,i,V.ext j,X H i j⟩
  |false=>exact ⟨λf=>by simp at f,λf=>absurd f.2 (Q.o rfl)⟩
 ·have W:decide ((b.length:Int)<=(a.length:Int))=false:=by rw [decide_eq_false_iff_not];omega
  have a2:(a.length:Int)<(b.length:Int):=by omega
  go_wp2;go_ret;exact ⟨false,rfl,⟨λf=>by simp at f,λf=>absurd f.1 z⟩,p.o⟩
theorem aPl(i:Nat)(b e:Option Addr)(f g:Nat)(c d:List Lt)(w:World)(r:bR i w (.slice b c.length f) c)(s:bR i w (.slice e d.length g) d)(j:aY c=true)(k:aY d=true):Calls zr 51 #[.slice b c.length f,.slice e d.length g] w λa l=>a=.returned (.bool (bE c d))/\aB w l:=by
 obtain ⟨x,z,a,u,p,m⟩:=r.lits (lF j);cases a;obtain ⟨y,A,a,B,q,o⟩:=s.lits (lF k);cases a;refine (aPk b e f g c d w p q m o u j k).mono ?_;rintro a l ⟨C,rfl,v,t⟩;exact ⟨by rw [aOp v],t⟩
theorem xV(k:aY c=true)(l:aY d=true):kG c d:=λa b e f g w i j=>aPl a b e f g c d w i j k l
theorem aPm{i:Int->List Nd}(f:Tm i):∀(e:List Nd) (b:Nat),aQ e b=true->aQ (subst i e) b=true:=by
 intro e b g;refine aFw _ b (bAx e b (λn _ _=>aMr (f n.2)) (aMr g)) λn a=>?_
 unfold subst at a;obtain ⟨k,j,a⟩:=zi.1 a;split at a
 ·exact xA (f k.2) n a
 ·simp at a;subst a;exact xA g n j
theorem aPn(l:aY c=true):gR c c []:=by
 have r:Tm λa=>if 0<=a/\a<60 then [(⟨#[]⟩,a)] else [(⟨#[]⟩,0)]:=by
  intro a;simp only;have k:∀b:Int,0<=b->b<60->aQ [((⟨#[]⟩ : ByteArray),b)] 1=true:=by intro b m o;have f:=pW b;rw [mS];unfold cZ;rw [aI f,jS f];simp [aQ,m,o]
  split
  ·rename_i g;exact k a g.1 g.2
  ·exact k 0 (by omega) (by omega)
 refine ⟨_,r,λa s g=>by simp [look] at g,λi j=>?_⟩;have p:=(lF l).term i j;have:subst (λa=>if 0<=a/\a<60 then [(⟨#[]⟩,a)] else [(⟨#[]⟩,0)]) i.2=i.2:=by
  rw [aLr (τ:=λb=>[(⟨#[]⟩,b)]) λn q f=>?_]
  ·exact bAw i.2
  ·have e:=xA p.1 n q;unfold cZ at e;rw [aI f] at e;simp at e;rw [aI e]
 rw [this];exact j
theorem aPo{b e f:List Lt}(g:gR e b [])(k:gR f e []):gR f b []:=by obtain ⟨r,m,_,o⟩:=g;obtain ⟨s,p,_,q⟩:=k;refine ⟨λa=>subst s (r a),λa=>aPm p _ 1 (m a),λa t j=>by simp [look] at j,λl i=>?_⟩;rw [<-bCw];exact q _ (o l i)
theorem bH.push{x:aL×Int}{g:List (aL×Int)}{L':List Cd}{f:Nat}{b e:Bool}(a:bH (x::g) L n b L' f e)(k:x.2=0)(l:bP x.1.c=true)(m:eR x.1.c=false):∃i j,bH g (iJ L.length (L++[eD x.1 i j n]) L.length) (n+1) b L' f e:=by unfold bH at a;rw [aH (by simp [k,l]),aH (by simp [m])] at a;exact a
theorem aPp:sG pN:=⟨by kernel_rfl,by kernel_rfl⟩
def mI(c:List Lt):Bool:=c.all λa=>match a.2 with|[n]=>!aK n && aX n==0|_=>false
theorem xW(e:mI c=true){a:Lt}(f:a∈c):∃n,a.2=[n]/\sG n:=by
 have:=zz.1 e a f;split at this
 ·rename_i n b;simp at this;exact ⟨n,b,this.1,this.2⟩
 ·cases this
def xX(c d:List Lt):Bool:=decide (c.length<=d.length) && c.all λa=>d.any λb=>decide (b=a)
theorem aGk{a:Lt}:(d.any λb=>decide (b=a))=true↔a∈d:=by
 rw [zq];constructor
 ·rintro ⟨b,g,e⟩;have:=of_decide_eq_true e;subst this;exact g
 ·intro f;exact ⟨a,f,fA rfl⟩
theorem aCk(i:mI c=true):bE c d=xX c d:=by
 refine (aOp ?_).symm;unfold xX;rw [zw,decide_eq_true_eq,zz];refine and_congr Iff.rfl ⟨λf=>?_,λ⟨k,_,_,f⟩ e b=>?_⟩
 ·refine ⟨λ_=>[(⟨#[]⟩,0)],λ_=>by kernel_rfl,λm l j=>by simp [look] at j,λe b=>?_⟩;obtain ⟨n,a,g⟩:=xW i b;have:=aGk.1 (f e b);rw [a,oB];simp only [g.1,zn,if_false];rw [show ([n]++subst _ []:List Nd)=e.2 by rw [a];rfl];exact this
 ·obtain ⟨n,a,g⟩:=xW i b;have:=f e b;rw [a,oB] at this;simp only [g.1,zn,if_false] at this;rw [show ([n]++subst k []:List Nd)=e.2 by rw [a];rfl] at this;exact aGk.2 this
theorem aGl{a:Nat×Nat}(b:a∈fJ c d):a.1<c.length/\a.2<d.length/\iZ c a.1=iZ d a.2:=by obtain ⟨q,r⟩:=a;obtain ⟨k,m,j⟩:=List.getElem_of_mem b;have e:=aFr (k:=k) (by rw [zv m,j]);unfold fJ lP at b;obtain ⟨o,_,f⟩:=zi.1 b;unfold kZ at f;obtain ⟨p,l,g⟩:=List.mem_map.1 f;have i:=(List.mem_filter.1 l).2;simp at g i;obtain ⟨rfl,rfl⟩:=g;exact ⟨e.1,e.2,i⟩
theorem aGm(k:mI c=true)(l:mI d=true){b e:Nat}(i:b<c.length)(j:e<d.length)(a:iZ c b=iZ d e):∃n,c[b].2=[n]/\d[e].2=[n]/\sG n:=by obtain ⟨n,f,m⟩:=xW k (zx i);obtain ⟨o,g,_⟩:=xW l (zx j);unfold iZ at a;rw [zv i,zv j] at a;simp [f,g] at a;subst a;exact ⟨n,f,g,m⟩
theorem aCl(f:mI c=true)(k:Int)(j:Nat):∀e∈(c.eraseIdx j).map (λa=>(k,a)),∃b,e.2.2=[b]/\sG b:=by intro e i;obtain ⟨a,g,rfl⟩:=List.mem_map.1 i;exact xW f (List.mem_of_mem_eraseIdx g)
def aCm(c:List Lt)(b:Nat)(d:List Lt)(e:Nat)(a:Nat×Nat):Option (aL×Int):=if gL c a.1≠gL d a.2 then some (⟨2,b,e,a.1,a.2,aV (c.eraseIdx a.1++d.eraseIdx a.2)⟩,0) else none
def aCn(c:List Lt)(b:Nat)(a:Nat×Nat):Option (aL×Int):=if a.1<a.2/\gL c a.1=gL c a.2 then some (⟨3,b,0,a.1,a.2,aV (c.eraseIdx a.2)⟩,0) else none
def aGn(c d:List Lt):Bool:=(fJ c d).all λa=>decide (aS (aV (c.eraseIdx a.1++d.eraseIdx a.2))<=500)
def aGo(c:List Lt):Bool:=(fJ c c).all λa=>decide (aS (aV (c.eraseIdx a.2))<=500)
theorem aCo{f j:Type}{b e:f->Option j}:∀(a:List f),(∀x∈a,b x=e x)->a.filterMap b=a.filterMap e
 |[],_=>rfl
 |x::a,h=>by rw [zp,zp,h x (by simp),aCo a λi g=>h i (by simp [g])]
theorem aPq(e f:Nat)(g:mI c=true)(i:mI d=true)(x:aGn c d=true):gM c e d f=(fJ c d).filterMap (aCm c e d f):=by
 unfold gM;refine aCo _ λa m=>?_
 obtain ⟨j,k,u⟩:=aGl m;obtain ⟨n,p,q,v⟩:=aGm g i j k u;have t:=of_decide_eq_true (zz.1 x a m);have hr:bB 0 [(c,a.1),(d,a.2)]=(c.eraseIdx a.1).map (λb=>((0:Int),b))++(d.eraseIdx a.2).map (λb=>((1:Int),b)):=by simp [bB]
 have l:(bB 0 [(c,a.1),(d,a.2)]).map Prod.snd=c.eraseIdx a.1++d.eraseIdx a.2:=by
  rw [hr,List.map_append,zl,zl];congr 1
  ·exact zh _
  ·exact zh _
 have r:eH (aN 0 c[a.1].2++aN 1 d[a.2].2) 0 c[a.1].2.length (bB 0 [(c,a.1),(d,a.2)]) (aV (c.eraseIdx a.1++d.eraseIdx a.2)) true 0:=by
  have:=aBx v 0 1 (bB 0 [(c,a.1),(d,a.2)]) (by
   rw [hr];intro o hr;rcases zu.1 hr with hr|hr
   ·exact aCl g 0 _ o hr
   ·exact aCl i 1 _ o hr) (by rw [l];exact t)
  rw [l] at this;rw [p,q];exact this
 have s:=aNi j k r;unfold mZ aCm;rw [s];simp
theorem aPr(e:Nat)(b:mI c=true)(t:aGo c=true):mD c e=(fJ c c).filterMap (aCn c e):=by
 unfold mD;refine aCo _ λa j=>?_
 obtain ⟨f,g,r⟩:=aGl j;obtain ⟨n,l,m,s⟩:=aGm b b f g r;have q:=of_decide_eq_true (zz.1 t a j);have k:bB 0 [(c,a.2)]=(c.eraseIdx a.2).map (λu=>((0:Int),u)):=by simp [bB]
 have i:(bB 0 [(c,a.2)]).map Prod.snd=c.eraseIdx a.2:=by rw [k,zl];exact zh _
 have o:eH (aN 0 c[a.1].2++aN 0 c[a.2].2) 0 c[a.1].2.length (bB 0 [(c,a.2)]) (aV (c.eraseIdx a.2)) true 0:=by have:=aBx s 0 0 (bB 0 [(c,a.2)]) (by rw [k];exact aCl b 0 _) (by rw [i];exact q);rw [i] at this;rw [l,m];exact this
 have p:=aNh f g o;unfold mC aCn;rw [p];simp
def aCp(cs:List (List Lt))(a:Nat)(e:List Nat):List (aL×Int):=(fJ (cs.getD a []) (cs.getD a [])).filterMap (aCn (cs.getD a []) a)++e.flatMap λb=>(fJ (cs.getD a []) (cs.getD b [])).filterMap (aCm (cs.getD a []) a (cs.getD b []) b)
def okF(cs:List (List Lt))(a:Nat)(e:List Nat):Bool:=mI (cs.getD a []) && aGo (cs.getD a []) && e.all λb=>mI (cs.getD b []) && aGn (cs.getD a []) (cs.getD b [])
theorem aGp{f j:Type}{b e:f->List j}:∀(a:List f),(∀x∈a,b x=e x)->a.flatMap b=a.flatMap e
 |[],_=>rfl
 |x::a,h=>by rw [zk,zk,h x (by simp),aGp a λi g=>h i (by simp [g])]
theorem aPs{a:Nat}{g:List Nat}(j:∀k,aF T k=cs.getD k [])(e:okF cs a g=true):dU T a g=aCp cs a g:=by
 unfold okF at e;rw [zw,zw,zz] at e;obtain ⟨⟨i,l⟩,m⟩:=e;unfold dU aCp;rw [j a,aPr a i l];congr 1
 refine aGp _ λb o=>?_
 have f:=m b o;rw [zw] at f;rw [j b,aPq a b i f.1 f.2]
def aCr(cs:List (List Lt))(ks:List Nat)(c:List Lt):List Nat:=(ks.filter λa=>!xX c (cs.getD a []))++[cs.length]
theorem aPt(e:∀a,aF T a=cs.getD a [])(f:T.length=cs.length)(b:mI c=true):bZ T ks c=aCr cs ks c:=by
 unfold bZ aCr;rw [f];congr 2
 funext a
 rw [e,aCk b]
theorem aGq(g:∀a,aF T a=cs.getD a [])(e:ks.all (λa=>mI (cs.getD a []))=true):(λc=>ks.any λa=>bE (aF T a) c)=λc=>ks.any λa=>xX (cs.getD a []) c:=by
 funext c
 rw [Bool.eq_iff_iff,zq,zq];constructor
 ·rintro ⟨a,b,f⟩;refine ⟨a,b,?_⟩;rwa [g,aCk (zz.1 e a b)] at f
 ·rintro ⟨a,b,f⟩;refine ⟨a,b,?_⟩;rwa [g,aCk (zz.1 e a b)]
theorem xY(T:List (aL×Value))(a:Nat):aF T a=(T.map λb=>b.1.c).getD a []:=by unfold aF;rw [List.getD_eq_getElem?_getD,List.getElem?_map]
theorem cL.takeF{k:Nat}{m:Nat->List (aL×Value)->List Nat->Bool->Prop}{L':List Cd}{ks':List Nat}{o:Bool}{x:Cd}{F:List (aL×Int)}(cs:List (List Lt))(a:aL)(J:tP x a.r a.a a.b a.i a.j/\x.c=a.c)(i:(T.map λQ=>Q.1.c)=cs)(B:(∀x∈L,aY x.c=true))(E:ks.all (λb=>aY (cs.getD b []) && mI (cs.getD b []))=true)(M:aY a.c=true)(N:mI a.c=true)
  (t:eI (λc=>ks.any λb=>xX (cs.getD b []) c) L.length L=some (x,L')) (A:a.c≠[]) (G:T.length≠k) (e:aCr cs ks a.c=ks') (I:okF (cs++[a.c]) cs.length ks'=true) (u:aCp (cs++[a.c]) cs.length ks'=F)
  (v:F.all (λf=>decide (f.2=0) && aY f.1.c)=true) (z:∀f∈F,jG f.1.c) (y:L'.length+F.length<=1000000) (H:n+F.length<=1000000)
  (P:∀l s p,bH F L' n o l s p->cL k m l s (T++[(a,.slice x.ad x.ln x.cp)]) ks' p):cL k m L n T ks o:=by
 have g:∀b,aF T b=cs.getD b []:=λb=>by rw [xY,i]
 have q:T.length=cs.length:=by rw [<-i];simp
 have j:=zz.1 E;have D:bZ T ks a.c=ks':=by rw [aPt g q N,e]
 have C:dU (T++[(a,.slice x.ad x.ln x.cp)]) T.length ks'=F:=by rw [q,aPs (cs:=cs++[a.c]) (λb=>by rw [xY,List.map_append,i];rfl) I,u]
 refine cL.take a J (λx O b e=>?_) (by rw [aGq g (zz.2 λb e=>(zw _ _▸j b e).2)];exact t) A G (λb e=>?_) ?_ ?_ ?_ ?_
 ·rw [g];exact xV (zw _ _▸j b e).1 (B x O)
 ·rw [g];exact xV M (zw _ _▸j b e).1
 all_goals rw [D,C]
 ·intro f r;have:=zz.1 v f r;rw [zw] at this;exact ⟨z f r,λ_ _=>this.2⟩
 ·exact y
 ·exact H
 ·exact P
theorem aGr{f:List Pl}(g:∀j∈f,j.2.1=true/\j.2.2.1=0):∀e a,¬oT f e a:=by
 intro e a;unfold oT aAz;have b:=g f[e] (zx a);rintro (h2|⟨k,hk,_,h3⟩)
 ·rw [b.2] at h2;omega
 ·have i:=g _ (zx (Nat.lt_trans hk a));rcases h3 with h3|h3
  ·exact h3 (i.1.trans b.1.symm)
  ·exact h3 (i.2.trans b.2.symm)
theorem aGs{cs:List (Nat×List Lt)}(g:cs.length<=40)(e:cs.all (λf=>bP (aV f.2))=true):∀b a,¬qJ cs b a:=by
 intro b a;unfold qJ;rintro (h1|h1)
 ·omega
 ·have:=zz.1 e _ (zx a);rw [h1] at this;cases this
def qN:Nd:=(⟨#[113]⟩,0)
def cQ:List Lt:=[(false,[qN])]
def oJ:List Lt:=[(true,[qN])]
def kH:List Lt:=[(true,[pN]),(false,[qN])]
abbrev zY:ByteArray:=⟨#[112,46,32,126,112,32,124,32,113,46,32,126,113,46]⟩
abbrev aCs:ByteArray:=⟨#[112,46,32,126,112,32,124,32,113,46]⟩
theorem aPu:uQ zY=.ok (⟨10,[],[(⟨#[112]⟩,true,0,0),(⟨#[112]⟩,true,0,4),(⟨#[113]⟩,true,0,8),(⟨#[113]⟩,true,0,12)]⟩,[(0,[(false,[pN])]),(3,[(true,[pN]),(false,[qN])]),(11,[(true,[qN])])]):=by kernel_rfl
theorem aPv:uQ aCs=.ok (⟨7,[],[(⟨#[112]⟩,true,0,0),(⟨#[112]⟩,true,0,4),(⟨#[113]⟩,true,0,8)]⟩,[(0,[(false,[pN])]),(3,[(true,[pN]),(false,[qN])])]):=by kernel_rfl
theorem zZ{e:List (List Lt)}{a b:Int}(f:nF zY e a b):e=[cP,kH,oJ]/\a=0/\b=0:=by have:=aNu f (by decide) aPu (aGr (by simp)) (aGs (by decide) (by kernel_rfl));rw [show [cP,kH,oJ]=[(0,[(false,[pN])]),(3,[(true,[pN]),(false,[qN])]),(11,[(true,[qN])])].map (λp:Nat×List Lt=>aV p.2) by kernel_rfl];exact this
theorem aGt{e:List (List Lt)}{a b:Int}(f:nF aCs e a b):e=[cP,kH]/\a=0/\b=0:=by have:=aNu f (by decide) aPv (aGr (by simp)) (aGs (by decide) (by kernel_rfl));rw [show [cP,kH]=[(0,[(false,[pN])]),(3,[(true,[pN]),(false,[qN])])].map (λp:Nat×List Lt=>aV p.2) by kernel_rfl];exact this
def lC:aL:=⟨1,0,0,0,0,cP⟩
def jI:aL:=⟨1,1,0,0,0,kH⟩
def oK:aL:=⟨1,2,0,0,0,oJ⟩
def pG:aL:=⟨2,2,0,0,0,cQ⟩
def xZ:aL:=⟨2,2,1,1,0,cNp⟩
def pH:aL:=⟨2,3,1,0,0,[]⟩
def yA:aL:=⟨2,1,0,0,0,cQ⟩
theorem aPw(e:aY c=true):jG c:=by have n:=lF e;refine ⟨by have:=n.len;omega,λb a=>⟨by have:=(n.term b a).2;omega,λg f=>?_⟩⟩;have:=aDq (aDr _ _ (n.term b a).1 _ (zx f));omega
theorem aCt{F:List (aL×Int)}(b:F.all (λa=>decide (a.2=0) && aY a.1.c)=true):∀a∈F,jG a.1.c:=λa e=>by
 have:=zz.1 b a e;rw [zw] at this;exact aPw this.2
def yB(b:Nat)(T:List (aL×Value))(_:List Nat)(a:Bool):Prop:=b=1/\T.map Prod.fst=[lC,oK,jI,pG,pH]/\a=false
def aA0(b:Nat)(_:List (aL×Value))(_:List Nat)(a:Bool):Prop:=b=2/\a=false
theorem aPx(a:bH (gN [cP,kH,oJ]) [] 0 false L n false):cL 100 yB L n [] [] false:=by
 have z:gN [cP,kH,oJ]=[(lC,0),(jI,0),(oK,0)]:=rfl;rw [z] at a;obtain ⟨q,t,a⟩:=a.push rfl (by kernel_rfl) (by kernel_rfl);obtain ⟨e,g,a⟩:=a.push rfl (by kernel_rfl) (by kernel_rfl);obtain ⟨l,o,a⟩:=a.push rfl (by kernel_rfl) (by kernel_rfl);obtain ⟨rfl,rfl,_⟩:=a;refine (show ∀L n,L=[eD lC q t 0,eD jI e g 1,eD oK l o 2]->n=3->cL 100 yB L n [] [] false from ?_) _ _ (by kernel_rfl) rfl;rintro L n rfl rfl;refine cL.takeF [] lC (x:=eD lC q t 0) (L':=[eD oK l o 2,eD jI e g 1]) (ks':=[0]) (F:=[]) ⟨⟨rfl,rfl,rfl,rfl,rfl⟩,rfl⟩ rfl ?_ rfl (by kernel_rfl) (by kernel_rfl) (by kernel_rfl) (by simp [lC,cP]) (by decide) (by kernel_rfl) (by kernel_rfl) (by kernel_rfl) rfl (by simp) (by simp) (by simp) ?_
 ·intro x b;simp at b;rcases b with rfl|rfl|rfl<;>kernel_rfl
 rintro j p m ⟨rfl,rfl,rfl⟩;refine cL.takeF [cP] oK (x:=eD oK l o 2) (L':=[eD jI e g 1]) (ks':=[0,1]) (F:=[]) ⟨⟨rfl,rfl,rfl,rfl,rfl⟩,rfl⟩ rfl ?_ (by kernel_rfl) (by kernel_rfl) (by kernel_rfl) (by kernel_rfl) (by simp [oK,oJ]) (by simp) (by kernel_rfl) (by kernel_rfl) (by kernel_rfl) rfl (by simp) (by simp) (by simp) ?_
 ·intro x b;simp at b;rcases b with rfl|rfl<;>kernel_rfl
 rintro j p m ⟨rfl,rfl,rfl⟩;refine cL.takeF [cP,oJ] jI (x:=eD jI e g 1) (L':=[]) (ks':=[0,1,2]) (F:=[(pG,0),(xZ,0)]) ⟨⟨rfl,rfl,rfl,rfl,rfl⟩,rfl⟩ rfl ?_ (by kernel_rfl) (by kernel_rfl) (by kernel_rfl) (by kernel_rfl) (by simp [jI,kH]) (by simp) (by kernel_rfl) (by kernel_rfl) (by kernel_rfl) (by kernel_rfl) (aCt (by kernel_rfl)) (by simp) (by simp) ?_
 ·intro x b;simp at b;subst b;kernel_rfl
 intro j p m a;obtain ⟨r,u,a⟩:=a.push rfl (by kernel_rfl) (by kernel_rfl);obtain ⟨f,i,a⟩:=a.push rfl (by kernel_rfl) (by kernel_rfl);obtain ⟨rfl,rfl,rfl⟩:=a;refine (show ∀L n,L=[eD pG r u 3,eD xZ f i 4]->n=5->cL 100 yB L n _ _ _ from ?_) _ _ (by kernel_rfl) rfl;rintro L n rfl rfl;refine cL.takeF [cP,oJ,kH] pG (x:=eD pG r u 3) (L':=[eD xZ f i 4]) (ks':=[0,1,3]) (F:=[(pH,0)]) ⟨⟨rfl,rfl,rfl,rfl,rfl⟩,rfl⟩ rfl ?_ (by kernel_rfl) (by kernel_rfl) (by kernel_rfl) (by kernel_rfl) (by simp [pG,cQ]) (by simp) (by kernel_rfl) (by kernel_rfl) (by kernel_rfl) (by kernel_rfl) (aCt (by kernel_rfl)) (by simp) (by simp) ?_
 ·intro x b;simp at b;rcases b with rfl|rfl<;>kernel_rfl
 intro j p m a;obtain ⟨s,v,a⟩:=a.push rfl (by kernel_rfl) (by kernel_rfl);obtain ⟨rfl,rfl,rfl⟩:=a;refine (show ∀L n,L=[eD pH s v 5,eD xZ f i 4]->n=6->cL 100 yB L n _ _ _ from ?_) _ _ (by kernel_rfl) rfl;rintro L n rfl rfl;refine cL.unsat pH (x:=eD pH s v 5) (L':=[eD xZ f i 4]) ⟨⟨rfl,rfl,rfl,rfl,rfl⟩,rfl⟩ (λx b k y=>?_) ?_ rfl ⟨rfl,rfl,rfl⟩
 ·rw [xY];simp at b y;rcases b with rfl|rfl<;>rcases y with rfl|rfl|rfl<;>exact xV (by kernel_rfl) (by kernel_rfl)
 ·rw [aGq (cs:=[cP,oJ,kH,cQ]) (λk=>by rw [xY];rfl) (by kernel_rfl)];kernel_rfl
theorem aPy(a:bH (gN [cP,kH]) [] 0 false L n false):cL 100 aA0 L n [] [] false:=by
 have p:gN [cP,kH]=[(lC,0),(jI,0)]:=rfl;rw [p] at a;obtain ⟨i,l,a⟩:=a.push rfl (by kernel_rfl) (by kernel_rfl);obtain ⟨e,f,a⟩:=a.push rfl (by kernel_rfl) (by kernel_rfl);obtain ⟨rfl,rfl,_⟩:=a;refine (show ∀L n,L=[eD lC i l 0,eD jI e f 1]->n=2->cL 100 aA0 L n [] [] false from ?_) _ _ (by kernel_rfl) rfl;rintro L n rfl rfl;refine cL.takeF [] lC (x:=eD lC i l 0) (L':=[eD jI e f 1]) (ks':=[0]) (F:=[]) ⟨⟨rfl,rfl,rfl,rfl,rfl⟩,rfl⟩ rfl ?_ rfl (by kernel_rfl) (by kernel_rfl) (by kernel_rfl) (by simp [lC,cP]) (by decide) (by kernel_rfl) (by kernel_rfl) (by kernel_rfl) rfl (by simp) (by simp) (by simp) ?_
 ·intro x b;simp at b;rcases b with rfl|rfl<;>kernel_rfl
 rintro g o k ⟨rfl,rfl,rfl⟩;refine cL.takeF [cP] jI (x:=eD jI e f 1) (L':=[]) (ks':=[0,1]) (F:=[(yA,0)]) ⟨⟨rfl,rfl,rfl,rfl,rfl⟩,rfl⟩ rfl ?_ (by kernel_rfl) (by kernel_rfl) (by kernel_rfl) (by kernel_rfl) (by simp [jI,kH]) (by simp) (by kernel_rfl) (by kernel_rfl) (by kernel_rfl) (by kernel_rfl) (aCt (by kernel_rfl)) (by simp) (by simp) ?_
 ·intro x b;simp at b;subst b;kernel_rfl
 intro g o k a;obtain ⟨j,m,a⟩:=a.push rfl (by kernel_rfl) (by kernel_rfl);obtain ⟨rfl,rfl,rfl⟩:=a;refine (show ∀L n,L=[eD yA j m 2]->n=3->cL 100 aA0 L n _ _ _ from ?_) _ _ (by kernel_rfl) rfl;rintro L n rfl rfl;refine cL.takeF [cP,kH] yA (x:=eD yA j m 2) (L':=[]) (ks':=[0,2]) (F:=[]) ⟨⟨rfl,rfl,rfl,rfl,rfl⟩,rfl⟩ rfl ?_ (by kernel_rfl) (by kernel_rfl) (by kernel_rfl) (by kernel_rfl) (by simp [yA,cQ]) (by simp) (by kernel_rfl) (by kernel_rfl) (by kernel_rfl) rfl (by simp) (by simp) (by simp) ?_
 ·intro x b;simp at b;subst b;kernel_rfl
 rintro g o k ⟨rfl,rfl,rfl⟩;exact cL.sat (λx b=>by simp at b) rfl ⟨rfl,rfl⟩
