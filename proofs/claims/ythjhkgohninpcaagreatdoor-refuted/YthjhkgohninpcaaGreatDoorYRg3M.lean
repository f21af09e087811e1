import Derived.Test.YthjhkgohninpcaaGreatDoorGClsM
open Nat renaming le_refl→zz
open Or renaming inr→zy,inl→zx
namespace Go.Proofs.YthjhkgohninpcaaGreatDoor
open _root_.Go.Proofs.Tryz renaming prog→zw,ntmps38→zv,func38→zu
open Go.RowKit Go.Shelf Go.WideMaps
set_option maxHeartbeats 8000000
set_option maxRecDepth 100000
theorem bZ.wideL{g:Nat}{f:World}{e:Value}{b:List Lt}(d:bZ g f e b)(i:pR b):∃a c,e=.slice a b.length c/\bD f a b:=by obtain ⟨a,c,rfl⟩:=d.shape;exact ⟨a,c,rfl,d.wide i⟩
theorem bC1(j c p a:Nat)(t:Value)(q:Option Addr)(s r:Nat)(n:Option Addr)(m g:Nat)(b:World)(k:b.cell? ⟨j,a,none⟩=some (.slice n m g))(v:a<c):Calls zw 38 #[.slice (some ⟨j,0,none⟩) c p,t,.agg #[.int .i64 1,.int .i64 a,.int .i64 0,.int .i64 0,.int .i64 0,.slice q s r]] b λi u=>i=.returned (.tuple #[.slice n m g,.bool true])/\aC b u:=by
 have f:=aA (λe=>vX (a:Int) (c:Int) e);rw [eI (show (0:Int)<=(a:Int)/\(a:Int)<(c:Int) by omega)] at f;have w:(a:Int)<(c:Int):=by omega
 have x:=λd=>aD ((Below.refl b.heap.size b).alloc (zz _) d) k
 have o:=aA (λd=>(Below.refl b.heap.size b).alloc (zz _) d);clear k;go_enter zu,zv;go_wp2_with (first
  |(go_at_call 69;refine (aB f _).mono ?_;rintro i e ⟨rfl,l⟩;rw [l];clear l e)
  |go_in)
 go_returns;exact ⟨rfl,o.o _⟩
def SpG(d:List Lt->Bool->Int->Prop)(j:World)(i:Value)(g:Bool)(c:World):Prop:=∃b f a e,i=.slice b a.length f/\d a g e/\bD c b a/\aC j c
theorem bC2(a6:Option Addr)(a8 a7 t v f X b c:Nat)(m n:Int)(R:Option Addr)(T S:Nat)(x y:Option Addr)(A B:Nat)(i j:List Lt)(a:World)(b4:b<f)(b6:c<f)(I:a.cell? ⟨t,v+b*6+5,none⟩=some (.slice x i.length A))(J:a.cell? ⟨t,v+c*6+5,none⟩=some (.slice y j.length B))(L:bD a x i)(M:bD a y j)(N:iC a):Calls zw 38 #[.slice a6 a8 a7,.slice (some ⟨t,v,none⟩) f X,.agg #[.int .i64 2,.int .i64 b,.int .i64 c,.int .i64 m,.int .i64 n,.slice R T S]] a λk g=>∃U p,k=.returned (.tuple #[U,.bool p])/\SpG (gQ i j m n) a U p g:=by
 have E:=aA (λe=>vX (b:Int) (f:Int) e);have F:=aA (λe=>vX (c:Int) (f:Int) e);rw [eI (show (0:Int)<=(b:Int)/\(b:Int)<(f:Int) by omega)] at E;rw [eI (show (0:Int)<=(c:Int)/\(c:Int)<(f:Int) by omega)] at F;have b5:(b:Int)<(f:Int):=by omega
 have b7:(c:Int)<(f:Int):=by omega
 obtain ⟨V,a2,o,a1,b9,a9,b0,b1,b2,c0⟩:=oQ a 2 b c m n (.slice R T S);have a3:=aD o I;have a4:=aD o J;have G:=aA (λ(e:World) (w:∃d,e=V.drewN d)=>(aMc x y A B i j m n e (by obtain ⟨d,rfl⟩:=w;exact (L.below o (zz _)).below (aL ⟨d,rfl⟩) (zz _)) (by obtain ⟨d,rfl⟩:=w;exact (M.below o (zz _)).below (aL ⟨d,rfl⟩) (zz _)) (by obtain ⟨d,rfl⟩:=w;exact (N.below o (zz _)).below (aL ⟨d,rfl⟩) (zz _))).mono (R':=λk z=>∃q D r p s,k=.returned (.tuple #[.slice q D r,.bool p,.int .i64 s])/\SpG (gQ i j m n) a (.slice q D r) p z/\aC V z) (λk z Z=>by
  obtain ⟨d,rfl⟩:=w;obtain ⟨b8,a5,b3,s,rfl,Q,Y,_,O⟩:=Z;obtain ⟨q,r,rfl,a0⟩:=Y.wideL Q.good.1;exact ⟨q,_,r,b3,s,rfl,⟨q,r,a5,s,rfl,Q,a0,aV o ((aL ⟨d,rfl⟩).trans O)⟩,(aL ⟨d,rfl⟩).trans O⟩))
 clear I J L M N a1;obtain ⟨H,C⟩ : ∃H,gQ i j m n=H:=⟨_,rfl⟩;rw [C] at G;rw [C];clear C;go_enter zu,zv;go_upto_region 1 with (fail);clear a2;go_upto_region 9 with (first
  |(go_at_call_of 69 (Value.int IntKind.i64 (b:Int));refine (aB E _).mono ?_;rintro k e ⟨rfl,u⟩;rw [u];clear u e)
  |(go_at_call_of 69 (Value.int IntKind.i64 (c:Int));refine (aB F _).mono ?_;rintro k e ⟨rfl,u⟩;rw [u];clear u e)
  |go_in)
 generalize i.length=cn at *;generalize j.length=dn at *;go_region_held3 (λg=>g.cell? ⟨a.heap.size,1,none⟩=some (.int .i64 b)/\g.cell? ⟨a.heap.size,2,none⟩=some (.int .i64 c)/\g.cell? ⟨a.heap.size,3,none⟩=some (.int .i64 m)/\g.cell? ⟨a.heap.size,4,none⟩=some (.int .i64 n)/\g.cell? ⟨t,v+b*6+5,none⟩=some (.slice x cn A)/\g.cell? ⟨t,v+c*6+5,none⟩=some (.slice y dn B)) (first|trivial|go_keep)
  (first
   |(go_at_call 16;refine (aB G _ (by first|exact ⟨0,rfl⟩|exact ⟨1,rfl⟩|exact ⟨_,rfl⟩)).mono ?_;rintro k z ⟨q,D,r,p,s,rfl,P,l⟩;have W:=aA P;have c1:=aD l a9;have c2:=aD l b0;have c3:=aD l b1;have c4:=aD l b2;have c5:=aD l a3;have c6:=aD l a4;clear P l)
   |go_in)
 go_wp2;go_returns;exact ⟨_,_,rfl,W.o⟩
theorem bC3(Y:Option Addr)(a0 Z u x p Q a:Nat)(e f:Int)(J:Option Addr)(M L:Nat)(r:Option Addr)(t:Nat)(d:List Lt)(b:World)(a5:a<p)(C:b.cell? ⟨u,x+a*6+5,none⟩=some (.slice r d.length t))(D:bD b r d)(E:iC b):Calls zw 38 #[.slice Y a0 Z,.slice (some ⟨u,x,none⟩) p Q,.agg #[.int .i64 3,.int .i64 a,.int .i64 0,.int .i64 e,.int .i64 f,.slice J M L]] b λg l=>∃N i,g=.returned (.tuple #[N,.bool i])/\SpG (jF d e f) b N i l:=by
 have z:=aA (λm=>vX (a:Int) (p:Int) m);rw [eI (show (0:Int)<=(a:Int)/\(a:Int)<(p:Int) by omega)] at z;have a6:(a:Int)<(p:Int):=by omega
 obtain ⟨O,V,q,U,a8,a1,a9,a2,a3,b0⟩:=oQ b 3 a 0 e f (.slice J M L);have W:=aD q C;have A:=aA (λ(m:World) (w:∃c,m=O.drewN c)=>(bAd r t d e f m (by obtain ⟨c,rfl⟩:=w;exact (D.below q (zz _)).below (aL ⟨c,rfl⟩) (zz _)) (by obtain ⟨c,rfl⟩:=w;exact (E.below q (zz _)).below (aL ⟨c,rfl⟩) (zz _))).mono (R':=λg s=>∃j y k i n,g=.returned (.tuple #[.slice j y k,.bool i,.int .i64 n])/\SpG (jF d e f) b (.slice j y k) i s/\aC O s) (λg s S=>by
  obtain ⟨c,rfl⟩:=w;obtain ⟨a7,X,a4,n,rfl,H,R,_,F⟩:=S;obtain ⟨j,k,rfl,T⟩:=R.wideL H.good.1;exact ⟨j,_,k,a4,n,rfl,⟨j,k,X,n,rfl,H,T,aV q ((aL ⟨c,rfl⟩).trans F)⟩,(aL ⟨c,rfl⟩).trans F⟩))
 clear C D E U;obtain ⟨B,v⟩ : ∃B,jF d e f=B:=⟨_,rfl⟩;rw [v] at A;rw [v];clear v;go_enter zu,zv;go_upto_region 1 with (fail);clear V;generalize d.length=cn at *;go_wp2_with (first
  |(go_at_call 69;refine (aB z _).mono ?_;rintro g m ⟨rfl,I⟩;rw [I];clear I m)
  |go_in)
 go_region_held3 (λl=>l.cell? ⟨b.heap.size,1,none⟩=some (.int .i64 a)/\l.cell? ⟨b.heap.size,3,none⟩=some (.int .i64 e)/\l.cell? ⟨b.heap.size,4,none⟩=some (.int .i64 f)/\l.cell? ⟨u,x+a*6+5,none⟩=some (.slice r cn t)) (first|trivial|go_keep)
  (first
   |(go_at_call 70;refine (aB A _ (by first|exact ⟨0,rfl⟩|exact ⟨1,rfl⟩|exact ⟨_,rfl⟩)).mono ?_;rintro g s ⟨j,y,k,i,n,rfl,G,o⟩;have P:=aA G;have b1:=aD o a1;have b2:=aD o a2;have b3:=aD o a3;have b4:=aD o W;clear G o)
   |go_in)
 go_wp2;go_returns;exact ⟨_,_,rfl,P.o⟩
section
open scoped Classical
abbrev xW(a:Rs)(b:Option Addr)(c:Nat):Value:=.agg #[.int .i64 a.r,.int .i64 a.a,.int .i64 a.b,.int .i64 a.i,.int .i64 a.j,.slice b a.c.length c]
def wA(f:List (List Lt))(e:List Rs)(i:Nat)(k:Rs)(l:World)(g:Ending)(d:World):Prop:=∃b j a c,g=.returned (.tuple #[.slice b a.length j,.bool c])/\tC f e i k a c/\bD d b a/\aC l d
theorem bC4(b:World):bD b none []:=⟨by simp,λc a=>by simp at a⟩
theorem wA.no{b:List (List Lt)}{a:List Rs}{e:Nat}{f:Rs}{g:World}{c:Ending}{i:World}(j:tC b a e f [] false)(d:c=.returned (.tuple #[.slice none 0 0,.bool false])/\aC g i):wA b a e f g c i:=⟨none,0,[],false,d.1,j,bC4 _,d.2⟩
theorem bC5(k:Option Addr)(l:Nat)(b:List (List Lt))(y:Option Addr)(e p:Nat)(u:List Rs)(T:Rs)(m:Option Addr)(n:Nat)(f:World)(a2:pV f k b)(I:lH f y u)(b1:e<=u.length)(U:iC f):Calls zw 38 #[.slice k b.length l,.slice y e p,xW T m n] f λi o=>wA b u e T f i o:=by
 obtain ⟨C,a,g,r,s,j⟩:=T;by_cases F:C=1
 ·subst F;by_cases c:aA5 b ⟨1,a,g,r,s,j⟩
  ·have a4:=c;obtain ⟨⟨a7,a8⟩,W,X,Y⟩:=c;simp only at a7 a8 W X Y;subst W X Y;obtain ⟨d,rfl⟩ : ∃d:Nat,a=d:=⟨a.toNat,by omega⟩;have J:d<b.length:=by omega
   obtain ⟨z,v,w,rfl,a3,A⟩:=a2.cell d J;refine (bC1 z b.length l d _ m j.length n v b[d].length w f a3 J).mono ?_;rintro i o ⟨rfl,x⟩;exact ⟨v,w,b[d],true,rfl,zx ⟨rfl,zx ⟨a4,by simp [List.getElem?_eq_getElem J],rfl⟩⟩,A.below x (zz _),x⟩
  ·exact (aOg k y b.length l e p a g r s m j.length n f c).mono λi o q=>wA.no (zx ⟨rfl,zy ⟨c,rfl,rfl⟩⟩) q
 ·by_cases G:C=2
  ·subst G;by_cases c:(0<=a/\a<e)/\(0<=g/\g<e)
   ·obtain ⟨t,rfl⟩ : ∃d:Nat,a=d:=⟨a.toNat,by omega⟩;obtain ⟨M,rfl⟩ : ∃d:Nat,g=d:=⟨g.toNat,by omega⟩;have B:t<u.length:=by omega
    have V:M<u.length:=by omega
    obtain ⟨z,O,v,w,rfl,-,-,-,-,-,D,N⟩:=I.cell t B;obtain ⟨b0,b2,a0,a1,i,-,-,-,-,-,Z,a6⟩:=I.cell M V;cases i;refine (bC2 k b.length l z O e p t M r s m j.length n v a0 w a1 _ _ f (by omega) (by omega) D Z N a6 U).mono ?_;rintro i o ⟨a9,R,rfl,P,Q,S,E,rfl,L,A,x⟩;exact ⟨P,Q,S,R,rfl,zy (zx ⟨rfl,zx ⟨c.1,c.2,E,by simp only [wG B,wG V];exact L⟩⟩),A,x⟩
   ·exact (aOh k y b.length l e p a g r s m j.length n f c).mono λi o q=>wA.no (zy (zx ⟨rfl,zy ⟨c,rfl,rfl⟩⟩)) q
  ·by_cases H:C=3
   ·subst H;by_cases c:(0<=a/\a<e)/\g=0
    ·obtain ⟨t,rfl⟩ : ∃d:Nat,a=d:=⟨a.toNat,by omega⟩;obtain ⟨a5,rfl⟩:=c;have B:t<u.length:=by omega
     obtain ⟨z,O,v,w,rfl,-,-,-,-,-,D,N⟩:=I.cell t B;refine (bC3 k b.length l z O e p t r s m j.length n v w _ f (by omega) D N U).mono ?_;rintro i o ⟨a9,R,rfl,P,Q,S,E,rfl,L,A,x⟩;exact ⟨P,Q,S,R,rfl,zy (zy (zx ⟨rfl,zx ⟨a5,rfl,E,by simp only [wG B];exact L⟩⟩)),A,x⟩
    ·exact (aOi k y b.length l e p a g r s m j.length n f c).mono λi o q=>wA.no (zy (zy (zx ⟨rfl,zy ⟨c,rfl,rfl⟩⟩))) q
   ·exact (aOf k y b.length l e p C a g r s m j.length n f ⟨F,G,H⟩).mono λi o q=>wA.no (zy (zy (zy ⟨⟨F,G,H⟩,rfl,rfl⟩))) q
theorem bC6(B:Option Addr)(W:Nat)(j:List (List Lt))(C:Option Addr)(n I:Nat)(i:List Rs)(a:Rs)(p:Option Addr)(v:Nat)(f:World)(M:pV f B j)(L:lH f C i)(Q:n<=i.length)(N:iC f)(R:bD f p a.c):Calls zw 20 #[.slice B j.length W,.slice C n I,xW a p v] f λc a8=>c=.returned (.bool (decide (lU j i n a)))/\aC f a8:=by
 obtain ⟨a9,S,l,a6,Z,a0,a1,a2,a3,D⟩:=oQ f a.r a.a a.b a.i a.j (.slice p a.c.length v);have r:=aA (bC5 B W j C n I i a p v a9 (M.below l (zz _)) (L.below l (zz _)) Q (N.below l (zz _)));have H:=aA R;have G:=aA l;clear M L N R l a6 Q;unfold xW at r;unfold xW;obtain ⟨k,z⟩ : ∃k,lU j i n a=k:=⟨_,rfl⟩;obtain ⟨b5,b1,b2,b3,b4,x⟩:=a;simp only at S Z a0 a1 a2 a3 D r H;rw [z];have t:=aA z;clear z;go_enter Tryz.func20,Tryz.ntmps20;go_upto_region 1 with (fail);clear S;go_wp2_with (first
  |(go_at_call 38;refine (aB r).mono ?_)
  |go_in)
 rintro c X ⟨U,V,o,a7,rfl,e,m,A⟩;have E:=aD A D;have s:=aA (aV G.o A);have u:=H.o.below s.o (zz _);clear r Z a0 a1 a2 a3 D G A;cases a7 with
 |false=>
  have g:aG (decide k=false):=aA (dE λb=>by
   rw [<-t.o] at b;exact absurd (e.one b.1).2 (by simp))
  clear e m u E;go_wp2;go_ret;exact ⟨bM g.o.symm,s.o⟩
 |true=>
  have q:=aA (yR U V o X m);cases hf:cD o with
  |false=>
   rw [hf] at q;have g:aG (decide k=false):=aA (dE λb=>by
    rw [<-t.o] at b;have:=(e.one b.1).1;have y:=b.2;simp only at this y;rw [<-this,hf] at y;cases y)
   clear e m u E hf;go_wp2_with (first
    |(go_at_call 39;refine (aB q).mono ?_;rintro c b0 ⟨rfl,d⟩;have w:=aA (aV s.o d);clear d)
    |go_in)
   go_ret;exact ⟨bM g.o.symm,w.o⟩
  |true=>
   rw [hf] at q;have g:aG (decide k=decide (o=x)):=aA (by
    refine decide_eq_decide.2 ⟨λb=>?_,λc=>?_⟩
    ·rw [<-t.o] at b;exact (e.one b.1).1
    ·rw [<-t.o];subst c;exact ⟨e,hf⟩)
   have F:=aA (λ(Y:World) (T:aC X Y)=>bAe U p V v o x Y (m.below T (zz _)) (u.below T (zz _)));obtain ⟨J,P⟩ : ∃J,decide (o=x)=J:=⟨_,rfl⟩;rw [P] at F g;clear e m u hf P;go_wp2_with (first
    |(go_at_call 39;refine (aB q).mono ?_;rintro c b0 ⟨rfl,d⟩;have b7:=aD d E;have w:=aA (aV s.o d);have a5:=aA d;clear d)
    |(go_at_call 40;refine (aB F _ a5.o).mono ?_;rintro c b6 ⟨rfl,O⟩;have a4:=aA (aV w.o O);clear O)
    |go_in)
   go_ret;exact ⟨bM g.o.symm,a4.o⟩
end
