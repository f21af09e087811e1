import Derived.Test.YthjhkgohninpcaaGreatDoorXSr2M
open Nat renaming le_refl→zz
open Prod renaming fst→zx
namespace Go.Proofs.YthjhkgohninpcaaGreatDoor
open _root_.Go.Proofs.Tryz renaming prog→zv
open World renaming ownsRow_nil→zy,alloc_heap_new→zw
set_option maxHeartbeats 4000000
set_option maxRecDepth 100000
open Go.RowKit Go.Shelf Go.WideMaps
theorem bBc(b:Nat)(a:World)(e:b<=a.heap.size):Calls zv 32 #[.func (.func 33) #[] #[]] a λd c=>d=.returned (.pointer (some ⟨a.heap.size,0,none⟩))/\dD b c a.heap.size (.slice none 0 0) []/\aC a c:=by
 go_enter Tryz.func32,Tryz.ntmps32;go_wp2;go_ret;exact ⟨rfl,⟨zw a _,zy _ _ _ _,e⟩,(Below.refl _ a).alloc (zz _) _⟩
theorem bBd(d c k:Nat)(n p o:Value)(e:List Cd)(m:Nat)(f:List (aT×Value))(l:List Nat)(a:World)(b:bR d a c k n p o e m f l false):Calls zv 36 #[.pointer (some ⟨c,0,none⟩)] a λj q=>j=.returned (.bool true)/\aC a q:=by
 obtain ⟨_,_,_,_,i⟩:=b.cells;have r:=λg=>aD ((Below.refl a.heap.size a).alloc (zz _) g) i
 clear b;go_enter Tryz.func36,Tryz.ntmps36;go_wp2;go_returns;exact ⟨rfl,(Below.refl _ a).alloc (zz _) _⟩
structure rO(B:Nat)(w:World)(v:Value)(P:List (List Lt×Value)):Prop where
 row:w.ownsRow B 41 1 v P.length (P.map Prod.snd)
 cl:∀p∈P,bZ B w p.2 p.1
theorem rO.kps{a:List TypeId}{b:Nat}{w f:World}{v:Value}{c:List (List Lt×Value)}(d:rO b w v c)(e:dT a w f)(g:41∉a)(i:55∉a)(j:106∉a):rO b f v c:=
 ⟨e.row d.row g,λl k=>e.clause (d.cl l k) i j⟩
theorem rO.cell{B:Nat}{w:World}{v:Value}{P:List (List Lt×Value)}(d:rO B w v P){k:Nat}(f:k<P.length):∃g cap a b,v=.slice (some ⟨g,0,none⟩) P.length cap/\P[k].2=.slice a P[k].1.length b/\w.cell? ⟨g,k,none⟩=some (.slice a P[k].1.length b)/\bZ B w (.slice a P[k].1.length b) P[k].1:=by
 have e:=d.cl P[k] (List.getElem_mem f);obtain ⟨a,b,c⟩:=e.shape;obtain ⟨l,⟨_,j⟩|⟨g,cap,i,rfl,m,n,o⟩⟩:=d.row
 ·omega
 ·refine ⟨g,cap,a,b,rfl,c,?_,by rw [<-c];exact e⟩;rw [d.row.cellAt k (by omega),List.getElem?_map,List.getElem?_eq_getElem f,<-c];rfl
def mZ(a:List (List Lt)):List (aT×Int):=a.mapIdx λb c=>(⟨1,b,0,0,0,c⟩,0)
theorem bBe(b:List (List Lt))(a:Nat)(c:a<b.length):(mZ b).take (a+1)=(mZ b).take a++[(⟨1,a,0,0,0,b[a]⟩,0)]:=by rw [List.take_add_one];simp [mZ,c]
def xS(a:Nat)(k:World)(i f:Nat)(e:List (List Lt))(g:Nat)(c:World):Prop:=
 ∃j b d,bR a c i f j (.slice none 0 0) (.slice none 0 0) b d [] [] false/\dB ((mZ e).take g) [] 0 false b d false/\Mv cM a k c
def bBf(c:Nat)(g:World)(a:List (List Lt))(e:Ending)(d:World):Prop:=
 ∃b f,e=.returned (.pointer (some ⟨b,0,none⟩))/\xS c g b f a a.length d
theorem bBg(d:Nat)(X:Value)(b:List (List Lt×Value))(c:World)(A:rO d c X b)(Q:∀W∈b,cG W.1=true)(b7:b.length<=1000)(B:d<=c.heap.size):Calls zv 17 #[X] c λq a7=>bBf d c (b.map zx) q a7:=by
 obtain ⟨b9,c0,rfl⟩:=aW A.row;have I:=aA (bBc d c B);have Z:=aA A;have a0:=aA Q;clear A Q;go_enter Tryz.func17,Tryz.ntmps17;go_wp2_with (first
  |(go_at_call 32;refine (aB I).mono ?_;rintro q e ⟨rfl,U,P⟩;have M:=aA U;have J:=aA P;clear U P)
  |go_in)
 have C:aC e (e.alloc (.cells #[.pointer (some ⟨c.heap.size,0,none⟩),.int .i64 0,.slice none 0 0,.slice none 0 0,.bool false] 83)):=(Below.refl _ e).alloc (zz _) _;have N:bR d (e.alloc (.cells #[.pointer (some ⟨c.heap.size,0,none⟩),.int .i64 0,.slice none 0 0,.slice none 0 0,.bool false] 83)) e.heap.size c.heap.size (.slice none 0 0) (.slice none 0 0) (.slice none 0 0) [] 0 [] [] false:=
  ⟨zw e _,M.o.below C,⟨zy _ _ _ _,λW a3=>by simp at a3⟩,zy _ _ _ _,λc1 a4=>by simp at a4,Nat.le_trans B J.o.size⟩
 have S:Mv cM d c (e.alloc (.cells #[.pointer (some ⟨c.heap.size,0,none⟩),.int .i64 0,.slice none 0 0,.slice none 0 0,.bool false] 83)):=(Mv.of_below J.o).trans (Mv.of_below C);have y:aG (xS d c e.heap.size c.heap.size (b.map zx) 0 (e.alloc (.cells #[.pointer (some ⟨c.heap.size,0,none⟩),.int .i64 0,.slice none 0 0,.slice none 0 0,.bool false] 83))):=aA ⟨_,_,_,N,by simp [dB],S⟩;clear N S C I M;go_loopw [11] (λG wr=>∃a:Nat,G=.int .i64 a/\a<=b.length/\xS d c e.heap.size c.heap.size (b.map zx) a wr) (λG _=>b.length-(intOf G).toNat);case atStart=>exact ⟨0,rfl,Nat.zero_le _,y.o⟩
 case round=>
  obtain ⟨a,rfl,b5,a6,f,j,k,l,i⟩:=hrel;by_cases F:a<b.length
  ·obtain ⟨b3,b2,o,p,V,_,b4,r⟩:=(Z.o.kps i.kps (by decide) (by decide) (by decide)).cell F;simp at V;obtain ⟨rfl,rfl⟩:=V;have m:=a0.o _ (List.getElem_mem F);have u:=nL m;have s:cD b[a].1=true:=by
    simp only [cG,Bool.and_eq_true] at m;exact m.1.1
   have E:=dB.len _ l;have R:((mZ (b.map zx)).take a).length<=a:=List.length_take_le _ _;simp at E;have b6:(a:Int)<(b.length:Int):=by omega
   have t:=bBe (b.map zx) a (by simpa using F);simp only [List.getElem_map] at t;have a2:d<=wr.heap.size:=Nat.le_trans B i.size;have L:aG (∀H n v w,bR d w e.heap.size c.heap.size H (.slice none 0 0) (.slice none 0 0) n v [] [] false->dB [(⟨1,a,0,0,0,b[a].1⟩,0)] f j false n v false->Mv cM d wr w->xS d c e.heap.size c.heap.size (b.map zx) (a+1) w):=aA λH n v w a9 b0 b1=>⟨H,n,v,a9,by rw [t];exact dB.snoc _ l b0,i.trans b1⟩
   cases hid:qW b[a].1
   ·have g:=aA (aMt d e.heap.size c.heap.size a6 _ _ f j [] [] false ⟨1,a,0,0,0,b[a].1⟩ o p wr k r u hid (by omega) (by omega) a2);have z:aG (dB [(⟨1,a,0,0,0,b[a].1⟩,0)] f j false (fZ f.length (f++[jH ⟨1,a,0,0,0,b[a].1⟩ o p j]) f.length) (j+1) false):=aA (by
     unfold dB;rw [aI (by simp [s]),aI (by simp [hid])];exact ⟨o,p,rfl,rfl,rfl⟩)
    unfold qT at g;simp only at g;clear k r u m s E R t i l y;generalize b[a].1.length=cl at *;go_wp2_with (first
     |(go_at_call 34;refine (aB g).mono ?_;rintro q a8 ⟨⟨a5,rfl⟩,b8,O,T⟩;have x:=aA (L.o _ _ _ _ O z.o T);clear O T)
     |go_in)
    go_roundw;case rel=>exact ⟨a+1,by go_num,by omega,x.o⟩
    case measure=>simp [intOf];omega
   ·have g:=aA (aMs d e.heap.size ⟨1,a,0,0,0,b[a].1⟩ o p wr r u hid);have z:aG (dB [(⟨1,a,0,0,0,b[a].1⟩,0)] f j false f j false):=aA (by
     unfold dB;rw [aI (by simp [s]),aJ hid];exact ⟨rfl,rfl,rfl⟩)
    have a1:=aA k;unfold qT at g;simp only at g;clear k r u m s E R t i l y;generalize b[a].1.length=cl at *;go_wp2_with (first
     |(go_at_call 34;refine (aB g).mono ?_;rintro q a8 ⟨⟨a5,rfl⟩,D⟩;have x:=aA (L.o _ _ _ _ (a1.o.below D) z.o (Mv.of_below D));clear D)
     |go_in)
    go_roundw;case rel=>exact ⟨a+1,by go_num,by omega,x.o⟩
    case measure=>simp [intOf];omega
  ·obtain rfl:a=b.length:=by omega
   have Y:aG (xS d c e.heap.size c.heap.size (b.map zx) b.length wr):=aA ⟨_,_,_,k,l,i⟩;clear k l i;go_wp2;go_ret;exact ⟨_,_,rfl,by simpa using Y.o⟩
theorem bBh(k c q:Nat)(t u:Value)(l:List Cd)(s:Nat)(m:List (aT×Value))(r:List Nat)(f:Bool)(g:Option Addr)(a i:Nat)(b:World)(j:bR k b c q t (.slice g a i) u l s m r f)(x:1<=a)(y:a<=1000000):Calls zv 18 #[.pointer (some ⟨c,0,none⟩),.int .i64 1] b λp d=>p=.returned (.agg #[.int .i64 1,.slice g a i,.slice none 0 0,.int .i64 ((a-1:Nat):Int),.bool f])/\aC b d:=by
 obtain ⟨_,_,n,_,o⟩:=j.cells;have v:=λe=>aD ((Below.refl b.heap.size b).alloc (zz _) e) n
 have w:=λe=>aD ((Below.refl b.heap.size b).alloc (zz _) e) o
 have z:IntKind.i64.wrap ((a:Int)-1)=(a:Int)-1:=by rw [IntKind.wrap_i64];omega
 clear j;go_enter Tryz.func18,Tryz.ntmps18;go_wp2_with fail;go_region_held3 (λd=>d.cell? ⟨c,2,none⟩=some (.slice g a i)/\d.cell? ⟨c,4,none⟩=some (.bool f)) (go_keep) (fail);all_goals
  go_wp2_with fail;go_returns;refine ⟨by rw [show ((a-1:Nat):Int)=(a:Int)-1 by omega],?_⟩;exact (((Below.refl _ b).alloc (zz _) _).alloc (by simp) _).trans (Below.mono (aL ⟨1,rfl⟩) (by simp;omega))
theorem bBi(n c u:Nat)(x:Value)(o:List Cd)(w:Nat)(p:List (aT×Value))(v:List Nat)(f:Bool)(k g:Option Addr)(e l j i:Nat)(a:World)(m:bR n a c u x (.slice k e l) (.slice g j i) o w p v f):Calls zv 18 #[.pointer (some ⟨c,0,none⟩),.int .i64 2] a λt d=>t=.returned (.agg #[.int .i64 2,.slice k e l,.slice g j i,.int .i64 e,.bool f])/\aC a d:=by
 obtain ⟨_,_,q,r,s⟩:=m.cells;have y:=λb=>aD ((Below.refl a.heap.size a).alloc (zz _) b) q
 have z:=λb=>aD ((Below.refl a.heap.size a).alloc (zz _) b) r
 have A:=λb=>aD ((Below.refl a.heap.size a).alloc (zz _) b) s
 clear m;go_enter Tryz.func18,Tryz.ntmps18;go_wp2_with fail;go_region_held3 (λd=>d.cell? ⟨c,2,none⟩=some (.slice k e l)/\d.cell? ⟨c,3,none⟩=some (.slice g j i)/\d.cell? ⟨c,4,none⟩=some (.bool f)) (go_keep) (fail);all_goals
  go_wp2_with fail;go_returns;refine ⟨rfl,?_⟩;exact (((Below.refl _ a).alloc (zz _) _).alloc (by simp) _).trans (Below.mono (aL ⟨1,rfl⟩) (by simp;omega))
