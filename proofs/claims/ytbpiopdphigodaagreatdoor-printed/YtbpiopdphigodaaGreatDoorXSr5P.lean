import Derived.Test.YtbpiopdphigodaaGreatDoorXSr2P
open Nat renaming le_refl→zz
open Prod renaming fst→zx
namespace Go.Proofs.YtbpiopdphigodaaGreatDoor
open _root_.Go.Proofs.Tryz renaming prog→zv
open World renaming ownsRow_nil→zy,alloc_heap_new→zw
set_option maxHeartbeats 4000000
set_option maxRecDepth 100000
open Go.RowKit Go.Shelf Go.WideMaps
theorem aZd(b:Nat)(a:World)(e:b<=a.heap.size):Calls zv 40 #[.func (.func 41) #[] #[]] a λd c=>d=.returned (.pointer (some ⟨a.heap.size,0,none⟩))/\bZ b c a.heap.size (.slice none 0 0) []/\aB a c:=by
 go_enter Tryz.func40,Tryz.ntmps40;go_wp2;go_ret;exact ⟨rfl,⟨zw a _,zy _ _ _ _,e⟩,(Below.refl _ a).alloc (zz _) _⟩
theorem aZe(d c k:Nat)(n p o:Value)(e:List Cd)(m:Nat)(f:List (aK×Value))(l:List Nat)(a:World)(b:bI d a c k n p o e m f l false):Calls zv 44 #[.pointer (some ⟨c,0,none⟩)] a λj q=>j=.returned (.bool true)/\aB a q:=by
 obtain ⟨_,_,_,_,i⟩:=b.cells;have r:=λg=>aD ((Below.refl a.heap.size a).alloc (zz _) g) i
 clear b;go_enter Tryz.func44,Tryz.ntmps44;go_wp2;go_returns;exact ⟨rfl,(Below.refl _ a).alloc (zz _) _⟩
structure rC(B:Nat)(w:World)(v:Value)(P:List (List Lt×Value)):Prop where
 row:w.ownsRow B 29 1 v P.length (P.map Prod.snd)
 cl:∀p∈P,bN B w p.2 p.1
theorem rC.kps{a:List TypeId}{b:Nat}{w f:World}{v:Value}{c:List (List Lt×Value)}(d:rC b w v c)(e:cK a w f)(g:29∉a)(i:41∉a)(j:43∉a):rC b f v c:=
 ⟨e.row d.row g,λl k=>e.clause (d.cl l k) i j⟩
theorem rC.cell{B:Nat}{w:World}{v:Value}{P:List (List Lt×Value)}(e:rC B w v P){k:Nat}(i:k<P.length):∃g c a b,v=.slice (some ⟨g,0,none⟩) P.length c/\P[k].2=.slice a P[k].1.length b/\w.cell? ⟨g,k,none⟩=some (.slice a P[k].1.length b)/\bN B w (.slice a P[k].1.length b) P[k].1:=by
 have f:=e.cl P[k] (List.getElem_mem i);obtain ⟨a,b,d⟩:=f.shape;obtain ⟨m,⟨_,l⟩|⟨g,c,j,rfl,n,o,p⟩⟩:=e.row
 ·omega
 ·refine ⟨g,c,a,b,rfl,d,?_,by rw [<-d];exact f⟩;rw [e.row.cellAt k (by omega),List.getElem?_map,List.getElem?_eq_getElem i,<-d];rfl
def kY(a:List (List Lt)):List (aK×Int):=a.mapIdx λb c=>(⟨1,b,0,0,0,c⟩,0)
theorem aZf(b:List (List Lt))(a:Nat)(c:a<b.length):(kY b).take (a+1)=(kY b).take a++[(⟨1,a,0,0,0,b[a]⟩,0)]:=by rw [List.take_add_one];simp [kY,c]
def uX(a:Nat)(k:World)(i f:Nat)(e:List (List Lt))(g:Nat)(c:World):Prop:=
 ∃j b d,bI a c i f j (.slice none 0 0) (.slice none 0 0) b d [] [] false/\bX ((kY e).take g) [] 0 false b d false/\Mv bO a k c
def aZg(c:Nat)(g:World)(a:List (List Lt))(e:Ending)(d:World):Prop:=
 ∃b f,e=.returned (.pointer (some ⟨b,0,none⟩))/\uX c g b f a a.length d
theorem aZh(d:Nat)(X:Value)(b:List (List Lt×Value))(c:World)(A:rC d c X b)(Q:∀W∈b,bK W.1=true)(b7:b.length<=1000)(B:d<=c.heap.size):Calls zv 25 #[X] c λq a7=>aZg d c (b.map zx) q a7:=by
 obtain ⟨b9,c0,rfl⟩:=aY A.row;have I:=aA (aZd d c B);have Z:=aA A;have a0:=aA Q;clear A Q;go_enter Tryz.func25,Tryz.ntmps25;go_wp2_with (first
  |(go_at_call 40;refine (aC I).mono ?_;rintro q e ⟨rfl,U,P⟩;have M:=aA U;have J:=aA P;clear U P)
  |go_in)
 have C:aB e (e.alloc (.cells #[.pointer (some ⟨c.heap.size,0,none⟩),.int .i64 0,.slice none 0 0,.slice none 0 0,.bool false] 99)):=(Below.refl _ e).alloc (zz _) _;have N:bI d (e.alloc (.cells #[.pointer (some ⟨c.heap.size,0,none⟩),.int .i64 0,.slice none 0 0,.slice none 0 0,.bool false] 99)) e.heap.size c.heap.size (.slice none 0 0) (.slice none 0 0) (.slice none 0 0) [] 0 [] [] false:=
  ⟨zw e _,M.o.below C,⟨zy _ _ _ _,λW a3=>by simp at a3⟩,zy _ _ _ _,λc1 a4=>by simp at a4,Nat.le_trans B J.o.size⟩
 have S:Mv bO d c (e.alloc (.cells #[.pointer (some ⟨c.heap.size,0,none⟩),.int .i64 0,.slice none 0 0,.slice none 0 0,.bool false] 99)):=(Mv.of_below J.o).trans (Mv.of_below C);have y:aI (uX d c e.heap.size c.heap.size (b.map zx) 0 (e.alloc (.cells #[.pointer (some ⟨c.heap.size,0,none⟩),.int .i64 0,.slice none 0 0,.slice none 0 0,.bool false] 99))):=aA ⟨_,_,_,N,by simp [bX],S⟩;clear N S C I M;go_loopw [11] (λG wr=>∃a:Nat,G=.int .i64 a/\a<=b.length/\uX d c e.heap.size c.heap.size (b.map zx) a wr) (λG _=>b.length-(intOf G).toNat);case atStart=>exact ⟨0,rfl,Nat.zero_le _,y.o⟩
 case round=>
  obtain ⟨a,rfl,b5,a6,f,j,k,l,i⟩:=hrel;by_cases F:a<b.length
  ·obtain ⟨b3,b2,o,p,V,_,b4,r⟩:=(Z.o.kps i.kps (by decide) (by decide) (by decide)).cell F;simp at V;obtain ⟨rfl,rfl⟩:=V;have m:=a0.o _ (List.getElem_mem F);have u:=kL m;have s:cZ b[a].1=true:=by
    simp only [bK,Bool.and_eq_true] at m;exact m.1.1
   have E:=bX.len _ l;have R:((kY (b.map zx)).take a).length<=a:=List.length_take_le _ _;simp at E;have b6:(a:Int)<(b.length:Int):=by omega
   have t:=aZf (b.map zx) a (by simpa using F);simp only [List.getElem_map] at t;have a2:d<=wr.heap.size:=Nat.le_trans B i.size;have L:aI (∀H n v w,bI d w e.heap.size c.heap.size H (.slice none 0 0) (.slice none 0 0) n v [] [] false->bX [(⟨1,a,0,0,0,b[a].1⟩,0)] f j false n v false->Mv bO d wr w->uX d c e.heap.size c.heap.size (b.map zx) (a+1) w):=aA λH n v w a9 b0 b1=>⟨H,n,v,a9,by rw [t];exact bX.snoc _ l b0,i.trans b1⟩
   cases hid:jK b[a].1
   ·have g:=aA (aL7 d e.heap.size c.heap.size a6 _ _ f j [] [] false ⟨1,a,0,0,0,b[a].1⟩ o p wr k r u hid (by omega) (by omega) a2);have z:aI (bX [(⟨1,a,0,0,0,b[a].1⟩,0)] f j false (iO f.length (f++[eH ⟨1,a,0,0,0,b[a].1⟩ o p j]) f.length) (j+1) false):=aA (by
     unfold bX;rw [aF (by simp [s]),aF (by simp [hid])];exact ⟨o,p,rfl,rfl,rfl⟩)
    unfold pC at g;simp only at g;clear k r u m s E R t i l y;generalize b[a].1.length=cl at *;go_wp2_with (first
     |(go_at_call 42;refine (aC g).mono ?_;rintro q a8 ⟨⟨a5,rfl⟩,b8,O,T⟩;have x:=aA (L.o _ _ _ _ O z.o T);clear O T)
     |go_in)
    go_roundw;case rel=>exact ⟨a+1,by go_num,by omega,x.o⟩
    case measure=>simp [intOf];omega
   ·have g:=aA (aL6 d e.heap.size ⟨1,a,0,0,0,b[a].1⟩ o p wr r u hid);have z:aI (bX [(⟨1,a,0,0,0,b[a].1⟩,0)] f j false f j false):=aA (by
     unfold bX;rw [aF (by simp [s]),aG hid];exact ⟨rfl,rfl,rfl⟩)
    have a1:=aA k;unfold pC at g;simp only at g;clear k r u m s E R t i l y;generalize b[a].1.length=cl at *;go_wp2_with (first
     |(go_at_call 42;refine (aC g).mono ?_;rintro q a8 ⟨⟨a5,rfl⟩,D⟩;have x:=aA (L.o _ _ _ _ (a1.o.below D) z.o (Mv.of_below D));clear D)
     |go_in)
    go_roundw;case rel=>exact ⟨a+1,by go_num,by omega,x.o⟩
    case measure=>simp [intOf];omega
  ·obtain rfl:a=b.length:=by omega
   have Y:aI (uX d c e.heap.size c.heap.size (b.map zx) b.length wr):=aA ⟨_,_,_,k,l,i⟩;clear k l i;go_wp2;go_ret;exact ⟨_,_,rfl,by simpa using Y.o⟩
theorem aZi(k c q:Nat)(t u:Value)(l:List Cd)(s:Nat)(m:List (aK×Value))(r:List Nat)(f:Bool)(g:Option Addr)(a i:Nat)(b:World)(j:bI k b c q t (.slice g a i) u l s m r f)(x:1<=a)(y:a<=1000000):Calls zv 26 #[.pointer (some ⟨c,0,none⟩),.int .i64 1] b λp d=>p=.returned (.agg #[.int .i64 1,.slice g a i,.slice none 0 0,.int .i64 ((a-1:Nat):Int),.bool f])/\aB b d:=by
 obtain ⟨_,_,n,_,o⟩:=j.cells;have v:=λe=>aD ((Below.refl b.heap.size b).alloc (zz _) e) n
 have w:=λe=>aD ((Below.refl b.heap.size b).alloc (zz _) e) o
 have z:IntKind.i64.wrap ((a:Int)-1)=(a:Int)-1:=by rw [IntKind.wrap_i64];omega
 clear j;go_enter Tryz.func26,Tryz.ntmps26;go_wp2_with fail;go_region_held3 (λd=>d.cell? ⟨c,2,none⟩=some (.slice g a i)/\d.cell? ⟨c,4,none⟩=some (.bool f)) (go_keep) (fail);all_goals
  go_wp2_with fail;go_returns;refine ⟨by rw [show ((a-1:Nat):Int)=(a:Int)-1 by omega],?_⟩;exact (((Below.refl _ b).alloc (zz _) _).alloc (by simp) _).trans (Below.mono (aQ ⟨1,rfl⟩) (by simp;omega))
theorem aZj(n c u:Nat)(x:Value)(o:List Cd)(w:Nat)(p:List (aK×Value))(v:List Nat)(f:Bool)(k g:Option Addr)(e l j i:Nat)(a:World)(m:bI n a c u x (.slice k e l) (.slice g j i) o w p v f):Calls zv 26 #[.pointer (some ⟨c,0,none⟩),.int .i64 2] a λt d=>t=.returned (.agg #[.int .i64 2,.slice k e l,.slice g j i,.int .i64 e,.bool f])/\aB a d:=by
 obtain ⟨_,_,q,r,s⟩:=m.cells;have y:=λb=>aD ((Below.refl a.heap.size a).alloc (zz _) b) q
 have z:=λb=>aD ((Below.refl a.heap.size a).alloc (zz _) b) r
 have A:=λb=>aD ((Below.refl a.heap.size a).alloc (zz _) b) s
 clear m;go_enter Tryz.func26,Tryz.ntmps26;go_wp2_with fail;go_region_held3 (λd=>d.cell? ⟨c,2,none⟩=some (.slice k e l)/\d.cell? ⟨c,3,none⟩=some (.slice g j i)/\d.cell? ⟨c,4,none⟩=some (.bool f)) (go_keep) (fail);all_goals
  go_wp2_with fail;go_returns;refine ⟨rfl,?_⟩;exact (((Below.refl _ a).alloc (zz _) _).alloc (by simp) _).trans (Below.mono (aQ ⟨1,rfl⟩) (by simp;omega))
