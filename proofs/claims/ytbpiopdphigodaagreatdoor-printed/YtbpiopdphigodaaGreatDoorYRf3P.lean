/- What is printed of the clauses that a text is read as is read as the same clauses, one by one and all together, whatever text comes in, unless it is longer than a text may be, which is said; a known text is read and printed as it is: the tied card. Conditions: none but the row's own (the library's tables stand as the program lays them; each list and text is of at most 2^47 - 4096 bytes). -/
import Derived.Test.YtbpiopdphigodaaGreatDoorPInP
import Derived.Test.YtbpiopdphigodaaGreatDoorXSr9P
import Derived.Test.YtbpiopdphigodaaGreatDoorXKn0P
import Derived.Test.YtbpiopdphigodaaGreatDoorPrTokP
import Derived.Test.YtbpiopdphigodaaGreatDoorCards
import Derived.Test.YtbpiopdphigodaaGreatDoorTie
import Derived.ProofKit
import Derived.OpenShut
import Derived.Carry
import Derived.Deep.DeepHandedRow
import Derived.Deep.DeepWitnessRowRef
import Derived.Lib.LaidIn
import Derived.Lib.LaidU8T
import Derived.PinnedBridge
namespace Go.Proofs.YtbpiopdphigodaaGreatDoor
open Go.RowKit Go.Shelf Go.WideMaps
set_option maxRecDepth 100000
theorem aLe:∀(a:List (aK×Value)) (b c:Nat) (d:b < a.length),c < 6→(gQ a)[b * 6+c]?=(gF a[b])[c]?
 | [],b,_,d,_=>by simp at d
 | x :: a,0,c,_,hm=>by
  rw [show gQ (x :: a)=gF x++gQ a from rfl,List.getElem?_append_left (by simp [gF];omega)];simp
 | x :: a,b+1,c,d,hm=>by
  have:=aLe a b c (by simpa using d) hm;rw [show gQ (x :: a)=gF x++gQ a from rfl,List.getElem?_append_right (by simp [gF];omega),show (b+1) * 6+c - (gF x).length=b * 6+c by simp [gF];omega,this];simp
theorem iD.cells {B:Nat} {W:World} {b i:Nat} {a:List (aK×Value)} (f:iD B W (.slice (some ⟨b,0,none⟩) a.length i) a) {k:Nat} (g:k < a.length):W.cell? ⟨b,k * 6,none⟩=some (.int .i64 a[k].1.r)∧W.cell? ⟨b,k * 6+1,none⟩=some (.int .i64 a[k].1.a)∧W.cell? ⟨b,k * 6+2,none⟩=some (.int .i64 a[k].1.b)∧W.cell? ⟨b,k * 6+3,none⟩=some (.int .i64 a[k].1.i)∧W.cell? ⟨b,k * 6+4,none⟩=some (.int .i64 a[k].1.j)∧∃d e,W.cell? ⟨b,k * 6+5,none⟩=some (.slice d a[k].1.c.length e)∧bN B W (.slice d a[k].1.c.length e) a[k].1.c:=by
 have r:=aK1 a;have c:∀m,m < 6→W.cell? ⟨b,k * 6+m,none⟩=(gF a[k])[m]?:=fun m o=>by
  rw [f.row.cellAt (k * 6+m) (by omega),aLe a k m g o]
 obtain ⟨q,p,d,e,j,_,l,n⟩:=f.cell g;cases j;exact ⟨c 0 (by omega),c 1 (by omega),c 2 (by omega),c 3 (by omega),c 4 (by omega),d,e,l,n⟩
def aE5 (d:List (List Lt)) (b:List (aK×Value)) (c:Nat) (a:aK):Prop:=
 bK a.c=true∧cZ a.c=true∧((a.r=1∧a.b=0∧a.i=0∧a.j=0∧d[a.a]?=some a.c)∨(a.r=2∧a.a < c∧a.b < c∧bK (aP b a.a)=true∧bK (aP b a.b)=true∧nI (aP b a.a) (aP b a.b) a.i a.j a.c true 0))
set_option maxHeartbeats 4000000 in
theorem aZt (B:ByteArray) (x:List (List Lt)) (e3 y o c:Nat) (b:List (aK×Value)) (n:World) (g4:B.size≤140737488355328) (u:∀c5 f5 j,kO B c5 f5 j→c5=x∧j=0) (a5:∀F∈x,bK F=true) (a4:b.length=c+1) (J:iD e3 n (.slice (some ⟨y,0,none⟩) b.length o) b) (a7:iW n) (a6:∀a (j2:a < b.length),aE5 x b a b[a].1) (b7:b[c].1.c=[]) (j3:c≤1000) (g0:b.length≤o) :
  Calls Tryz.prog 13 #[.string B,.slice (some ⟨y,0,none⟩) (c+1) o] n fun e g=>e=.returned (.bool true)∧aB n g:=by
 have Z:=aA (aAy B n g4);have E:=aA J;have f2:=aA a7;have f0:=aA a6;have f1:=aA u;have j0:=aA a5;have e9:=aA a4;have j7:(((c:Int)+1) == 0)=false:=nbQ (by omega);have j8:(((c+1:Nat):Int) == 0)=false:=nbQ (by omega);obtain ⟨-,-,-,-,-,j9,k0,c4,-⟩:=J.cells (k:=c) (by omega);rw [b7] at c4;have j4:c+1≤o:=by omega
 clear J a7 a6 u a5 b7 a4 g0;go_enter Tryz.func13,Tryz.ntmps13;go_upto_region 4 with (first
  | (go_at_call 10;refine (aC Z).mono ?_;rintro e W ⟨S,f3,j1,j,rfl,u,c0,b0⟩;obtain ⟨c1,rfl⟩:=f1.o _ _ _ u;have a1:=aA c1;have D:=aA c0.cls;have a0:=aA b0;clear u c0 b0 c1)
  | go_in)
 obtain ⟨r,H⟩ : ∃r,(f3.map fun c6=>(c6.1.map Prod.fst,c6.2))=r:=⟨_,rfl⟩;have I:r.map Prod.fst=x:=by rw [←a1.o,←H,List.map_map];rfl
 rw [H] at D;clear H a1 Z;have g6:=a0.o.size;go_wp2;go_loopw [25] (fun N wr=>∃a:Nat,a≤c+1∧N=.int .i64 a∧aB W wr) (fun N _=>c+1 - (intOf N).toNat);case atStart=>exact ⟨0,Nat.zero_le _,rfl,Below.refl _ _⟩
 case round=>
  obtain ⟨a,g1,rfl,s⟩:=hrel;have f:aB n wr:=a0.o.trans (s.mono g6);by_cases b8:a < c+1
  ·have b6:a < b.length:=by rw [e9.o];exact b8
   obtain ⟨c9,d0,d1,d2,d3,l,m,d4,d6⟩:=E.o.cells b6;obtain ⟨A,c7,c8⟩:=f0.o a b6;obtain ⟨_,_,f6,_,d5,_⟩:=d6.lits (kL A);cases f6;have Y:aI (∀i,aB wr i→Calls Tryz.prog 28 #[S,.slice (some ⟨y,0,none⟩) a o,.agg #[.int .i64 b[a].1.r,.int .i64 b[a].1.a,.int .i64 b[a].1.b,.int .i64 b[a].1.i,.int .i64 b[a].1.j,.slice l b[a].1.c.length m]] i fun e g=>e=.returned (.bool true)∧aB i g):=aA fun i v=>by
    have b2:aB n i:=aZ f v;have f9:aB W i:=aZ s v;refine aRa S _ _ _ _ _ _ l m b[a].1.c i (d5.below b2 (Nat.le_refl _)) c7 fun C c3=>?_
    have t:aB n C:=aZ b2 c3;have b3:aB W C:=aZ f9 c3;rcases c8 with ⟨O,P,Q,z,q⟩ | ⟨O,P,Q,z,q,R⟩
    ·have L:b[a].1.a < r.length:=by
      have:=(List.getElem?_eq_some_iff.1 q).1;rw [←I] at this;simpa using this
     obtain ⟨f8,h4,a2,a3,g5,_,b4,b9⟩:=D.o.cell L;have g3:r[b[a].1.a].1=b[a].1.c:=by rw [←I,List.getElem?_map,List.getElem?_eq_getElem L] at q;simpa using q
     rw [g3] at b4 b9;obtain ⟨_,_,G,_,g2,_⟩:=b9.lits (kL A);cases G;rw [g5,O,P,Q,z];refine (aR8 f8 r.length h4 b[a].1.a _ l _ m a2 b[a].1.c.length a3 C (aD b3 b4) L).mono ?_;rintro e g ⟨rfl,a9⟩;exact ⟨a2,a3,rfl,(g2.below b3 (Nat.le_refl _)).below a9 (Nat.le_refl _),a9⟩
    ·have a8:b[a].1.a < b.length:=by omega
     have b1:b[a].1.b < b.length:=by omega
     obtain ⟨_,_,_,_,_,g8,g9,g7,h1⟩:=E.o.cells a8;obtain ⟨_,_,_,_,_,h3,h5,h2,h7⟩:=E.o.cells b1;rw [qV a8] at z R;rw [qV b1] at q R;obtain ⟨_,_,G,_,h0,_⟩:=h1.lits (kL z);cases G;obtain ⟨_,_,f7,_,h6,_⟩:=h7.lits (kL q);cases f7;obtain ⟨T,V,U,rfl⟩ : ∃T V U,S=.slice T V U:=by obtain ⟨f4,F,e⟩:=aY D.o.row;exact ⟨f4,_,F,e⟩
     rw [O];exact aR9 T V U y a o _ _ _ _ l _ m g8 h3 g9 h5 _ _ _ C P Q (aD t g7) (aD t h2) (h0.below t (Nat.le_refl _)) (h6.below t (Nat.le_refl _)) (f2.o.below t (Nat.le_refl _)) R A
   have h8:=aD f c9;have h9:=aD f d0;have i0:=aD f d1;have i1:=aD f d2;have i2:=aD f d3;have i3:=aD f d4;have j6:(a:Int) < ((c+1:Nat):Int):=by omega
   have j5:a≤o:=by omega
   have e5:=aA s;generalize b[a].1.c.length=cn at *;generalize b[a].1.r=j at *;generalize b[a].1.a=ea at *;generalize b[a].1.b=eb at *;generalize b[a].1.i=ei at *;generalize b[a].1.j=ej at *;clear c9 d0 d1 d2 d3 d4 d6 d5 A c7 c8 s f I;go_upto_region 7 with (go_in);obtain ⟨d,c2,M,p⟩ : ∃d,wr.alloc (.cells #[.int .i64 j,.int .i64 ea,.int .i64 eb,.int .i64 ei,.int .i64 ej,.slice l cn m] 77)=d∧aB wr d∧d.heap[wr.heap.size]?=some (.cells #[.int .i64 j,.int .i64 ea,.int .i64 eb,.int .i64 ei,.int .i64 ej,.slice l cn m] 77 (0,0)):=⟨_,rfl,(Below.refl _ wr).alloc (Nat.le_refl _) _,World.alloc_heap_new wr _⟩;rw [c2];clear c2 h8 h9 i0 i1 i2 i3;have d7:d.cell? ⟨wr.heap.size,0,none⟩=some (.int .i64 j):=by simp [World.cell?,p]
   have d8:d.cell? ⟨wr.heap.size,1,none⟩=some (.int .i64 ea):=by simp [World.cell?,p]
   have d9:d.cell? ⟨wr.heap.size,2,none⟩=some (.int .i64 eb):=by simp [World.cell?,p]
   have e0:d.cell? ⟨wr.heap.size,3,none⟩=some (.int .i64 ei):=by simp [World.cell?,p]
   have e1:d.cell? ⟨wr.heap.size,4,none⟩=some (.int .i64 ej):=by simp [World.cell?,p]
   have e2:d.cell? ⟨wr.heap.size,5,none⟩=some (.slice l cn m):=by simp [World.cell?,p]
   have e4:=aA (fun (i:World) (v:∃w,i=d.drewN w)=>(Y.o i (by obtain ⟨w,rfl⟩:=v;exact aZ M (aQ ⟨w,rfl⟩))).mono (R':=fun e X=>e=.returned (.bool true)∧aB d X) (fun e X b5=>by obtain ⟨w,rfl⟩:=v;exact ⟨b5.1,(aQ ⟨w,rfl⟩).trans b5.2⟩));have e6:=aA (aZ e5.o M);clear p M Y;go_region_held3 (fun g=>g.cell? ⟨wr.heap.size,0,none⟩=some (.int .i64 j)∧g.cell? ⟨wr.heap.size,1,none⟩=some (.int .i64 ea)∧g.cell? ⟨wr.heap.size,2,none⟩=some (.int .i64 eb)∧g.cell? ⟨wr.heap.size,3,none⟩=some (.int .i64 ei)∧g.cell? ⟨wr.heap.size,4,none⟩=some (.int .i64 ej)∧g.cell? ⟨wr.heap.size,5,none⟩=some (.slice l cn m)) (first | trivial | go_keep)
    (first
     | (go_at_call 28;refine (aC e4 _ (by first | exact ⟨0,rfl⟩ | exact ⟨1,rfl⟩ | exact ⟨_,rfl⟩)).mono ?_;rintro e X ⟨rfl,k⟩;have i4:=aD k d7;have i5:=aD k d8;have i6:=aD k d9;have i7:=aD k e0;have i8:=aD k e1;have i9:=aD k e2;have e7:=aA (aZ e6.o k);clear k)
     | go_in)
   clear i4 i5 i6 i7 i8 i9 d7 d8 d9 e0 e1 e2;go_wp2;go_roundw;case rel=>exact ⟨a+1,by omega,by go_num,e7.o⟩
   case measure=>simp [intOf];omega
  ·obtain rfl:a=c+1:=by omega
   have q:=aD f c4;have e8:=aA f;clear s f b8 g1;go_wp2;go_ret;exact ⟨rfl,e8.o⟩
theorem aZu (f:ByteArray) (d:List (List Lt)) (j g e b:Nat) (a:List (aK×Value)) (c:World) (B:f.size≤140737488355328) (s:∀t w l,kO f t w l→t=d∧l=0) (m:∀x∈d,bK x=true) (y:a.length=b+1) (o:iD j c (.slice (some ⟨g,0,none⟩) a.length e) a) (p:iW c) (n:∀i (D:i < a.length),aE5 d a i a[i].1) (r:a[b].1.c=[]) (z:b≤1000) (A:a.length≤e) :
  Calls Tryz.prog 9 #[.string f,.slice (some ⟨g,0,none⟩) (b+1) e] c fun k C=>k=.returned (.bool true)∧aB c C:=by
 have u:=aA (aZt f d j g e b a c B s m y o p n r z A);clear s m o p n r;go_enter Tryz.func9,Tryz.ntmps9;go_wp2_with (first
  | (go_at_call 13;refine (aC u).mono ?_;rintro k E ⟨rfl,q⟩;have v:=aA q;clear q)
  | go_in)
 go_ret;exact ⟨rfl,v.o⟩
theorem aLf:rA qN:=⟨by kernel_rfl,by kernel_rfl⟩
theorem aZv:nI kE cP 0 0 cQ true 0:=
 Or.inr ⟨by kernel_rfl,by kernel_rfl,Or.inr ⟨0,0,⟨by decide,by decide,rfl,rfl,by decide⟩,by
  have a:=zY aYs 0 1 [((0:Int),(false,[qN]))] (by intro c b;simp at b;subst b;exact ⟨qN,rfl,aLf⟩) (Nat.le_of_ble_eq_true (by kernel_rfl));rw [show aT ([((0:Int),((false,[qN]):Lt))].map Prod.snd)=cQ by kernel_rfl] at a;exact a⟩⟩
theorem aZw:nI cQ nZ 0 0 [] true 0:=
 Or.inr ⟨by kernel_rfl,by kernel_rfl,Or.inr ⟨0,0,⟨by decide,by decide,rfl,rfl,by decide⟩,zY aLf 0 1 [] (by simp) (Nat.le_of_ble_eq_true (by kernel_rfl))⟩⟩
theorem aZx {b:List (aK×Value)} (e:b.map Prod.fst=[kW,oA,jH,pA,pB]):∀k (d:k < b.length),aE5 [cP,kE,nZ] b k b[k].1:=by
 have g:b.length=5:=by have:=congrArg List.length e;simpa using this
 have c:∀k,aP b k=([kW,oA,jH,pA,pB].map aK.c).getD k []:=fun k=>by
  rw [xD,←e,List.map_map];rfl
 have f:∀k (d:k < b.length),some b[k].1=[kW,oA,jH,pA,pB][k]?:=fun k d=>by
  rw [←e,List.getElem?_map,List.getElem?_eq_getElem d];rfl
 intro k d;have a:=f k d;match k,d with
 | 0,_=>
  obtain a:b[0].1=kW:=by simpa using a
  rw [a];exact ⟨by kernel_rfl,by kernel_rfl,Or.inl ⟨rfl,rfl,rfl,rfl,rfl⟩⟩
 | 1,_=>
  obtain a:b[1].1=oA:=by simpa using a
  rw [a];exact ⟨by kernel_rfl,by kernel_rfl,Or.inl ⟨rfl,rfl,rfl,rfl,rfl⟩⟩
 | 2,_=>
  obtain a:b[2].1=jH:=by simpa using a
  rw [a];exact ⟨by kernel_rfl,by kernel_rfl,Or.inl ⟨rfl,rfl,rfl,rfl,rfl⟩⟩
 | 3,_=>
  obtain a:b[3].1=pA:=by simpa using a
  rw [a];refine ⟨by kernel_rfl,by kernel_rfl,Or.inr ⟨rfl,by decide,by decide,?_,?_,?_⟩⟩
  ·rw [c];kernel_rfl
  ·rw [c];kernel_rfl
  ·rw [c,c];exact aZv
 | 4,_=>
  obtain a:b[4].1=pB:=by simpa using a
  rw [a];refine ⟨by kernel_rfl,by kernel_rfl,Or.inr ⟨rfl,by decide,by decide,?_,?_,?_⟩⟩
  ·rw [c];kernel_rfl
  ·rw [c];kernel_rfl
  ·rw [c,c];exact aZw
 | k+5,d=>omega
theorem aZy (g:World):Calls Tryz.prog 8 #[.string zZ,.int .i64 100] g fun c m=>∃d b l a,c=.returned (.tuple #[.agg #[.int .i64 1,.slice (some ⟨d,0,none⟩) (4+1) b,.slice none 0 0,.int .i64 (l:Nat),.bool false],.int .i64 0])∧a.map Prod.fst=[kW,oA,jH,pA,pB]∧a.length≤b∧iD g.heap.size m (.slice (some ⟨d,0,none⟩) a.length b) a∧aB g m:=by
 refine (aLd _ 100 (fun _=>xG) g (by decide) (fun x p i=>?_)).mono ?_
 ·obtain ⟨rfl,_,_⟩:=aA0 i;refine ⟨fun A n=>?_,by simp,fun w o _ _ y G f=>?_⟩
  ·simp at n;rcases n with rfl | rfl | rfl <;> kernel_rfl
  ·obtain rfl:w=100:=by omega
   exact aZ2 f
 ·rintro c m ⟨x,p,D,v,s,i⟩;obtain ⟨rfl,rfl,rfl⟩:=aA0 v;rcases i with ⟨j,_⟩ | ⟨_,j,_⟩ | ⟨_,_,_,H,J,I,l,z,a,F,rfl,e,r⟩
  ·exact absurd rfl j
  ·exact absurd ⟨by decide,by decide⟩ j
  ·obtain ⟨⟨rfl,f,rfl⟩,_⟩:=r;have o:a.length=4+1:=by have:=congrArg List.length f;simpa using this
   obtain ⟨d,b,_,_,rfl,_⟩:=e.st.cell (k:=0) (by omega);have t:a.length≤b:=by
    obtain ⟨_,⟨c,_⟩ | ⟨E,B,C,c,_,_,u,_⟩⟩:=e.st.row
    ·cases c
    ·simp at c u;omega
   rcases e.kp with ⟨q,_⟩ | ⟨_,rfl⟩
   ·cases q
   ·exact ⟨d,b,l,a,by rw [←o];rfl,f,t,e.st,s⟩
theorem aZz (i:World):Calls Tryz.prog 8 #[.string aDu,.int .i64 100] i fun j n=>∃b w c f t g a,j=.returned (.tuple #[.agg #[.int .i64 2,.slice b w c,.slice f t g,.int .i64 (a:Nat),.bool false],.int .i64 0])∧aB i n:=by
 refine (aLd _ 100 (fun _=>aA1) i (by decide) (fun v o d=>?_)).mono ?_
 ·obtain ⟨rfl,_,_⟩:=aL3 d;refine ⟨fun A m=>?_,by simp,fun u C _ _ x E q=>?_⟩
  ·simp at m;rcases m with rfl | rfl <;> kernel_rfl
  ·obtain rfl:u=100:=by omega
   exact aZ3 q
 ·rintro j n ⟨v,o,B,s,l,d⟩;obtain ⟨rfl,rfl,rfl⟩:=aL3 s;rcases d with ⟨e,_⟩ | ⟨_,e,_⟩ | ⟨_,_,_,F,H,G,a,z,y,D,rfl,k,p⟩
  ·exact absurd rfl e
  ·exact absurd ⟨by decide,by decide⟩ e
  ·obtain ⟨⟨rfl,rfl⟩,_⟩:=p;obtain ⟨b,c,rfl⟩:=aY k.st.row;rcases k.kp with ⟨_,r⟩ | ⟨_,rfl⟩
   ·obtain ⟨f,g,rfl⟩:=aY r;exact ⟨b,_,c,f,_,g,a,rfl,l⟩
   ·exact ⟨b,_,c,none,0,0,a,rfl,l⟩
set_option maxHeartbeats 4000000 in
theorem bA0 (c:World) (z:iW c):Calls Tryz.prog 4 #[] c fun m b5=>m=.returned (.bool true)∧aB c b5:=by
 have u:=aA (aZy c);have v:=aA (fun (b6:World)=>aZz b6);have a3:=aA z;clear z;go_enter Tryz.func4,Tryz.ntmps4;go_upto_region 2 with (first
  | (go_at_call 8;refine (aC u).mono ?_;rintro m b ⟨i,g,O,f,rfl,B,D,F,q⟩;have p:=aA F;have l:=aA B;have Y:=aA q;have a7:=q.size;clear F B q)
  | go_in)
 obtain ⟨d,H,r,t⟩ : ∃d,b.alloc (.cells #[.int .i64 1,.slice (some ⟨i,0,none⟩) 5 g,.slice none 0 0,.int .i64 (O:Nat),.bool false] 35)=d∧aB b d∧d.heap[b.heap.size]?=some (.cells #[.int .i64 1,.slice (some ⟨i,0,none⟩) 5 g,.slice none 0 0,.int .i64 (O:Nat),.bool false] 35 (0,0)):=⟨_,rfl,(Below.refl _ b).alloc (Nat.le_refl _) _,World.alloc_heap_new b _⟩;rw [H];have T:d.cell? ⟨b.heap.size,0,none⟩=some (.int .i64 1):=by simp [World.cell?,t]
 have U:d.cell? ⟨b.heap.size,1,none⟩=some (.slice (some ⟨i,0,none⟩) 5 g):=by simp [World.cell?,t]
 have Z:=aA (Y.o.trans (r.mono a7));have w:=aA r;clear H t r u;go_upto_region 3 with (first
  | (go_at_call 8;refine (aC v _).mono ?_;rintro m e ⟨Q,S,R,L,N,M,P,rfl,j⟩;have V:=aD j T;have W:=aD j U;have a0:=aA (aZ Z.o j);have x:=aA (w.o.trans (j.mono w.o.size));clear j)
  | go_in)
 obtain ⟨a,I,k,J⟩ : ∃a,e.alloc (.cells #[.int .i64 2,.slice Q S R,.slice L N M,.int .i64 (P:Nat),.bool false] 35)=a∧aB e a∧a.heap[e.heap.size]?=some (.cells #[.int .i64 2,.slice Q S R,.slice L N M,.int .i64 (P:Nat),.bool false] 35 (0,0)):=⟨_,rfl,(Below.refl _ e).alloc (Nat.le_refl _) _,World.alloc_heap_new e _⟩;rw [I];have b7:=aD k V;have c6:=aD k W;have b8:a.cell? ⟨e.heap.size,0,none⟩=some (.int .i64 2):=by simp [World.cell?,J]
 have s:aB c a:=aZ a0.o k;have n:aB b a:=x.o.trans (k.mono x.o.size);have E:f.length=4+1:=by have:=congrArg List.length l.o;simpa using this
 have A:f[4].1=pB:=by have:=congrArg (fun a8=>a8[4]?) l.o;simp only [List.getElem?_map] at this;rw [List.getElem?_eq_getElem (by omega)] at this;simpa using this
 have G:iD c.heap.size a (.slice (some ⟨i,0,none⟩) f.length g) f:=⟨bF p.o.row n (Nat.le_refl _),fun a9 a5=>by
  obtain ⟨a4,b1,b2,b3,b4⟩:=p.o.cl a9 a5;exact ⟨a4,b1,bF b2 n (Nat.le_refl _),fun b0 a6=>bF (b3 b0 a6) n (Nat.le_refl _),b4⟩⟩
 have X:=aA (aZu zZ [cP,kE,nZ] c.heap.size i g 4 f a (by decide) (fun c2 b9 c1 y=>⟨(aA0 y).1,(aA0 y).2.2⟩) (by intro c0 C;simp at C;rcases C with rfl | rfl | rfl <;> kernel_rfl) E G (a3.o.below s (Nat.le_refl _)) (aZx l.o) (by rw [A];rfl) (by omega) D);have a1:=aA s;clear I J k s n G A E D v T U V W p l;go_wp2_with (first
  | (go_at_call 9;refine (aC X).mono ?_;rintro m c5 ⟨rfl,o⟩;have c3:=aD o b7;have c4:=aD o b8;have a2:=aA (aZ a1.o o);clear o)
  | go_in)
 go_ret;exact ⟨rfl,a2.o⟩
structure RdL (w:World) (a:Option Addr) (cs:List (List Lt)):Prop where
 cell:∀k (h:k < cs.length),∃g ad cp,a=some ⟨g,0,none⟩∧w.cell? ⟨g,k,none⟩=some (.slice ad cs[k].length cp)∧bP w ad cs[k]∧pL w ad cs[k]
theorem RdL.below {w w':World} {b:Option Addr} {cs:List (List Lt)} (i:RdL w b cs) (a:aB w w'):RdL w' b cs:=⟨fun k m=>by
 obtain ⟨g,d,e,f,j,c,l⟩:=i.cell k m;exact ⟨g,d,e,f,aD a j,c.below a (Nat.le_refl _),l.below c a (Nat.le_refl _)⟩⟩
theorem bA1 (d:ByteArray) (f:World) (F:d.size≤140737488355328):Calls Tryz.prog 5 #[.string d] f fun l g=>∃i s j e c a,l=.returned (.tuple #[.slice i s j,.int .i64 c,.int .i64 a])∧s=List.length e∧kO d e c a∧(a=0→RdL g i e)∧aB f g:=by
 refine (aOr d f F).mono ?_;rintro l g ⟨L,b,c,a,rfl,r,q,A⟩;obtain ⟨G,H,rfl⟩:=aY q.mem.1;refine ⟨G,b.length,H,_,c,a,rfl,by simp,r,fun D=>⟨fun k E=>?_⟩,A⟩;subst D;have C:=aFd r;have z:=q.cls;have p:k < b.length:=by simpa using E
 obtain ⟨w,j,t,u,m,_,n,o⟩:=z.cell (k:=k) (by simpa using p);simp only [List.getElem_map] at n o ⊢;have B:bK (b[k].1.map Prod.fst)=true:=C _ (List.mem_map.2 ⟨b[k],List.getElem_mem p,rfl⟩);obtain ⟨I,J,v,_,x,y⟩:=o.lits (kL B);cases v;simp at m;exact ⟨w,t,u,m.1,n,x,y⟩
theorem aLg {c:ByteArray} {e:List (List Lt)} {d b:Int} (a:kO c e d b) (f:3000 < c.size):b=1:=by
 rcases a with ⟨_,_,_,a⟩ | ⟨a,_⟩
 ·exact a
 ·omega
def lN (cs:List (List Lt)):ByteArray:=⟨(cs.flatMap eR).toArray⟩
theorem bA2 (cs:List (List Lt)) (a:List Lt):lN cs++⟨(eR a).toArray⟩=lN (cs++[a]):=by refine vT ?_;rw [yT];simp [lN]
theorem aE6 (cs:List (List Lt)):(lN cs).size=(cs.flatMap eR).length:=by rw [dR,lN]
theorem aLh {a:List Lt} (b:bK a=true):(eR a).length≤97000:=by
 obtain ⟨⟨d,_⟩,c⟩:=aB1 b;have:=aF9 c a.length;unfold eR;split
 ·simp
 ·rw [List.length_append];simp;omega
theorem aLi {cs:List (List Lt)} (b:∀a∈cs,bK a=true):(cs.flatMap eR).length≤97000 * cs.length:=by
 induction cs with
 | nil=>simp
 | cons a r ih=>
  have e:=aLh (b a (by simp));have f:=ih fun c d=>b c (by simp [d])
  rw [List.flatMap_cons,List.length_append,List.length_cons];omega
theorem bA3 {cs:List (List Lt)} (c:kM (cs.flatMap eJ)) {a:List Lt} (b:a∈cs):kM (eJ a):=aHa c fun _ d=>List.mem_flatMap.2 ⟨a,b,d⟩
theorem aLj (c d:Option Addr) (g i:Nat) (a:List Lt) (b:World) (m:bP b c a) (n:bP b d a) (f:World) (o:∃p,f=b.drewN p) :
  Calls Tryz.prog 7 #[.slice c a.length g,.slice d a.length i] f fun j k=>j=.returned (.bool true)∧aB b k:=by
 have e:=aQ o;refine (aPz c d g i a f (m.below e (Nat.le_refl _)) (n.below e (Nat.le_refl _))).mono ?_;rintro j k ⟨rfl,l⟩;exact ⟨rfl,aZ e l⟩
set_option maxHeartbeats 8000000 in
theorem bA4 (a8:ByteArray) (y:World) (m:a8.size≤140737488355328) (a0:iW y) :
  Calls Tryz.prog 3 #[.string a8] y fun d g=>d=.returned (.bool true)∧aB y g:=by
 have b0:=aA (bA0 y a0);have d3:=aA (fun (k:World) (p:aB y k)=>a0.below p (Nat.le_refl _));have Q:=aA (fun (e:ByteArray) (e9:e.size≤140737488355328) (k:World)=>bA1 e k e9);have b1:=aA (fun (k:World)=>aC Q a8 m k);clear a0 m;go_enter Tryz.func3,Tryz.ntmps3;go_upto_region 2 with (first
  | (go_at_call 4;refine (aC b0).mono ?_;rintro d g0 ⟨rfl,b8⟩;have c8:=aA b8;clear b8)
  | go_in)
 go_upto_region 3 with (first
  | (go_at_call 5;refine (aC b1 _).mono ?_;rintro d f2 ⟨f4,f8,f5,b,u,f,rfl,e5,c6,c3,b9⟩;have b4:=aA c3;have V:=aA c6;have H:=aA (aZ c8.o b9);clear c3 c6 b9)
  | go_in)
 clear b0 b1;subst e5;by_cases O:f=0
 ·subst O;have c2:=aFd V.o;obtain ⟨c7,e1⟩:=aSb V.o;have I:=aA c2;have b7:=aA c7;have b5:=aA (b4.o rfl);clear b4 V c2 c7;go_wp2;go_loopw [7,8] (fun f1 r wr=>∃a:Nat,f1=.string (lN (b.take a))∧r=.int .i64 a∧a≤b.length∧aB f2 wr) (fun _ r _=>b.length - (intOf r).toNat);case atStart=>exact ⟨0,rfl,rfl,Nat.zero_le _,Below.refl _ _⟩
  case round=>
   obtain ⟨a,rfl,rfl,e3,c⟩:=hrel;by_cases q:a < b.length
   ·have e4:(a:Int) < (b.length:Int):=by omega
    obtain ⟨Y,t,v,rfl,W,w,J⟩:=(b5.o.below c).cell a q;have N:=I.o _ (List.getElem_mem q);have a7:=bA3 b7.o (List.getElem_mem q);have c4:=aLh N;have b6:aI (lN (b.take a)++⟨(eR b[a]).toArray⟩=lN (b.take (a+1))):=aA (by rw [bA2,List.take_succ_eq_append_getElem q]);have e8:(lN (b.take a)).size≤4000000:=by rw [aE6];have:=aLi (cs:=b.take a) (fun i M=>I.o i (List.mem_of_mem_take M));rw [List.length_take] at this;omega
    have c1:aB y wr:=aZ H.o c;have P:=aA ((aR4 t v b[a] wr w J (d3.o wr c1)).mono (R':=fun d g=>d=.returned (.tuple #[.string ⟨(eR b[a]).toArray⟩,.int .i64 0])∧aB wr g) (fun d g p=>by
     obtain ⟨e,f9,O,e7,e2⟩:=p;rcases e7 with ⟨_,_,rfl,rfl⟩ | ⟨e6,_⟩
     ·exact ⟨O,e2⟩
     ·exact absurd ⟨N,a7⟩ e6))
    have a6:(⟨(eR b[a]).toArray⟩ : ByteArray).size=(eR b[a]).length:=by rw [dR]
    have f7:(⟨(eR b[a]).toArray⟩ : ByteArray).size≤97000:=by rw [a6];exact c4
    have U:aI (∀s u f,kO ⟨(eR b[a]).toArray⟩ s u f→(⟨(eR b[a]).toArray⟩ : ByteArray).size≤3000→s=[b[a]]∧f=0):=aA (fun s u f p m=>aHb (cs:=[b[a]]) (by simpa using p) (by rw [a6] at m;simpa using m) (fun i M=>by simp at M;subst M;exact N) (by simpa using a7) (by simp));have R:=aA (fun (k:World)=>aC Q ⟨(eR b[a]).toArray⟩ (by omega) k);have d1:=aA w;have G:=aA c;generalize (⟨(eR b[a]).toArray⟩ : ByteArray)=e at *;generalize lN (b.take a)=A at *;generalize b[a]=i at *;clear c w J N a7 c4 a6 c1;go_upto_region 12 with (first
     | (go_at_call 6;refine (aC P).mono ?_;rintro d g1 ⟨rfl,c0⟩;have c9:=aA c0;clear c0)
     | (go_at_call 5;refine (aC R _).mono ?_;rintro d a9 ⟨d4,f0,d8,n,d5,e0,rfl,c5,F,E,D⟩;have z:=aA E;have o:=aA F;have l:=aA (aZ c9.o D);clear E F D)
     | go_in)
    by_cases a4:3000 < e.size
    ·have a3:(3000:Int) < (e.size:Int):=by omega
     have a2:=aLg o.o a4;subst a2;clear P R U;go_wp2;go_roundw;case rel=>exact ⟨a+1,by rw [b6.o],by go_num,by omega,aZ G.o l.o⟩
     case measure=>simp [intOf];omega
    ·have a3:¬(3000:Int) < (e.size:Int):=by omega
     obtain ⟨a5,a1⟩:=U.o _ _ _ o.o (by omega);subst a5;subst a1;obtain ⟨Z,B,C,rfl,L,x,X⟩:=(z.o rfl).cell 0 (by simp);simp only [List.getElem_cons_zero] at L x;have d9:=aD l.o W;have S:=aA (aLj t B v C i a9 (d1.o.below l.o (Nat.le_refl _)) x);clear P R U z o x X;go_wp2_with fail;go_region_held3 (fun g=>g.cell? ⟨Y,a,none⟩=some (.slice t i.length v)∧g.cell? ⟨Z,0,none⟩=some (.slice B i.length C)) (go_keep)
      ((go_at_call 7;refine (aC S _ (by first | exact ⟨0,rfl⟩ | exact ⟨1,rfl⟩ | exact ⟨_,rfl⟩)).mono ?_;rintro d f3 ⟨rfl,j⟩;have d6:=aD j d9;have d7:=aD j L;have T:=aA (aZ l.o j);clear j))
     go_wp2;go_roundw;case rel=>exact ⟨a+1,by rw [b6.o],by go_num,by omega,aZ G.o T.o⟩
     case measure=>simp [intOf];omega
   ·obtain rfl:a=b.length:=by omega
    rw [List.take_length];have e8:(lN b).size≤4000000:=by rw [aE6];have:=aLi I.o;omega
    have b2:=aA (fun (k:World)=>aC Q (lN b) (by omega) k);have b3:aI (∀s u f,kO (lN b) s u f→(lN b).size≤3000→s=b∧f=0):=aA (fun s u f p m=>aHb p (by rw [aE6] at m;exact m) I.o b7.o e1);generalize lN b=e at *;have G:=aA c;clear c;go_upto_region 19 with (first
     | (go_at_call 5;refine (aC b2 _).mono ?_;rintro d a9 ⟨d4,f0,d8,n,d5,e0,rfl,c5,F,E,D⟩;have z:=aA E;have o:=aA F;have l:=aA (aZ G.o D);clear E F D)
     | go_in)
    clear b2;by_cases a4:3000 < e.size
    ·have a3:(3000:Int) < (e.size:Int):=by omega
     have a2:=aLg o.o a4;subst a2;go_wp2;go_ret;exact ⟨rfl,aZ H.o l.o⟩
    ·have a3:¬(3000:Int) < (e.size:Int):=by omega
     obtain ⟨a5,a1⟩:=b3.o _ _ _ o.o (by omega);subst a5;subst a1;subst c5;have d2:=aA (z.o rfl);clear b3 z o;go_wp2;go_loopw [18] (fun r wr=>∃a:Nat,r=.int .i64 a∧a≤n.length∧aB a9 wr) (fun r _=>n.length - (intOf r).toNat);case atStart=>exact ⟨0,rfl,Nat.zero_le _,Below.refl _ _⟩
     case round=>
      obtain ⟨a,rfl,e3,c⟩:=hrel;by_cases q:a < n.length
      ·have e4:(a:Int) < (n.length:Int):=by omega
       obtain ⟨Y,t,v,rfl,W,w,J⟩:=(b5.o.below (aZ l.o c)).cell a q;obtain ⟨Z,B,C,rfl,L,x,X⟩:=(d2.o.below c).cell a q;have S:=aA (aLj t B v C n[a] wr w x);have d0:=aA c;clear c w J x X;generalize n[a]=i at *;go_wp2_with fail;go_region_held3 (fun g=>g.cell? ⟨Y,a,none⟩=some (.slice t i.length v)∧g.cell? ⟨Z,a,none⟩=some (.slice B i.length C)) (go_keep)
        ((go_at_call 7;refine (aC S _ (by first | exact ⟨0,rfl⟩ | exact ⟨1,rfl⟩ | exact ⟨_,rfl⟩)).mono ?_;rintro d f3 ⟨rfl,j⟩;have d6:=aD j W;have d7:=aD j L;have T:=aA (aZ d0.o j);clear j))
       go_wp2;go_roundw;case rel=>exact ⟨a+1,by go_num,by omega,T.o⟩
       case measure=>simp [intOf];omega
      ·obtain rfl:a=n.length:=by omega
       go_wp2;go_ret;exact ⟨rfl,aZ H.o (aZ l.o c)⟩
 ·have f6:(f != 0)=true:=by rw [bne_iff_ne];exact O
  go_wp2;go_ret;exact ⟨rfl,H.o⟩
end Go.Proofs.YtbpiopdphigodaaGreatDoor
namespace Go.Proofs.YtbpiopdphigodaaGreatDoor
open Go.ChangeShapes Go.WideShapes Go.ChangeAt Go.RowKit Go.Lib Go.Shelf
set_option maxRecDepth 100000
theorem own:ownKnob Tryz.prog.godebug=none:=by kernel_rfl
theorem bA5:laidOutB Tryz.prog=true:=by kernel_rfl
theorem bA6 {a:World} (d:laidMetH Tryz.prog Rows.printedRow.laid a):iW a:=by
 have b:laidMet Tryz.prog Rows.printedRow.laid a:=d;refine utf8Tabs_of_readsT (U8Types.of196 aHi) ⟨by kernel_rfl,by kernel_rfl,by kernel_rfl,by kernel_rfl,by kernel_rfl,by kernel_rfl,by kernel_rfl⟩ ?_ ?_
 ·rw [←Pinned.utf8First_eq];exact Lib.laidMet.reads b (by simp [Rows.printedRow,Rows.laid_unicode_utf8_first])
 ·have c:(Rows.laid_unicode_utf8_acceptRanges:DataW Unit)=acceptData:=by kernel_rfl
  rw [←c];exact Lib.laidMet.reads b (by simp [Rows.printedRow])
theorem contract (l:Type) (j:TypeId×Value→l) (a:World) (B:Nat) (e:Array Value) (m q:List (DataW l)) (C:List MemPlace)
  (x:∀(z:Nat) t g,Tryz.f3.params[z]?=some t→e[z]?=some g→Value.okWide Tryz.prog a .any B t g)
  (w:DataW.Whole j Tryz.prog Tryz.f3.params.toList Rows.printedSpec.vars false a e.toList m q C)
  (R:(DataW.weightsEach Tryz.prog (Tryz.f3.params.toList++Rows.printedSpec.plain.varTypes Tryz.prog) (m++q)).all (·≤reachBytes)=true)
  (F:laidMetH Tryz.prog Rows.printedRow.laid a) :
  Calls Tryz.prog 3 e a fun i c=>∃g,i=.returned g∧Rows.printedSpec.post j Tryz.prog Tryz.f3 false true false false a e g c:=by
 have o:=w;obtain ⟨k,X,u,G,rfl,_,_⟩:=w;have s:DataW.TrodAll j Tryz.prog a 0 (fun _=>true) true Tryz.f3.params.toList e.toList m k:=u;have y:=R;rw [Tryz.params3] at s x y;obtain ⟨T,f,rfl,rfl,r⟩:=trodAll_one s;obtain ⟨rfl,rfl⟩:=trodVars_none G;obtain ⟨b,rfl⟩:=okWide_string Tryz.underlying9 (x 0 9 T rfl rfl);have E:=r;obtain ⟨U,M⟩:=r;clear u;simp only [List.append_nil] at o;have N:∀p∈k,p.block < a.heap.size:=fun p Q=>by simpa using o.lt p Q
 have H:∀(c:World),aB a c→DataW.Trod j Tryz.prog c 0 (fun A=>decide (A < a.heap.size)) true 9 (.string b) f k:=
  fun c O=>Below.trod bA5 (by kernel_rfl) (of_decide_eq_true (by kernel_rfl)) E O N
 have P:b.size≤140737488355328:=by
  obtain ⟨S,i,I,_⟩:=DataW.trod_string Tryz.underlying9 M;obtain rfl:b=S:=by simpa [Value.cells] using i
  have J:f=.lit (.string b.data.toList):=congrArg Prod.fst I;have W:=reachBytes_lt;have:=List.all_eq_true.1 y b.size (DataW.weights_mem_each (j:=0) (t:=9) (d:=f) rfl rfl b.size (by rw [J];simp [DataW.weights]));have V:b.size≤reachBytes:=by simpa using this
  omega
 refine (bA4 b a P (bA6 F)).mono fun i c ⟨L,v⟩=>?_
 subst L;have n:Rows.printedSpec.fn l ([f]++[]) = {results:=[.lit (.bool true)],args:=[f]}:=rfl;refine ⟨_,rfl,_,_,_,[],k,[],o,?_,?_,by rw [n];rfl,v.frame _,fun D=>by cases D⟩
 ·rw [n];exact trodAll_mk1 (shut_bool Tryz.underlying4 _)
 ·rw [n];exact trodAll_mk1 (H _ v)
def aE7:DataW Unit→List Value
 | .agg l=>l.map fun
  | .lit (.int k z)=>.int k z
  | _=>.nilIface
 | _=>[]
noncomputable def aAa (b:Os):World:=
 let w0:=World.holding Tryz.prog b ⟨#[],#[],[]⟩;let put (h:Array Obj) (g:Nat) (cs:Array Value):Array Obj:=h.modify g fun
  | .cells _ t frozen=>.cells cs t frozen
  | o=>o
 let h1:=put w0.heap 2 (Lib.firstTab.map fun c=>Value.int .u8 c).toArray;let h2:=put h1 3 ((List.range 16).flatMap fun a=>[Value.int .u8 (Lib.accLo a),Value.int .u8 (Lib.accHi a)]).toArray;let h3:=put h2 0 (aE7 Rows.laid_internal_strconv_uint64pow10).toArray;let h4:=put h3 4 (aE7 Rows.laid_math_bits_deBruijn32tab).toArray;let h5:=put h4 5 (aE7 Rows.laid_math_bits_deBruijn64tab).toArray;{w0 with heap:=h5}
theorem bA7 (b:Os) (a:Array Value):laidMet Tryz.prog Rows.printedRow.laid ((aAa b).forCall (fun _ _=>0) ⟨#[],a,[]⟩).memory:=
 (LaidIn.of_run (l := [("math/bits.deBruijn32tab", Rows.laid_math_bits_deBruijn32tab), ("math/bits.deBruijn64tab", Rows.laid_math_bits_deBruijn64tab), ("internal/strconv.uint64pow10", Rows.laid_internal_strconv_uint64pow10), ("unicode/utf8.acceptRanges", Rows.laid_unicode_utf8_acceptRanges), ("unicode/utf8.first", Rows.laid_unicode_utf8_first)]) [4, 5, 0, 3, 2] 8 (by kernel_rfl) (by kernel_rfl) (by kernel_rfl) (by kernel_rfl)).met
theorem bA8 (a:Os) {e:Type} (b:TypeId×Value→e) :
  (OpenSpec.ofChange Rows.printedSpec).preRow b Tryz.prog Tryz.f3 Rows.printedRow.domain false Rows.printedRow.laid ((aAa a).forCall (fun _ _=>0) ⟨#[],#[.string ⟨#[]⟩],[]⟩).memory #[.string ⟨#[]⟩]:=by
 have g:(DataW.whole b Tryz.prog ((aAa a).forCall (fun _ _=>0) ⟨#[],#[.string ⟨#[]⟩],[]⟩).memory Tryz.f3.params.toList Rows.printedSpec.vars false #[Value.string ⟨#[]⟩].toList 8).map (fun d=>(d.1,d.2.1))=some ([.lit (.string [])],[]):=by kernel_rfl
 obtain ⟨⟨k,l,m⟩,i,c⟩:=Option.map_eq_some_iff.1 g;simp only [Prod.mk.injEq] at c;obtain ⟨rfl,rfl⟩:=c;exact OpenSpec.preRow_of_cond 8 i (by kernel_rfl) (fun j f=>by cases f) (by kernel_rfl) (bA7 a _)
theorem lifted (a:Os) (o:a.Started) (b:Type) (enc:TypeId×Value→b) (c:Stop.Interp) :
  ReturnsInHanded {} Tryz.checked a 3 .any ((OpenSpec.ofChange Rows.printedSpec).preRow enc Tryz.prog Tryz.f3 Rows.printedRow.domain false Rows.printedRow.laid) (((OpenSpec.ofChange Rows.printedSpec).at c).post enc Tryz.prog Tryz.f3 false true false false):=by
 refine returnsInHanded_of_row (C:=Tryz.checked) (s:=OpenSpec.ofChange Rows.printedSpec) own o (by kernel_rfl) Tryz.func3
  (witness_row_atRef (enc:=enc) (C:=Tryz.checked) false (aAa a) #[.string ⟨#[]⟩] rfl (by kernel_rfl) (by kernel_rfl) (by kernel_rfl) (bA8 a enc)) ?_
 intro d f e i j g m l _ _ n k _ _;exact contract b enc d f e i j g m l n k
theorem said:Rows.PrintedSaid:=
 OpenClaim.holds_of_cond 3 Tryz.f3 rfl rfl rfl rfl rfl rfl rfl ⟨rfl,rfl,rfl,rfl,rfl⟩ rfl rfl rfl rfl rfl (by kernel_rfl) Tryz.func3 (by kernel_rfl)
  (of_decide_eq_true (by kernel_rfl)) (by unfold Func.isWrapper;first | (rw [aG (by decide +kernel)];kernel_rfl) | (rw [aF (by decide +kernel)];exact ⟨rfl,rfl⟩))
  (fun d e b c _ a=>by rw [OpenClaim.pre_eq_preRow];exact lifted d e b c a)
theorem plain (b : FuncId) (c : Func) (f : Tryz.pinned.checked.prog.funcNamed "moot/mootkeep.Printed" = some b) (g : Tryz.pinned.checked.prog.funcs[b]? = some c) :
  false=Tryz.pinned.checked.prog.looks []∧∀(e:Nat) a,c.params[e]?=some a→Tryz.pinned.checked.prog.wantsStandIn a=false:=by
 obtain rfl : b = 3 := Option.some.inj ((show Tryz.prog.funcNamed "moot/mootkeep.Printed" = some 3 by kernel_rfl).symm.trans f) |>.symm
 obtain rfl:c=Tryz.f3:=(Option.some.inj (Tryz.func3.symm.trans g)).symm;refine ⟨by kernel_rfl,fun e a d=>?_⟩;rw [Tryz.params3] at d;obtain rfl:a=9:=by simpa using Array.mem_of_getElem? d
 exact (show Tryz.prog.wantsStandIn 9=false by kernel_rfl)
theorem printed_card:Rows.PrintedCardSaid:=
 Claim7.holds_tied_plain_at .later [] _ _ _ _ said (fun _ a=>by cases a) (by kernel_rfl) (fun _ a=>by cases a) printed_row_tie rfl ⟨rfl,rfl⟩ (by kernel_rfl) rfl plain (by kernel_rfl)
#print axioms printed_card
end Go.Proofs.YtbpiopdphigodaaGreatDoor
