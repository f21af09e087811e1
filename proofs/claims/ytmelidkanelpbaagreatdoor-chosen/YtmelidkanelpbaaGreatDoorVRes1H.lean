import Derived.Test.YtmelidkanelpbaaGreatDoorVRes0H
import Derived.Test.YtmelidkanelpbaaGreatDoorVCon4H
open Array renaming replicate_succ→zk,replicate_zero→zj
open List renaming filterMap_append→zy,filterMap_cons→zw,filterMap_nil→zu,getElem_mem→zs,getElem_of_mem→zq,length_append→zp,append_nil→zo,mem_map→zn,getElem?_append_right→zm,getElem?_eq_some_iff→zl,append_toArray→zi,size_toArray→zg,push_toArray→zf,length_cons→ze,cons_append→zd,take_length→zc
open Nat renaming le_refl→zz,le_trans→zv
namespace Go.Proofs.YtmelidkanelpbaaGreatDoor
open _root_.Go.Proofs.Tryz renaming prog→zt
open World renaming alloc_heap_new→zx,size_alloc→zr,ownsRow_nil→zh
open Go.RowKit Go.Shelf Go.WideMaps
set_option maxHeartbeats 8000000
set_option maxRecDepth 100000
variable{d:List Lt}{B k:Nat}{v vs:Value}{W W' w w':World}
section
theorem lK.below{tb c:Nat}{e:List Tg}(a:lK B tb c e w)(b:aB w w'):lK B tb c e w':=by obtain ⟨j,g,i,vs,f⟩:=a.tm;exact ⟨⟨j,g,i,vs,f.below b⟩,a.first.at (b.block c a.first.lt),a.whole,zv a.big b.size,a.ne,a.mlow⟩
theorem zB.lift{b:World}{c:List Tg}{e f:Nat}{j:List (Int×Lt)}{l:Bool}{g:Int}(i:zB b b.heap.size c e f j v l g w')(a:aB w b):zB w w.heap.size c e f j v l g w':=by obtain ⟨q,n,⟨m,s,t,u,x⟩,o⟩:=i.out;exact ⟨⟨q,n,⟨m,s,iP t a.size,λr p=>iP (u r p) a.size,x⟩,o⟩,bK a i.low⟩
theorem aNe(b4 b5:Option Addr)(l n:Nat)(a d:List Lt)(b c:Nat)(w:World)(G:cH w b4 a)(H:cH w b5 d)(I:∀f∈a,aQ f.2 1=true/\f.2.length<=60)(J:∀f∈d,aQ f.2 1=true/\f.2.length<=60)(d1:b<a.length)(d2:c<d.length)(c8:a.length<=8)(d0:d.length<=8):Calls zt 83 #[.slice b4 a.length l,.int .i64 b,.slice b5 d.length n,.int .i64 c] w λg w'=>CoQ w w.heap.size (aN 0 a[b].2++aN 1 d[c].2) 0 a[b].2.length (aZ 0 [(a,b),(d,c)]) g w':=by
 obtain ⟨p,x,b6,b7,rfl,f1,E,c0⟩:=G.cell b d1;obtain ⟨q,y,b8,b9,rfl,f2,F,c1⟩:=H.cell c d2;obtain ⟨a3,g0⟩:=I a[b] (zs _);obtain ⟨a4,h3⟩:=J d[c] (zs _);have g8:=zC (m:=60) (λf Z=>(I f Z).2);have h0:=zC (m:=60) (λf Z=>(J f Z).2);have a7:=aA (aB2 _ l a w G c8);have a8:=aA (λ(e:World) (s:aB w e)=>aB2 _ n d e (H.below s (zz _)) d0);have a9:=aA (λ(e:World)=>aNc (aR a+aR d) (by omega) e);have e0:=aA G;have e1:=aA H;have b1:=aA I;have b2:=aA J;have N:=aA c0;have O:=aA c1;have g7:(b:Int)<(a.length:Int):=by omega
 have g9:(c:Int)<(d.length:Int):=by omega
 have h1:a[b].2.length<=60:=g0;clear G H I J c0 c1 f1 f2;go_enter Tryz.func83,Tryz.ntmps83;go_upto_region 2 with (first
  |(go_at_call 103;refine (aD a9 _).mono ?_;rintro g M ⟨z,u,h8,h6,h7,vs,rfl,c5⟩;have D:=aA c5;clear c5)
  |(go_at_call 44;refine (aD a8 g1 b0.o).mono ?_;rintro g i ⟨rfl,c7⟩;have o:=aA (bK b0.o c7);clear c7)
  |(go_at_call 44;refine (aD a7).mono ?_;rintro g g1 ⟨rfl,c6⟩;have b0:=aA c6;clear c6)
  |go_in)
 have A:=aA (bK o.o D.o.low);have e3:=aA (lK.new D.o);have a0:=o.o.size;have f4:=D.o.low.size;have a5:=aA (λ(e:World) (r:lK i.heap.size z u [] e) (s:aB w e)=>aBw r 0 b6 b7 a[b].2 (N.o.below s (zz _)) a3 (λa1 X=>by have:=zE N.o a3 a1 X;omega) (by simp;omega) (by omega));have a6:=aA (λ(e:World) (r:lK i.heap.size z u ([]++aN 0 a[b].2) e) (s:aB w e)=>aBw r 1 b8 b9 d[c].2 (O.o.below s (zz _)) a4 (λa1 X=>by have:=zE O.o a4 a1 X;omega) (by simp;omega) (by omega));have d9:=aA (λ(e:World) (r:lK i.heap.size z u (aN 0 a[b].2++aN 1 d[c].2) e)=>aNd r a3 a4 (λh4 ht=>by
  rcases List.mem_append.1 ht with ht|ht
  ·obtain ⟨f6,V,rfl⟩:=zn.1 ht;obtain ⟨k,t,rfl⟩:=zq V;exact N.o.short k t
  ·obtain ⟨f6,V,rfl⟩:=zn.1 ht;obtain ⟨k,t,rfl⟩:=zq V;exact O.o.short k t) (by simp;omega))
 have g5:=aC A.o E;have g6:=aC A.o F;rw [show (([]:List Tg).length:Int)=((0:Nat):Int) from rfl] at a5;rw [show (([]++aN 0 a[b].2:List Tg).length:Int)=((a[b].2.length:Nat):Int) by simp] at a6;clear a7 a8 a9;go_region_held3 (λw'=>w'.cell? ⟨p,x+b*2+1,none⟩=some (.slice b6 a[b].2.length b7)/\w'.cell? ⟨q,y+c*2+1,none⟩=some (.slice b8 d[c].2.length b9)) (first|exact ⟨aC Q.o E,aC Q.o F⟩|exact ⟨aC P.o E,aC P.o F⟩|exact ⟨aC C.o E,aC C.o F⟩|go_keep) (first
  |(go_at_call 104;refine (aD d9 g3 e5.o).mono ?_;rintro g j ⟨f8,rfl,U,d5,d7,d4⟩;have Q:=aA (P.o.trans (U.mono a0));have b3:=aA (e7.o.trans U);have f0:=aA d7;have e8:=aA d4;have g4:=aA d5;clear U d5 d7 d4)
  |(go_at_call 105;refine (aD a6 g2 e4.o C.o).mono ?_;rintro g g3 ⟨rfl,c4,T⟩;have e5:=aA c4;have P:=aA (C.o.trans (T.mono a0));have e7:=aA (e6.o.trans T);clear c4 T)
  |(go_at_call 105;refine (aD a5 M.drew (e3.o.below (aU ⟨1,rfl⟩)) (A.o.trans ((aU (w1:=M.drew) ⟨1,rfl⟩).mono (by omega)))).mono ?_;rintro g g2 ⟨rfl,c3,S⟩;have e4:=aA c3;have e6:=aA ((D.o.low.trans ((aU (w1:=M.drew) ⟨1,rfl⟩).mono f4)).trans S);have C:=aA ((A.o.trans ((aU (w1:=M.drew) ⟨1,rfl⟩).mono (by omega))).trans (S.mono a0));clear c3 S))
 have Y:∀a2∈aZ 0 [(a,b),(d,c)],aQ a2.2.2 1=true:=by
  intro a2 f3;obtain ⟨f9,L,d3⟩:=sD _ _ a2 f3;simp at L;rcases L with rfl|rfl
  ·exact (b1.o _ d3).1
  ·exact (b2.o _ d3).1
 cases f8 with
 |false=>
  have e9:aM (dU (aN 0 a[b].2++aN 1 d[c].2) 0 a[b].2.length (aZ 0 [(a,b),(d,c)]) [] false 0):=aA (Or.inl ⟨e8.o rfl _ Y,rfl,rfl,rfl⟩);clear Y;go_wp2;go_returns;exact ⟨_,_,_,rfl,⟨⟨[],e9.o,bR.nil _ _,by simp⟩,Q.o⟩⟩
 |true=>
  obtain ⟨f7,c9⟩:=f0.o rfl;have R:aB j (j.alloc (.cells #[.slice (some ⟨p,x,none⟩) a.length l,.int .i64 b,.slice (some ⟨q,y,none⟩) d.length n,.int .i64 c] 158)):=(Below.refl _ _).alloc (zz _) _;have f5:=b3.o.size;have d6:sE i i.heap.size z u (aN 0 a[b].2++aN 1 d[c].2) 0 a[b].2.length j.heap.size #[.slice (some ⟨p,x,none⟩) a.length l,.int .i64 b,.slice (some ⟨q,y,none⟩) d.length n,.int .i64 c] [] (.slice none 0 0) (j.alloc (.cells #[.slice (some ⟨p,x,none⟩) a.length l,.int .i64 b,.slice (some ⟨q,y,none⟩) d.length n,.int .i64 c] 158)):=
   ⟨⟨f7,[],[],⟨by simpa [aW,cS] using c9.below R,rfl,rfl,zh _ _ _ _,λf9 L=>by simp at L,b3.o.trans (R.mono f5)⟩⟩,by show (j.heap.push _)[j.heap.size]?=_;simp⟩
  have d8:=aA (aN6 i i.heap.size z u (aN 0 a[b].2++aN 1 d[c].2) 0 a[b].2.length j.heap.size 2 _ (λk=>if k=0 then some ⟨p,x,none⟩ else some ⟨q,y,none⟩) (λk=>if k=0 then l else n) [(a,b),(d,c)] _ d6 rfl (λk t=>by
   match k,t with
   |0,_=>exact ⟨rfl,rfl,e0.o.below o.o (zz _),d1,c8,b1.o⟩
   |1,_=>exact ⟨rfl,rfl,e1.o.below o.o (zz _),d2,d0,b2.o⟩) (by simp) (by simp;omega))
  clear Y c9 d6 R;go_wp2_with (first
   |(go_at_call 106;refine (aD d8).mono ?_;rintro g h9 ⟨h5,i0,h2,rfl,c2⟩;have e2:=aA (c2.lift o.o);clear c2)
   |go_in)
  go_returns;exact ⟨_,_,_,rfl,e2.o⟩
theorem bCm(a5:Option Addr)(l:Nat)(a:List Lt)(b c:Nat)(w:World)(o:cH w a5 a)(q:∀F∈a,aQ F.2 1=true/\F.2.length<=60)(d9:b<a.length)(c0:c<a.length)(b8:a.length<=8):Calls zt 84 #[.slice a5 a.length l,.int .i64 b,.int .i64 c] w λf w'=>CoQ w w.heap.size (aN 0 a[b].2++aN 0 a[c].2) 0 a[b].2.length (aZ 0 [(a,c)]) f w':=by
 obtain ⟨j,n,a6,a7,rfl,d7,A,b0⟩:=o.cell b d9;obtain ⟨f3,g0,a8,a9,b7,d8,C,b1⟩:=o.cell c c0;simp at b7;obtain ⟨rfl,rfl⟩:=b7;obtain ⟨X,e9⟩:=q a[b] (zs _);obtain ⟨Y,g2⟩:=q a[c] (zs _);have f7:=zC (m:=60) (λF e2=>(q F e2).2);have a1:=aA (aB2 _ l a w o b8);have a2:=aA (λ(e:World)=>aNc (aR a) (by omega) e);have c7:=aA o;have a3:=aA q;have G:=aA b0;have H:=aA b1;have f6:(b:Int)<(a.length:Int):=by omega
 have f8:(c:Int)<(a.length:Int):=by omega
 have f9:a[b].2.length<=60:=e9;clear o q b0 b1 d7 d8;go_enter Tryz.func84,Tryz.ntmps84;go_upto_region 2 with (first
  |(go_at_call 103;refine (aD a2 _).mono ?_;rintro f E ⟨t,s,g7,g5,g6,vs,rfl,b5⟩;have z:=aA b5;clear b5)
  |(go_at_call 44;refine (aD a1).mono ?_;rintro f g ⟨rfl,b6⟩;have u:=aA b6;clear b6)
  |go_in)
 have x:=aA (bK u.o z.o.low);have c9:=aA (lK.new z.o);have T:=u.o.size;have e3:=z.o.low.size;have Z:=aA (λ(e:World) (p:lK g.heap.size t s [] e) (M:aB w e)=>aBw p 0 a6 a7 a[b].2 (G.o.below M (zz _)) X (λU R=>by have:=zE G.o X U R;omega) (by simp;omega) (by omega));have a0:=aA (λ(e:World) (p:lK g.heap.size t s ([]++aN 0 a[b].2) e) (M:aB w e)=>aBw p 0 a8 a9 a[c].2 (H.o.below M (zz _)) Y (λU R=>by have:=zE H.o Y U R;omega) (by simp;omega) (by omega));have c6:=aA (λ(e:World) (p:lK g.heap.size t s (aN 0 a[b].2++aN 0 a[c].2) e)=>aNd p X Y (λg3 ht=>by
  rcases List.mem_append.1 ht with ht|ht
  ·obtain ⟨e5,Q,rfl⟩:=zn.1 ht;obtain ⟨k,r,rfl⟩:=zq Q;exact G.o.short k r
  ·obtain ⟨e5,Q,rfl⟩:=zn.1 ht;obtain ⟨k,r,rfl⟩:=zq Q;exact H.o.short k r) (by simp;omega))
 have f4:=aC x.o A;have f5:=aC x.o C;rw [show (([]:List Tg).length:Int)=((0:Nat):Int) from rfl] at Z;rw [show (([]++aN 0 a[b].2:List Tg).length:Int)=((a[b].2.length:Nat):Int) by simp] at a0;clear a1 a2;go_region_held3 (λw'=>w'.cell? ⟨j,n+b*2+1,none⟩=some (.slice a6 a[b].2.length a7)/\w'.cell? ⟨j,n+c*2+1,none⟩=some (.slice a8 a[c].2.length a9)) (first|exact ⟨aC J.o A,aC J.o C⟩|exact ⟨aC I.o A,aC I.o C⟩|exact ⟨aC y.o A,aC y.o C⟩|go_keep) (first
  |(go_at_call 104;refine (aD c6 f1 d1.o).mono ?_;rintro f i ⟨e7,rfl,P,c2,c4,c1⟩;have J:=aA (I.o.trans (P.mono T));have a4:=aA (d3.o.trans P);have d6:=aA c4;have d4:=aA c1;have f2:=aA c2;clear P c2 c4 c1)
  |(go_at_call 105;refine (aD a0 f0 d0.o y.o).mono ?_;rintro f f1 ⟨rfl,b4,O⟩;have d1:=aA b4;have I:=aA (y.o.trans (O.mono T));have d3:=aA (d2.o.trans O);clear b4 O)
  |(go_at_call 105;refine (aD Z E.drew (c9.o.below (aU ⟨1,rfl⟩)) (x.o.trans ((aU (w1:=E.drew) ⟨1,rfl⟩).mono (by omega)))).mono ?_;rintro f f0 ⟨rfl,b3,N⟩;have d0:=aA b3;have d2:=aA ((z.o.low.trans ((aU (w1:=E.drew) ⟨1,rfl⟩).mono e3)).trans N);have y:=aA ((x.o.trans ((aU (w1:=E.drew) ⟨1,rfl⟩).mono (by omega))).trans (N.mono T));clear b3 N))
 have S:∀V∈aZ 0 [(a,c)],aQ V.2.2 1=true:=by intro V e1;obtain ⟨e8,D,e0⟩:=sD _ _ V e1;simp at D;subst D;exact (a3.o _ e0).1
 cases e7 with
 |false=>
  have d5:aM (dU (aN 0 a[b].2++aN 0 a[c].2) 0 a[b].2.length (aZ 0 [(a,c)]) [] false 0):=aA (Or.inl ⟨d4.o rfl _ S,rfl,rfl,rfl⟩);clear S;go_wp2;go_returns;exact ⟨_,_,_,rfl,⟨⟨[],d5.o,bR.nil _ _,by simp⟩,J.o⟩⟩
 |true=>
  obtain ⟨e6,b9⟩:=d6.o rfl;have L:aB i (i.alloc (.cells #[.slice (some ⟨j,n,none⟩) a.length l,.int .i64 c] 158)):=(Below.refl _ _).alloc (zz _) _;have e4:=a4.o.size;have c3:sE g g.heap.size t s (aN 0 a[b].2++aN 0 a[c].2) 0 a[b].2.length i.heap.size #[.slice (some ⟨j,n,none⟩) a.length l,.int .i64 c] [] (.slice none 0 0) (i.alloc (.cells #[.slice (some ⟨j,n,none⟩) a.length l,.int .i64 c] 158)):=
   ⟨⟨e6,[],[],⟨by simpa [aW,cS] using b9.below L,rfl,rfl,zh _ _ _ _,λe8 D=>by simp at D,a4.o.trans (L.mono e4)⟩⟩,by show (i.heap.push _)[i.heap.size]?=_;simp⟩
  have c5:=aA (aN6 g g.heap.size t s (aN 0 a[b].2++aN 0 a[c].2) 0 a[b].2.length i.heap.size 1 _ (λ_=>some ⟨j,n,none⟩) (λ_=>l) [(a,c)] _ c3 rfl (λk r=>by
   match k,r with
   |0,_=>exact ⟨rfl,rfl,c7.o.below u.o (zz _),c0,b8,a3.o⟩) (by simp) (by simp;omega))
  clear S b9 c3 L;go_wp2_with (first
   |(go_at_call 106;refine (aD c5).mono ?_;rintro f g8 ⟨g4,g9,g1,rfl,b2⟩;have c8:=aA (b2.lift u.o);clear b2)
   |go_in)
  go_returns;exact ⟨_,_,_,rfl,c8.o⟩
attribute [local go_sem] Oper.semAt_some
structure aK where
 r:Nat
 a:Nat
 b:Nat
 i:Nat
 j:Nat
 c:List Lt
noncomputable def kF(a:List Lt)(c e:Nat):List Lt×Bool×Int:=Classical.epsilon λb=>dU (aN 0 (a.getD c default).2++aN 0 (a.getD e default).2) 0 (a.getD c default).2.length (aZ 0 [(a,e)]) b.1 b.2.1 b.2.2
noncomputable def kG(a:List Lt)(b:Nat)(d:List Lt)(e:Nat):List Lt×Bool×Int:=Classical.epsilon λc=>dU (aN 0 (a.getD b default).2++aN 1 (d.getD e default).2) 0 (a.getD b default).2.length (aZ 0 [(a,b),(d,e)]) c.1 c.2.1 c.2.2
def gJ(a:List Lt)(b:Nat):Bool:=(a.getD b default).1
noncomputable def lL(b:List Lt)(c:Nat)(a:Nat×Nat):Option (aK×Int):=
 if a.1<a.2/\gJ b a.1=gJ b a.2 then (if (kF b a.1 a.2).2.1=true\/(kF b a.1 a.2).2.2≠0 then some (⟨3,c,0,a.1,a.2,(kF b a.1 a.2).1⟩,(kF b a.1 a.2).2.2) else none) else none
noncomputable def lM(a:List Lt)(b:Nat):List (aK×Int):=(fH a a).filterMap (lL a b)
def sH(B:Nat)(a:aK×Int)(e:Array Value)(W:World):Prop:=∃b c,e=#[.agg #[.int .i64 a.1.r,.int .i64 a.1.a,.int .i64 a.1.b,.int .i64 a.1.i,.int .i64 a.1.j,.slice b a.1.c.length c],.int .i64 a.2]/\bR B W (.slice b a.1.c.length c) a.1.c
theorem bR.shape{b:List Lt}(g:bR B w v b):∃e a,v=.slice e b.length a:=by obtain ⟨j,rfl,i,_⟩:=g;obtain ⟨c,a,f⟩:=bA i;exact ⟨c,a,by simpa using f⟩
theorem bR.low{a:Nat}{b:List Lt}(f:bR B w v b)(c:a<=B):bR a w v b:=by obtain ⟨e,j,l,m,n⟩:=f;exact ⟨e,j,iP l c,λi g=>iP (m i g) c,n⟩
theorem bR.below{a:List Lt}(b:bR B w v a)(c:aB w w'):bR B w' v a:=(Mv.of_below (S:=[]) (B:=0) c).clause b (by simp) (by simp)
theorem fZ{a:List Lt}{b:Nat}(c:b<a.length):a.getD b default=a[b]:=by simp [c]
structure vH(B:Nat)(W:World)(bc ba:Nat)(v:Value)(c:List Lt)(a:Nat):Prop where
 x1:Boxed W bc 51 v
 x2:Boxed W ba 3 (.int .i64 a)
 m1:bR B W v c
theorem vH.kept{e c:Nat}{f:List Lt}{a:Nat}(b:vH B W e c v f a)(k:cO bU W W'):vH B W' e c v f a:=
 ⟨k.boxed b.x1 (by decide),k.boxed b.x2 (by decide),k.clause b.m1 (by decide) (by decide)⟩
theorem bW{S:List TypeId}(a:aB W W'):cO S W W':=(Mv.of_below (S:=S) (B:=0) a).kps
theorem qD{a:Nat->World->Prop}{N:Nat}(e:OwnFrom N a){b:Nat}{w w':World}(f:a b w)(g:aB w w'):a b w':=
 e b w w' none f (gM g) (λi c=>by cases c)
theorem tQ{j:Type}{N:Nat}{I:j->World->Prop}(c:∀a W W',I a W->cO bU W W'->I a W'):OwnFrom N I:=λa W W' _ g e f=>c a W W' g (cO.grown e (λi b=>(f i b).2))
theorem xB{g n p o:Nat}{e:FuncId}{i:Array Value}{b c:Code}{a:Ending->World->Prop}(f:RoundIn Fence.wide p zt g e i b c w a):RoundIn (Fence.wide.inRound n) o zt g e i b c w a:=
 ⟨f.1,λj l _=>f.2 j l (λd m=>by cases m)⟩
theorem aNf(a b:Option Addr)(f g c e:Nat)(w:World):Calls zt 97 #[.slice a f c,.slice b g e] w λi w'=>i=.returned (.func (.func 110) #[] #[.pointer (some ⟨w.heap.size,0,none⟩),.pointer (some ⟨w.heap.size+1,0,none⟩)])/\w'=(w.alloc (.cells #[.slice a f c] 51)).alloc (.cells #[.slice b g e] 51):=by go_enter Tryz.func97,Tryz.ntmps97;go_wp2;go_ret;exact ⟨rfl,rfl⟩
theorem zF(w:World)(c e:Value)(a:TypeId):∃b,(w.alloc (.cells #[c] a)).alloc (.cells #[e] a)=b/\aB w b/\Boxed b w.heap.size a c/\Boxed b (w.heap.size+1) a e/\b.heap.size=w.heap.size+2:=by refine ⟨_,rfl,((Below.refl _ w).alloc (zz _) _).alloc (by simp) _,(Below.heap_alloc _ _ _ (by simp)).trans (zx w _),?_,by simp⟩;have:=zx (w.alloc (.cells #[c] a)) (.cells #[e] a);rwa [zr] at this
theorem aFr(w:World)(v:Value)(b:TypeId):∃a,w.alloc (.cells #[v] b)=a/\aB w a/\Boxed a w.heap.size b v/\a.heap.size=w.heap.size+1:=⟨_,rfl,(Below.refl _ w).alloc (zz _) _,zx w _,by simp⟩
theorem aFs{a:List Lt}{c e:Nat}(g:(fH a d)[k]?=some (c,e)):c<a.length/\e<d.length:=by have b:=List.mem_of_getElem? g;simp only [fH,lJ,kW,List.mem_flatMap,zn,List.mem_filter,List.mem_range] at b;obtain ⟨l,i,m,⟨j,_⟩,f⟩:=b;cases f;exact ⟨i,j⟩
theorem aNg{a:List Lt}{b c:Nat}(l:b<a.length)(m:c<a.length){g:List Lt}{j:Bool}{e:Int}(f:dU (aN 0 a[b].2++aN 0 a[c].2) 0 a[b].2.length (aZ 0 [(a,c)]) g j e):kF a b c=(g,j,e):=by have r:∃i:List Lt×Bool×Int,dU (aN 0 (a.getD b default).2++aN 0 (a.getD c default).2) 0 (a.getD b default).2.length (aZ 0 [(a,c)]) i.1 i.2.1 i.2.2:=⟨(g,j,e),by rw [fZ l,fZ m];exact f⟩;have q:=Classical.epsilon_spec r;rw [<-fZ l,<-fZ m] at f;obtain ⟨n,o,p⟩:=aFp q f;unfold kF;exact Prod.ext n (Prod.ext o p)
theorem qF{c:Type}{a:List c}{b:c}(e:a[k]?=some b):a.take (k+1)=a.take k++[b]:=by rw [List.take_add_one,e];rfl
theorem aBx{c i:Type}{a:List c}{b:c->Option i}{f:c}{g:i}(e:a[k]?=some f)(j:b f=some g):(a.filterMap b)[((a.take k).filterMap b).length]?=some g:=by
 have l:=(zl.1 e).1;have:a.filterMap b=(a.take k).filterMap b++(a.drop k).filterMap b:=by rw [<-zy,List.take_append_drop]
 rw [this,zm (zz _),Nat.sub_self,List.drop_eq_getElem_cons l,(zl.1 e).2];simp [j]
theorem aFt{a:Nat->World->Prop}{b c:Nat}(i:OwnFrom b a)(j:b<=c)(e:Nat->Nat):OwnFrom c (λk W=>a (e k) W):=λp f g o n l m=>tO i j (e p) f g o n l m
theorem bCn(b7 M J B:Nat)(v:Value)(a:List Lt)(e:Nat)(j0:3<=b7)(x:kU a)(W:World)(i1:B<=W.heap.size)(P:vH B W M J v a e):tN Fence.wide b7 zt 96 #[.pointer (some ⟨M,0,none⟩),.pointer (some ⟨J,0,none⟩)] (sH B) bU (lM a e) W:=by
 intro Z c7 c8 d2 d4 d7 h0;have i2:=x.len;have c5:=aA d7;have D:=aA d2;clear d7 d2;refine callsIn_of_wp_marks Tryz.func96 rfl trivial ?_ rfl;simp only [Tryz.ntmps96,zg,ze,List.length_nil,Nat.reduceAdd,Nat.reduceSub,zk,zj,zf,zi,List.nil_append,zd];obtain ⟨F,t,rfl,_,p,_⟩:=P.m1.lits x;have d0:=P.x1.cell;have f6:=λa3=>aC ((Below.refl W.heap.size W).alloc (zz _) a3) d0
 have f1:=aA P;clear P p d0;gi_wp2
 clear f6;refine ⟨trivial,λ_=>by omega,(callsIn_wide.2 (aNf _ _ _ _ _ _ _)).mono ?_⟩;rintro g w' ⟨rfl,rfl⟩;gi_wp2
 obtain ⟨f2,d5,d8,e6,g5⟩:=aFr W (.func (.yield Z) #[] #[]) 130;simp only [d5] at *;obtain ⟨A,d6,a9,e2,e3,j2⟩:=zF f2 (.slice F a.length t) (.slice F a.length t) 51;simp only [d6] at *;have i:aB W A:=bK d8 a9;have g6:Boxed A W.heap.size 130 (.func (.yield Z) #[] #[]):=(bW (S:=bU) a9).boxed e6 (by decide);have a6:=f1.o.kept (bW (S:=bU) i);have f9:=qD D.o h0 i;clear d5 d6 e6 d8 a9 h0;rw [g5] at e2 e3;refine aN0 rfl (by omega) (gf:=110) (lb:=#[.pointer (some ⟨W.heap.size+1,0,none⟩),.pointer (some ⟨W.heap.size+1+1,0,none⟩)]) rfl trivial (enters_of Tryz.func110 (by kernel_rfl) rfl)
  (Enc:=λ(a0:Nat×Nat) a4 _=>a4=#[.int .i64 a0.1,.int .i64 a0.2]) (S:=bU) (L:=fH a a)
  (λe8 j4=>aN3 (b7-1) (W.heap.size+1) (W.heap.size+1+1) B (.slice F a.length t) (.slice F a.length t) a a (by omega) x x _ (qA.kept ⟨e2,e3,a6.m1,a6.m1⟩ (bW (((Below.refl _ A).alloc (zz _) _).alloc (by simp) _))))
  (λa0 a4 W j=>by rw [j];rfl)
  (λk W'=>c7 (((fH a a).take k).filterMap (lL a e)).length W'/\(vH B W' M J (.slice F a.length t) a e/\Boxed W' W.heap.size 130 (.func (.yield Z) #[] #[]))/\A.heap.size<=W'.heap.size)
  (λG _ W'=>G=.ret/\∃k,c8 k W') ?hI ?hIx ?h0 ?A ?assign ?body ?done ?stop
 case hI=>exact (aFt D.o i.size _).and ((tQ (λ_ _ _ j k=>⟨j.1.kept k,k.boxed j.2 (by decide)⟩)).and (λ_ _ _ _ j b0 _=>zv j b0.size))
 case hIx=>
  rintro G j7 a3 f5 g9 ⟨a5,k,N⟩ b0 g3;exact ⟨a5,k,tO d4 i.size k a3 f5 g9 N b0 g3⟩
 case h0=>exact ⟨by simpa using f9,⟨a6,g6⟩,zz _⟩
 case assign=>
  rintro e7 a0 a4 q K rfl hK;gi_wp2
  exact hK
 case body=>
  rintro e7 k ⟨b,c⟩ q i7 b3 ⟨d3,⟨H,Y⟩,e5⟩;obtain ⟨T,U⟩:=aFs b3;obtain ⟨h3,h8,f7,_,p,_⟩:=H.m1.lits x;cases f7;obtain ⟨d1,e9,h4,h5,g,j3,b5,b6⟩:=p.cell b T;obtain ⟨i0,j5,h6,h7,c9,g8,b8,b9⟩:=p.cell c U;rw [g] at c9;cases c9;subst g;have i8:=H.x1.cell;have i9:=H.x2.cell;have i5:(b:Int)<(a.length:Int):=by omega
  have i6:(c:Int)<(a.length:Int):=by omega
  have V:gJ a b=a[b].1:=by unfold gJ;rw [fZ T]
  have X:gJ a c=a[c].1:=by unfold gJ;rw [fZ U]
  have C:=aA H;have c6:=aA Y;have c3:=aA d3;have E:=aA e5;have z:=aA b3;have b2:zt.follows .mixedOrders=true:=by kernel_rfl
  have e4:lL a e (b,c)=none->∀nq d,aBo A.heap.size bU (λk W'=>c7 (((fH a a).take k).filterMap (lL a e)).length W'/\(vH B W' M J (.slice (some ⟨d1,e9,none⟩) a.length t) a e/\Boxed W' W.heap.size 130 (.func (.yield Z) #[] #[]))/\A.heap.size<=W'.heap.size) (λG _ W'=>G=.ret/\∃k,c8 k W') k q .normal d (q.drewN nq):=by intro g4 nq d;have r:aB q (q.drewN nq):=aU ⟨nq,rfl⟩;refine ⟨(Mv.of_below (S:=[]) (B:=0) r).keepsFrom,bW r,?_,⟨C.o.kept (bW r),(bW (S:=bU) r).boxed c6.o (by decide)⟩,E.o⟩;rw [qF z.o,zy];simp only [zw,g4,zu,zo];exact qD D.o c3.o r
  have c4:=aA e4;clear H Y d3 e5 b3 e4;by_cases b1:b<c
  ·have g1:¬(c:Int)<=(b:Int):=by omega
   have i3:decide (c<=b)=false:=gB (by omega);by_cases s:a[b].1=a[c].1
   ·have g2:(a[b].1 != a[c].1)=false:=by simp [s]
    obtain ⟨o,f0,n,R⟩ : ∃e8 h2 g,kF a b c=(e8,h2,g):=⟨_,_,_,rfl⟩;have c1:=aA (λ(c0:World) (r:aB q c0)=>(bCm (some ⟨d1,e9,none⟩) t a b c c0 (p.below r (zz _)) x.term T U x.len).mono (R':=λg y=>∃l m,g=.returned (.tuple #[.slice l o.length m,.bool f0,.int .i64 n])/\bR B y (.slice l o.length m) o/\aB c0 y) (λg y g0=>by
     obtain ⟨v,j8,h9,rfl,e1⟩:=g0;obtain ⟨j6,a5,N,_⟩:=e1.out;have:=aNg T U a5;rw [R] at this;cases this;obtain ⟨l,m,rfl⟩:=N.shape;exact ⟨l,m,rfl,N.low (by have:=r.size;have:=E.o;have:=i.size;omega),e1.low⟩))
    rw [<-s] at g8;clear p b5 b6 b8 b9;gi_wp2
    refine zI [_,_,_,_,_,_,_,_,_,_,_,_,_,_,_,_] rfl (by kernel_rfl) b2 (by kernel_rfl) (by kernel_rfl) ?_;repeat (gi_big_quiet_step (fail))
    refine wpQuietIn_nil ?_;rintro _ ⟨nq,rfl⟩;gi_wp2
    refine ⟨trivial,λ_=>by omega,(CallsIn.inRound e7 (callsIn_wide.2 (aD c1 (q.drewN nq) (aU ⟨nq,rfl⟩)))).mono ?_⟩;rintro g y ⟨l,m,rfl,e0,d9⟩;have I:aB q y:=(aU ⟨nq,rfl⟩).trans d9;have b4:=(bW (S:=bU) I).boxed c6.o (by decide);have j9:=b4.cell;have k0:=(C.o.kept (bW I)).x2.cell;have a2:=aA b4;have f:=aA I;have c2:=aA e0;have a1:=aA (qD D.o c3.o I);clear b4 I e0 d9 c1;cases f0 with
    |true=>
     have u:lL a e (b,c)=some (⟨3,e,0,b,c,o⟩,n):=by unfold lL;rw [aH ⟨b1,by rw [V,X];exact s⟩,R];simp
     have a8:=c5.o _ (⟨3,e,0,b,c,o⟩,n) #[.agg #[.int .i64 3,.int .i64 e,.int .i64 0,.int .i64 b,.int .i64 c,.slice l o.length m],.int .i64 n] y (aBx z.o u) a1.o ⟨l,m,rfl,c2.o⟩;obtain ⟨f8,h1,assign,body,Y,a7⟩:=a8;gi_wp2
     refine ⟨λ_=>by omega,(xB a7).mono ?_⟩;rintro g f3 (⟨rfl,hJ4,hk4⟩|⟨rfl,hJx4,hk4⟩)
     ·gi_wp2
      refine ⟨nC (Mv.of_below (S:=[]) (B:=0) f.o).keepsFrom (kT hk4.2 i.size),(bW f.o).trans hk4.1,?_,⟨(C.o.kept (bW f.o)).kept hk4.1,hk4.1.boxed a2.o (by decide)⟩,zv (zv E.o f.o.size) hk4.1.size⟩;rw [qF z.o,zy,zp];simp only [zw,u,zu];exact hJ4
     ·gi_wp2
      exact ⟨nC (Mv.of_below (S:=[]) (B:=0) f.o).keepsFrom (kT hk4 i.size),rfl,_,hJx4⟩
    |false=>
     by_cases Q:n=0
     ·have u:lL a e (b,c)=none:=by
       unfold lL;rw [aH ⟨b1,by rw [V,X];exact s⟩,R];simp [Q]
      subst Q;gi_wp2
      refine ⟨λ_ j=>(by cases j),?_⟩;gi_wp2
      refine ⟨(Mv.of_below (S:=[]) (B:=0) f.o).keepsFrom,bW f.o,?_,⟨C.o.kept (bW f.o),a2.o⟩,zv E.o f.o.size⟩;rw [qF z.o,zy];simp only [zw,u,zu,zo];exact a1.o
     ·have i4:(n != 0)=true:=by simp [Q]
      have u:lL a e (b,c)=some (⟨3,e,0,b,c,o⟩,n):=by unfold lL;rw [aH ⟨b1,by rw [V,X];exact s⟩,R];simp [Q]
      have a8:=c5.o _ (⟨3,e,0,b,c,o⟩,n) #[.agg #[.int .i64 3,.int .i64 e,.int .i64 0,.int .i64 b,.int .i64 c,.slice l o.length m],.int .i64 n] y (aBx z.o u) a1.o ⟨l,m,rfl,c2.o⟩;obtain ⟨f8,h1,assign,body,Y,a7⟩:=a8;gi_wp2
      refine ⟨λ_=>by omega,(xB a7).mono ?_⟩;rintro g f3 (⟨rfl,hJ4,hk4⟩|⟨rfl,hJx4,hk4⟩)
      ·gi_wp2
       refine ⟨nC (Mv.of_below (S:=[]) (B:=0) f.o).keepsFrom (kT hk4.2 i.size),(bW f.o).trans hk4.1,?_,⟨(C.o.kept (bW f.o)).kept hk4.1,hk4.1.boxed a2.o (by decide)⟩,zv (zv E.o f.o.size) hk4.1.size⟩;rw [qF z.o,zy,zp];simp only [zw,u,zu];exact hJ4
      ·gi_wp2
       exact ⟨nC (Mv.of_below (S:=[]) (B:=0) f.o).keepsFrom (kT hk4 i.size),rfl,_,hJx4⟩
   ·have j1:(a[b].1==a[c].1)=false:=by simp [s]
    have g2:(a[b].1 != a[c].1)=true:=by simp [s]
    clear p b5 b6 b8 b9;gi_wp2
    refine zI [_,_,_,_,_,_,_,_,_,_,_,_,_,_,_,_] rfl (by kernel_rfl) b2 (by kernel_rfl) (by kernel_rfl) ?_;repeat (gi_big_quiet_step (fail))
    refine wpQuietIn_nil ?_;rintro _ ⟨nq,rfl⟩;gi_wp2
    exact c4.o (by unfold lL;rw [aI (by rw [V,X];exact λj=>s j.2)]) _ _
  ·have g1:(c:Int)<=(b:Int):=by omega
   clear p b5 b6 b8 b9;gi_wp2
   refine zI [_,_,_,_,_,_,_,_,_,_,_,_,_,_,_,_] rfl (by kernel_rfl) b2 (by kernel_rfl) (by kernel_rfl) ?_;repeat (gi_big_quiet_step (fail))
   refine wpQuietIn_nil ?_;rintro _ ⟨nq,rfl⟩;gi_wp2
   exact c4.o (by unfold lL;rw [aI (by omega)]) _ _
 case done=>
  rintro f4 ⟨O,_,_⟩ hK;gi_wp2
  refine ⟨by simp,.inl ⟨_,_,rfl,run_takeDeferred hK,?_⟩⟩;refine ⟨_,results_none rfl _ _ _,⟨_,rfl⟩,.inl ?_⟩;rw [zc] at O;exact D.o.putObj _ O i.size hK rfl
 case stop=>
  rintro G k f4 ⟨rfl,g7,O⟩ hK;gi_wp2
  refine ⟨by simp,.inl ⟨_,_,rfl,run_takeDeferred hK,?_⟩⟩;refine ⟨_,results_none rfl _ _ _,⟨_,rfl⟩,.inr ⟨g7,?_⟩⟩;exact d4.putObj _ O i.size hK rfl
end
section
attribute [local go_sem] Oper.semAt_some
noncomputable def mF(b:List Lt)(c:Nat)(d:List Lt)(e:Nat)(a:Nat×Nat):Option (aK×Int):=
 if gJ b a.1≠gJ d a.2 then (if (kG b a.1 d a.2).2.1=true\/(kG b a.1 d a.2).2.2≠0 then some (⟨2,c,e,a.1,a.2,(kG b a.1 d a.2).1⟩,(kG b a.1 d a.2).2.2) else none) else none
noncomputable def gA(a:List Lt)(b:Nat)(d:List Lt)(c:Nat):List (aK×Int):=(fH a d).filterMap (mF a b d c)
structure vI(B:Nat)(W:World)(bc bd ba bb:Nat)(v u:Value)(c d:List Lt)(a b:Nat):Prop where
 x1:Boxed W bc 51 v
 x2:Boxed W bd 51 u
 x3:Boxed W ba 3 (.int .i64 a)
 x4:Boxed W bb 3 (.int .i64 b)
 m1:bR B W v c
 m2:bR B W u d
theorem vI.kept{g i e f:Nat}{l:Value}{j:List Lt}{a b:Nat}(c:vI B W g i e f v l j d a b)(k:cO bU W W'):vI B W' g i e f v l j d a b:=
 ⟨k.boxed c.x1 (by decide),k.boxed c.x2 (by decide),k.boxed c.x3 (by decide),k.boxed c.x4 (by decide),k.clause c.m1 (by decide) (by decide),k.clause c.m2 (by decide) (by decide)⟩
theorem aNh{a:List Lt}{b c:Nat}(l:b<a.length)(m:c<d.length){g:List Lt}{j:Bool}{e:Int}(f:dU (aN 0 a[b].2++aN 1 d[c].2) 0 a[b].2.length (aZ 0 [(a,b),(d,c)]) g j e):kG a b d c=(g,j,e):=by have r:∃i:List Lt×Bool×Int,dU (aN 0 (a.getD b default).2++aN 1 (d.getD c default).2) 0 (a.getD b default).2.length (aZ 0 [(a,b),(d,c)]) i.1 i.2.1 i.2.2:=⟨(g,j,e),by rw [fZ l,fZ m];exact f⟩;have q:=Classical.epsilon_spec r;rw [<-fZ l,<-fZ m] at f;obtain ⟨n,o,p⟩:=aFp q f;unfold kG;exact Prod.ext n (Prod.ext o p)
theorem bCo(c0 T U Q R B:Nat)(v i2:Value)(a d:List Lt)(e f:Nat)(k4:3<=c0)(G:kU a)(H:kU d)(W:World)(j3:B<=W.heap.size)(D:vI B W T U Q R v i2 a d e f):tN Fence.wide c0 zt 98 #[.pointer (some ⟨T,0,none⟩),.pointer (some ⟨U,0,none⟩),.pointer (some ⟨Q,0,none⟩),.pointer (some ⟨R,0,none⟩)] (sH B) bU (gA a e d f) W:=by
 intro a5 c7 c8 d4 d6 d9 h0;have j4:=G.len;have j5:=H.len;have c5:=aA d9;have I:=aA d4;clear d9 d4;refine callsIn_of_wp_marks Tryz.func98 rfl trivial ?_ rfl;simp only [Tryz.ntmps98,zg,ze,List.length_nil,Nat.reduceAdd,Nat.reduceSub,zk,zj,zf,zi,List.nil_append,zd];obtain ⟨a9,N,rfl,_,z,_⟩:=D.m1.lits G;obtain ⟨b0,O,rfl,_,A,_⟩:=D.m2.lits H;have d0:=D.x1.cell;have d1:=D.x2.cell;have g5:=λM=>aC ((Below.refl W.heap.size W).alloc (zz _) M) d0
 have g6:=λM=>aC ((Below.refl W.heap.size W).alloc (zz _) M) d1
 have g0:=aA D;clear D z A d0 d1;gi_wp2
 clear g5 g6;refine ⟨trivial,λ_=>by omega,(callsIn_wide.2 (aNf _ _ _ _ _ _ _)).mono ?_⟩;rintro q w' ⟨rfl,rfl⟩;gi_wp2
 obtain ⟨g1,d7,e0,e9,h5⟩:=aFr W (.func (.yield a5) #[] #[]) 130;simp only [d7] at *;obtain ⟨C,d8,b6,e5,e6,k6⟩:=zF g1 (.slice a9 a.length N) (.slice b0 d.length O) 51;simp only [d8] at *;have i:aB W C:=bK e0 b6;have h7:Boxed C W.heap.size 130 (.func (.yield a5) #[] #[]):=(bW (S:=bU) b6).boxed e9 (by decide);have b3:=g0.o.kept (bW (S:=bU) i);have h1:=qD I.o h0 i;clear d7 d8 e9 e0 b6 h0;rw [h5] at e5 e6;refine aN0 rfl (by omega) (gf:=110) (lb:=#[.pointer (some ⟨W.heap.size+1,0,none⟩),.pointer (some ⟨W.heap.size+1+1,0,none⟩)]) rfl trivial (enters_of Tryz.func110 (by kernel_rfl) rfl)
  (Enc:=λ(a6:Nat×Nat) b1 _=>b1=#[.int .i64 a6.1,.int .i64 a6.2]) (S:=bU) (L:=fH a d)
  (λf3 k8=>aN3 (c0-1) (W.heap.size+1) (W.heap.size+1+1) B (.slice a9 a.length N) (.slice b0 d.length O) a d (by omega) G H _ (qA.kept ⟨e5,e6,b3.m1,b3.m2⟩ (bW (((Below.refl _ C).alloc (zz _) _).alloc (by simp) _))))
  (λa6 b1 W r=>by rw [r];rfl)
  (λk W'=>c7 (((fH a d).take k).filterMap (mF a e d f)).length W'/\(vI B W' T U Q R (.slice a9 a.length N) (.slice b0 d.length O) a d e f/\Boxed W' W.heap.size 130 (.func (.yield a5) #[] #[]))/\C.heap.size<=W'.heap.size)
  (λP _ W'=>P=.ret/\∃k,c8 k W') ?hI ?hIx ?h0 ?A ?assign ?body ?done ?stop
 case hI=>exact (aFt I.o i.size _).and ((tQ (λ_ _ _ r k=>⟨r.1.kept k,k.boxed r.2 (by decide)⟩)).and (λ_ _ _ _ r b7 _=>zv r b7.size))
 case hIx=>
  rintro P l0 M g4 i0 ⟨b2,k,V⟩ b7 h3;exact ⟨b2,k,tO d6 i.size k M g4 i0 V b7 h3⟩
 case h0=>exact ⟨by simpa using h1,⟨b3,h7⟩,zz _⟩
 case assign=>
  rintro f2 a6 b1 p K rfl hK;gi_wp2
  exact hK
 case body=>
  rintro f2 k ⟨b,c⟩ p j9 b8 ⟨d5,⟨s,a4⟩,e8⟩;obtain ⟨a0,a1⟩:=aFs b8;obtain ⟨i4,j0,g7,_,z,_⟩:=s.m1.lits G;cases g7;obtain ⟨i5,j1,g8,_,A,_⟩:=s.m2.lits H;cases g8;obtain ⟨d2,f4,i6,i7,rfl,k7,f0,f1⟩:=z.cell b a0;obtain ⟨d3,f5,i8,i9,rfl,h9,f6,f7⟩:=A.cell c a1;have k0:=s.x1.cell;have k1:=s.x2.cell;have k2:=s.x3.cell;have k3:=s.x4.cell;have j7:(b:Int)<(a.length:Int):=by omega
  have j8:(c:Int)<(d.length:Int):=by omega
  have a2:gJ a b=a[b].1:=by unfold gJ;rw [fZ a0]
  have a3:gJ d c=d[c].1:=by unfold gJ;rw [fZ a1]
  have x:=aA s;have c6:=aA a4;have c4:=aA d5;have J:=aA e8;have y:=aA b8;have e4:zt.follows .mixedOrders=true:=by kernel_rfl
  have e7:mF a e d f (b,c)=none->∀nq c9,aBo C.heap.size bU (λk W'=>c7 (((fH a d).take k).filterMap (mF a e d f)).length W'/\(vI B W' T U Q R (.slice (some ⟨d2,f4,none⟩) a.length N) (.slice (some ⟨d3,f5,none⟩) d.length O) a d e f/\Boxed W' W.heap.size 130 (.func (.yield a5) #[] #[]))/\C.heap.size<=W'.heap.size) (λP _ W'=>P=.ret/\∃k,c8 k W') k p .normal c9 (p.drewN nq):=by intro h4 nq c9;have n:aB p (p.drewN nq):=aU ⟨nq,rfl⟩;refine ⟨(Mv.of_below (S:=[]) (B:=0) n).keepsFrom,bW n,?_,⟨x.o.kept (bW n),(bW (S:=bU) n).boxed c6.o (by decide)⟩,J.o⟩;rw [qF y.o,zy];simp only [zw,h4,zu,zo];exact qD I.o c4.o n
  have f9:=aA e7;clear s a4 d5 e8 b8 e7;by_cases F:a[b].1≠d[c].1
  ·have k5:(a[b].1==d[c].1)=false:=by simp [F]
   obtain ⟨o,f8,m,Z⟩ : ∃f3 i3 q,kG a b d c=(f3,i3,q):=⟨_,_,_,rfl⟩;have c2:=aA (λ(c1:World) (n:aB p c1)=>(aNe (some ⟨d2,f4,none⟩) (some ⟨d3,f5,none⟩) N O a d b c c1 (z.below n (zz _)) (A.below n (zz _)) G.term H.term a0 a1 G.len H.len).mono (R':=λq u=>∃j l,q=.returned (.tuple #[.slice j o.length l,.bool f8,.int .i64 m])/\bR B u (.slice j o.length l) o/\aB c1 u) (λq u h2=>by
    obtain ⟨v,l1,j2,rfl,e3⟩:=h2;obtain ⟨k9,b2,V,_⟩:=e3.out;have:=aNh a0 a1 b2;rw [Z] at this;cases this;obtain ⟨j,l,rfl⟩:=V.shape;exact ⟨j,l,rfl,V.low (by have:=n.size;have:=J.o;have:=i.size;omega),e3.low⟩))
   clear z A f0 f1 f6 f7;gi_wp2
   refine zI [_,_,_,_,_,_,_,_,_,_,_] rfl (by kernel_rfl) e4 (by kernel_rfl) (by kernel_rfl) ?_;repeat (gi_big_quiet_step (fail))
   refine wpQuietIn_nil ?_;rintro _ ⟨nq,rfl⟩;gi_wp2
   refine ⟨trivial,λ_=>by omega,(CallsIn.inRound f2 (callsIn_wide.2 (aD c2 (p.drewN nq) (aU ⟨nq,rfl⟩)))).mono ?_⟩;rintro q u ⟨j,l,rfl,e2,e1⟩;have E:aB p u:=(aU ⟨nq,rfl⟩).trans e1;have b9:=(bW (S:=bU) E).boxed c6.o (by decide);have l2:=b9.cell;have l3:=(x.o.kept (bW E)).x3.cell;have l4:=(x.o.kept (bW E)).x4.cell;have a8:=aA b9;have g:=aA E;have c3:=aA e2;have a7:=aA (qD I.o c4.o E);clear b9 E e2 e1 c2;cases f8 with
   |true=>
    have t:mF a e d f (b,c)=some (⟨2,e,f,b,c,o⟩,m):=by unfold mF;rw [aH (by rw [a2,a3];exact F),Z];simp
    have b5:=c5.o _ (⟨2,e,f,b,c,o⟩,m) #[.agg #[.int .i64 2,.int .i64 e,.int .i64 f,.int .i64 b,.int .i64 c,.slice j o.length l],.int .i64 m] u (aBx y.o t) a7.o ⟨j,l,rfl,c3.o⟩;obtain ⟨g9,i1,assign,body,a4,b4⟩:=b5;gi_wp2
    refine ⟨λ_=>by omega,(xB b4).mono ?_⟩;rintro q g2 (⟨rfl,hJ4,hk4⟩|⟨rfl,hJx4,hk4⟩)
    ·gi_wp2
     refine ⟨nC (Mv.of_below (S:=[]) (B:=0) g.o).keepsFrom (kT hk4.2 i.size),(bW g.o).trans hk4.1,?_,⟨(x.o.kept (bW g.o)).kept hk4.1,hk4.1.boxed a8.o (by decide)⟩,zv (zv J.o g.o.size) hk4.1.size⟩;rw [qF y.o,zy,zp];simp only [zw,t,zu];exact hJ4
    ·gi_wp2
     exact ⟨nC (Mv.of_below (S:=[]) (B:=0) g.o).keepsFrom (kT hk4 i.size),rfl,_,hJx4⟩
   |false=>
    by_cases Y:m=0
    ·have t:mF a e d f (b,c)=none:=by
      unfold mF;rw [aH (by rw [a2,a3];exact F),Z];simp [Y]
     subst Y;gi_wp2
     refine ⟨λ_ r=>(by cases r),?_⟩;gi_wp2
     refine ⟨(Mv.of_below (S:=[]) (B:=0) g.o).keepsFrom,bW g.o,?_,⟨x.o.kept (bW g.o),a8.o⟩,zv J.o g.o.size⟩;rw [qF y.o,zy];simp only [zw,t,zu,zo];exact a7.o
    ·have j6:(m != 0)=true:=by simp [Y]
     have t:mF a e d f (b,c)=some (⟨2,e,f,b,c,o⟩,m):=by unfold mF;rw [aH (by rw [a2,a3];exact F),Z];simp [Y]
     have b5:=c5.o _ (⟨2,e,f,b,c,o⟩,m) #[.agg #[.int .i64 2,.int .i64 e,.int .i64 f,.int .i64 b,.int .i64 c,.slice j o.length l],.int .i64 m] u (aBx y.o t) a7.o ⟨j,l,rfl,c3.o⟩;obtain ⟨g9,i1,assign,body,a4,b4⟩:=b5;gi_wp2
     refine ⟨λ_=>by omega,(xB b4).mono ?_⟩;rintro q g2 (⟨rfl,hJ4,hk4⟩|⟨rfl,hJx4,hk4⟩)
     ·gi_wp2
      refine ⟨nC (Mv.of_below (S:=[]) (B:=0) g.o).keepsFrom (kT hk4.2 i.size),(bW g.o).trans hk4.1,?_,⟨(x.o.kept (bW g.o)).kept hk4.1,hk4.1.boxed a8.o (by decide)⟩,zv (zv J.o g.o.size) hk4.1.size⟩;rw [qF y.o,zy,zp];simp only [zw,t,zu];exact hJ4
     ·gi_wp2
      exact ⟨nC (Mv.of_below (S:=[]) (B:=0) g.o).keepsFrom (kT hk4 i.size),rfl,_,hJx4⟩
  ·have h6:a[b].1=d[c].1:=by simpa using F
   rw [<-h6] at h9;clear z A f0 f1 f6 f7;gi_wp2
   refine zI [_,_,_,_,_,_,_,_,_,_,_] rfl (by kernel_rfl) e4 (by kernel_rfl) (by kernel_rfl) ?_;repeat (gi_big_quiet_step (fail))
   refine wpQuietIn_nil ?_;rintro _ ⟨nq,rfl⟩;gi_wp2
   exact f9.o (by unfold mF;rw [aI (by rw [a2,a3];exact F)]) _ _
 case done=>
  rintro g3 ⟨X,_,_⟩ hK;gi_wp2
  refine ⟨by simp,.inl ⟨_,_,rfl,run_takeDeferred hK,?_⟩⟩;refine ⟨_,results_none rfl _ _ _,⟨_,rfl⟩,.inl ?_⟩;rw [zc] at X;exact I.o.putObj _ X i.size hK rfl
 case stop=>
  rintro P k g3 ⟨rfl,h8,X⟩ hK;gi_wp2
  refine ⟨by simp,.inl ⟨_,_,rfl,run_takeDeferred hK,?_⟩⟩;refine ⟨_,results_none rfl _ _ _,⟨_,rfl⟩,.inr ⟨h8,?_⟩⟩;exact d6.putObj _ X i.size hK rfl
end
def gR(p:aK×Value):List Value:=[.int .i64 p.1.r,.int .i64 p.1.a,.int .i64 p.1.b,.int .i64 p.1.i,.int .i64 p.1.j,p.2]
def iF(a:List (aK×Value)):List Value:=a.flatMap gR
theorem aNi(a:List (aK×Value)):(iF a).length=a.length*6:=by
 induction a with
 |nil=>rfl
 |cons x r ih=>simp [iF,gR] at ih ⊢;omega
theorem aNj:∀(a:List (aK×Value)) (k:Nat) (b:k<a.length),(iF a)[k*6+5]?=some a[k].2
 |[],k,b=>by simp at b
 |x::a,0,_=>by simp [iF,gR]
 |x::a,k+1,b=>by
  have:=aNj a k (by simpa using b);rw [show iF (x::a)=gR x++iF a from rfl,zm (by simp [gR];omega),show (k+1)*6+5-(gR x).length=k*6+5 by simp [gR];omega,this];simp
structure gS(B:Nat)(W:World)(vs:Value)(T:List (aK×Value)):Prop where
 row:W.ownsRow B 53 6 vs T.length (iF T)
 cl:∀p∈T,bR B W p.2 p.1.c
theorem gS.kept{a:List (aK×Value)}{S:List TypeId}(b:gS B W vs a)(k:cO S W W')(c:53∉S)(e:86∉S)(f:117∉S):gS B W' vs a:=
 ⟨k.row b.row c,λi g=>k.clause (b.cl i g) e f⟩
theorem gS.cell{a:List (aK×Value)}(i:gS B W vs a){k:Nat}(l:k<a.length):∃g e b c,vs=.slice (some ⟨g,0,none⟩) a.length e/\a[k].2=.slice b a[k].1.c.length c/\W.cell? ⟨g,k*6+5,none⟩=some (.slice b a[k].1.c.length c)/\bR B W (.slice b a[k].1.c.length c) a[k].1.c:=by
 have j:=i.cl a[k] (zs l);obtain ⟨b,c,f⟩:=j.shape;obtain ⟨o,⟨_,n⟩|⟨g,e,m,rfl,p,q,s⟩⟩:=i.row
 ·omega
 ·have r:=aNi a;refine ⟨g,e,b,c,rfl,f,?_,by rw [<-f];exact j⟩;rw [i.row.cellAt (k*6+5) (by omega),aNj a k l,f]
def aE(a:List (aK×Value))(k:Nat):List Lt:=((a[k]?).map λb=>b.1.c).getD []
theorem jS{a:List (aK×Value)}(b:k<a.length):aE a k=a[k].1.c:=by simp [aE,b]
theorem bCp(B:Nat)(vs:Value)(b:List (aK×Value))(a:Nat)(w:World)(p:gS B w vs b)(j:a<b.length):Calls zt 77 #[vs,.int .i64 a] w λo w'=>∃i g v,o=.returned (.func (.func 96) #[] #[.pointer (some ⟨i,0,none⟩),.pointer (some ⟨g,0,none⟩)])/\vH B w' i g v (aE b a) a/\aB w w':=by
 obtain ⟨t,r,c,e,rfl,_,f,m⟩:=p.cell j;rw [<-jS j] at f m;have u:(a:Int)<(b.length:Int):=by omega
 have s:=λn=>aC ((Below.refl w.heap.size w).alloc (zz _) n) f
 clear f;go_enter Tryz.func77,Tryz.ntmps77;go_wp2;go_ret;have q:aB w (w.alloc (.cells #[.int .i64 a] 3)):=(Below.refl _ w).alloc (zz _) _;have l:aB w ((w.alloc (.cells #[.int .i64 a] 3)).alloc (.cells #[.slice c (aE b a).length e] 51)):=q.alloc (by simp) _;refine ⟨w.heap.size+1,w.heap.size,.slice c (aE b a).length e,rfl,⟨?_,?_,m.below l⟩,l⟩
 ·have:=zx (w.alloc (.cells #[.int .i64 a] 3)) (.cells #[.slice c (aE b a).length e] 51);rwa [zr] at this
 ·exact (Below.heap_alloc _ _ _ (by simp)).trans (zx w _)
theorem bCq(B:Nat)(vs:Value)(c:List (aK×Value))(f g:Nat)(w:World)(P:gS B w vs c)(Q:f<c.length)(R:g<c.length):Calls zt 78 #[vs,.int .i64 f,.int .i64 g] w λq w'=>∃G H E F v V,q=.returned (.func (.func 98) #[] #[.pointer (some ⟨G,0,none⟩),.pointer (some ⟨H,0,none⟩),.pointer (some ⟨E,0,none⟩),.pointer (some ⟨F,0,none⟩)])/\vI B w' G H E F v V (aE c f) (aE c g) f g/\aB w w':=by
 obtain ⟨a7,X,C,I,rfl,_,s,u⟩:=P.cell Q;obtain ⟨a8,Y,D,J,q,_,t,x⟩:=P.cell R;cases q;rw [<-jS Q] at s u;rw [<-jS R] at t x;have a9:(f:Int)<(c.length:Int):=by omega
 have b0:(g:Int)<(c.length:Int):=by omega
 go_enter Tryz.func78,Tryz.ntmps78;have b1:zt.follows .mixedOrders=true:=by kernel_rfl
 go_wp2;obtain ⟨a,U,p,z,A,T⟩:=zF w (.int .i64 f) (.int .i64 g) 3;simp only [U];clear U;have L:=aC p s;have M:=aC p t;have N:=z.cell;have O:=A.cell;have a3:=λb=>aC ((Below.refl a.heap.size a).alloc (zz _) b) L
 have a4:=λb=>aC ((Below.refl a.heap.size a).alloc (zz _) b) M
 have a5:=λb=>aC ((Below.refl a.heap.size a).alloc (zz _) b) N
 have a6:=λb=>aC ((Below.refl a.heap.size a).alloc (zz _) b) O
 have Z:=λb i=>aC (((Below.refl a.heap.size a).alloc (zz _) b).alloc (by simp) i) L
 have a0:=λb i=>aC (((Below.refl a.heap.size a).alloc (zz _) b).alloc (by simp) i) M
 have a1:=λb i=>aC (((Below.refl a.heap.size a).alloc (zz _) b).alloc (by simp) i) N
 have a2:=λb i=>aC (((Below.refl a.heap.size a).alloc (zz _) b).alloc (by simp) i) O
 clear s t;go_region
 ·go_wp2;go_ret;obtain ⟨e,y,r,n,o,_⟩:=zF a (.slice C (aE c f).length I) (.slice D (aE c g).length J) 51;rw [y];rw [T] at n o;have j:aB a e.drew:=bK r (aU ⟨1,rfl⟩);have m:cO bU e e.drew:=bW (aU ⟨1,rfl⟩);have l:aB w e.drew:=bK p j;exact ⟨w.heap.size+2,w.heap.size+2+1,w.heap.size,w.heap.size+1,_,_,rfl,⟨m.boxed n (by decide),m.boxed o (by decide),(bW (S:=bU) j).boxed z (by decide),(bW (S:=bU) j).boxed A (by decide),u.below l,x.below l⟩,l⟩
 ·go_wp2;go_ret;obtain ⟨e,y,r,n,o,_⟩:=zF a (.slice D (aE c g).length J) (.slice C (aE c f).length I) 51;rw [y];rw [T] at n o;have j:aB a e.drew:=bK r (aU ⟨1,rfl⟩);have m:cO bU e e.drew:=bW (aU ⟨1,rfl⟩);have l:aB w e.drew:=bK p j;exact ⟨w.heap.size+2+1,w.heap.size+2,w.heap.size,w.heap.size+1,_,_,rfl,⟨m.boxed o (by decide),m.boxed n (by decide),(bW (S:=bU) j).boxed z (by decide),(bW (S:=bU) j).boxed A (by decide),u.below l,x.below l⟩,l⟩
structure rB(B:Nat)(W:World)(bs ba bo:Nat)(vs vo:Value)(T:List (aK×Value))(a:Nat)(os:List Nat):Prop where
 x1:Boxed W bs 27 vs
 x2:Boxed W ba 3 (.int .i64 a)
 x3:Boxed W bo 28 vo
 st:gS B W vs T
 ot:W.ownsRow B 3 1 vo os.length (os.map λk=>Value.int .i64 (k:Nat))
theorem rB.kept{g e f:Nat}{j:Value}{c:List (aK×Value)}{a:Nat}{i:List Nat}(b:rB B W g e f vs j c a i)(k:cO bU W W'):rB B W' g e f vs j c a i:=
 ⟨k.boxed b.x1 (by decide),k.boxed b.x2 (by decide),k.boxed b.x3 (by decide),b.st.kept k (by decide) (by decide) (by decide),k.row b.ot (by decide)⟩
theorem aNk(B:Nat)(a f:Option Addr)(c i b g:Nat)(m:List (aK×Value))(e:Nat)(l:List Nat)(w:World)(r:gS B w (.slice a c b) m)(u:w.ownsRow B 3 1 (.slice f i g) l.length (l.map λk=>Value.int .i64 (k:Nat))):Calls zt 48 #[.slice a c b,.int .i64 e,.slice f i g] w λq w'=>∃p n o,q=.returned (.func (.func 76) #[] #[.pointer (some ⟨p,0,none⟩),.pointer (some ⟨n,0,none⟩),.pointer (some ⟨o,0,none⟩)])/\rB B w' p n o (.slice a c b) (.slice f i g) m e l/\aB w w':=by
 go_enter Tryz.func48,Tryz.ntmps48;go_wp2;go_ret;have s:aB w (w.alloc (.cells #[.slice a c b] 27)):=(Below.refl _ w).alloc (zz _) _;have t:aB w ((w.alloc (.cells #[.slice a c b] 27)).alloc (.cells #[.int .i64 e] 3)):=s.alloc (by simp) _;have j:aB w (((w.alloc (.cells #[.slice a c b] 27)).alloc (.cells #[.int .i64 e] 3)).alloc (.cells #[.slice f i g] 28)):=t.alloc (by simp;omega) _;refine ⟨w.heap.size,w.heap.size+1,w.heap.size+1+1,rfl,⟨?_,?_,?_,r.kept (S:=[]) (bW j) (by simp) (by simp) (by simp),bG u j (zz _)⟩,j⟩
 ·exact (Below.heap_alloc _ _ _ (by simp;omega)).trans ((Below.heap_alloc _ _ _ (by simp)).trans (zx w _))
 ·refine (Below.heap_alloc _ _ _ (by simp)).trans ?_;have:=zx (w.alloc (.cells #[.slice a c b] 27)) (.cells #[.int .i64 e] 3);rwa [zr] at this
 ·have:=zx ((w.alloc (.cells #[.slice a c b] 27)).alloc (.cells #[.int .i64 e] 3)) (.cells #[.slice f i g] 28);rwa [zr,zr] at this
theorem zG{m:Fence}{u:Nat}{n:Program}{e:Func}{x:Array Value}{c:Ending->World->Prop}{N:Nat}{I:World->Prop}(l:e.results=#[])(i:OwnFrom N (λ(_:Unit) W=>I W))(j:∀v w,I w->c (.returned v) w):∀(a:List Nat) (w:World),I w->(∀D∈a,N<=D/\w.heap[D]?=some (.deferred (some [])))->a.Nodup->LeavesInM m u n e x c (a.map λD=>{target:=.collected D,args:=#[]}) .returning w
 |[],w,h,_,_=>⟨_,results_none l _ _ _,j _ w h⟩
 |D::a,w,h,hd,hn=>by
  obtain ⟨p,f⟩:=hd D (by simp);refine ⟨by simp,.inl ⟨D,_,rfl,run_takeDeferred f,?_⟩⟩;refine zG l i j a _ (i.putObj (s:=()) _ h p f rfl) (λb g=>?_) (List.nodup_cons.1 hn).2;have t:b≠D:=λo=>(List.nodup_cons.1 hn).1 (by rw [<-o];exact g)
  obtain ⟨q,r⟩:=hd b (by simp [g]);exact ⟨q,(World.putObj_heap_other t).trans r⟩
