import Derived.Test.YtbpiopdphigodaaGreatDoorGMemP
import Derived.Test.YtbpiopdphigodaaGreatDoorVCon4P
open Array renaming replicate_succ→zk,replicate_zero→zj
open List renaming filterMap_append→zy,filterMap_cons→zw,filterMap_nil→zu,getElem_mem→zs,getElem_of_mem→zq,length_append→zp,append_nil→zo,mem_map→zn,getElem?_append_right→zm,getElem?_eq_some_iff→zl,append_toArray→zi,size_toArray→zg,push_toArray→zf,length_cons→ze,cons_append→zd,take_length→zc
open Nat renaming le_refl→zz,le_trans→zv
namespace Go.Proofs.YtbpiopdphigodaaGreatDoor
open _root_.Go.Proofs.Tryz renaming prog→zt
open World renaming alloc_heap_new→zx,size_alloc→zr,ownsRow_nil→zh
open Go.RowKit Go.Shelf Go.WideMaps
set_option maxHeartbeats 8000000
set_option maxRecDepth 100000
variable{d:List Lt}{B k:Nat}{v vs:Value}{W W' w w':World}
section
theorem kR.below{tb c:Nat}{e:List Tg}(a:kR B tb c e w)(b:aB w w'):kR B tb c e w':=by obtain ⟨j,g,i,vs,f⟩:=a.tm;exact ⟨⟨j,g,i,vs,f.below b⟩,a.first.at (b.block c a.first.lt),a.whole,zv a.big b.size,a.ne,a.mlow⟩
theorem wR.lift{b:World}{c:List Tg}{e f:Nat}{j:List (Int×Lt)}{l:Bool}{g:Int}(i:wR b b.heap.size c e f j v l g w')(a:aB w b):wR w w.heap.size c e f j v l g w':=by obtain ⟨q,n,⟨m,s,t,u,x⟩,o⟩:=i.out;exact ⟨⟨q,n,⟨m,s,gS t a.size,λr p=>gS (u r p) a.size,x⟩,o⟩,aZ a i.low⟩
theorem aJx(b4 b5:Option Addr)(l n:Nat)(a d:List Lt)(b c:Nat)(w:World)(G:bP w b4 a)(H:bP w b5 d)(I:∀f∈a,aN f.2 1=true/\f.2.length<=60)(J:∀f∈d,aN f.2 1=true/\f.2.length<=60)(d1:b<a.length)(d2:c<d.length)(c8:a.length<=8)(d0:d.length<=8):Calls zt 106 #[.slice b4 a.length l,.int .i64 b,.slice b5 d.length n,.int .i64 c] w λg w'=>CoQ w w.heap.size (aW 0 a[b].2++aW 1 d[c].2) 0 a[b].2.length (bE 0 [(a,b),(d,c)]) g w':=by
 obtain ⟨p,x,b6,b7,rfl,f1,E,c0⟩:=G.cell b d1;obtain ⟨q,y,b8,b9,rfl,f2,F,c1⟩:=H.cell c d2;obtain ⟨a3,g0⟩:=I a[b] (zs _);obtain ⟨a4,h3⟩:=J d[c] (zs _);have g8:=wS (m:=60) (λf Z=>(I f Z).2);have h0:=wS (m:=60) (λf Z=>(J f Z).2);have a7:=aA (yN _ l a w G c8);have a8:=aA (λ(e:World) (s:aB w e)=>yN _ n d e (H.below s (zz _)) d0);have a9:=aA (λ(e:World)=>aJu (aS a+aS d) (by omega) e);have e0:=aA G;have e1:=aA H;have b1:=aA I;have b2:=aA J;have N:=aA c0;have O:=aA c1;have g7:(b:Int)<(a.length:Int):=by omega
 have g9:(c:Int)<(d.length:Int):=by omega
 have h1:a[b].2.length<=60:=g0;clear G H I J c0 c1 f1 f2;go_enter Tryz.func106,Tryz.ntmps106;go_upto_region 2 with (first
  |(go_at_call 124;refine (aC a9 _).mono ?_;rintro g M ⟨z,u,h8,h6,h7,vs,rfl,c5⟩;have D:=aA c5;clear c5)
  |(go_at_call 62;refine (aC a8 g1 b0.o).mono ?_;rintro g i ⟨rfl,c7⟩;have o:=aA (aZ b0.o c7);clear c7)
  |(go_at_call 62;refine (aC a7).mono ?_;rintro g g1 ⟨rfl,c6⟩;have b0:=aA c6;clear c6)
  |go_in)
 have A:=aA (aZ o.o D.o.low);have e3:=aA (kR.new D.o);have a0:=o.o.size;have f4:=D.o.low.size;have a5:=aA (λ(e:World) (r:kR i.heap.size z u [] e) (s:aB w e)=>zR r 0 b6 b7 a[b].2 (N.o.below s (zz _)) a3 (λa1 X=>by have:=wV N.o a3 a1 X;omega) (by simp;omega) (by omega));have a6:=aA (λ(e:World) (r:kR i.heap.size z u ([]++aW 0 a[b].2) e) (s:aB w e)=>zR r 1 b8 b9 d[c].2 (O.o.below s (zz _)) a4 (λa1 X=>by have:=wV O.o a4 a1 X;omega) (by simp;omega) (by omega));have d9:=aA (λ(e:World) (r:kR i.heap.size z u (aW 0 a[b].2++aW 1 d[c].2) e)=>aF1 r a3 a4 (λh4 ht=>by
  rcases List.mem_append.1 ht with ht|ht
  ·obtain ⟨f6,V,rfl⟩:=zn.1 ht;obtain ⟨k,t,rfl⟩:=zq V;exact N.o.short k t
  ·obtain ⟨f6,V,rfl⟩:=zn.1 ht;obtain ⟨k,t,rfl⟩:=zq V;exact O.o.short k t) (by simp;omega))
 have g5:=aD A.o E;have g6:=aD A.o F;rw [show (([]:List Tg).length:Int)=((0:Nat):Int) from rfl] at a5;rw [show (([]++aW 0 a[b].2:List Tg).length:Int)=((a[b].2.length:Nat):Int) by simp] at a6;clear a7 a8 a9;go_region_held3 (λw'=>w'.cell? ⟨p,x+b*2+1,none⟩=some (.slice b6 a[b].2.length b7)/\w'.cell? ⟨q,y+c*2+1,none⟩=some (.slice b8 d[c].2.length b9)) (first|exact ⟨aD Q.o E,aD Q.o F⟩|exact ⟨aD P.o E,aD P.o F⟩|exact ⟨aD C.o E,aD C.o F⟩|go_keep) (first
  |(go_at_call 125;refine (aC d9 g3 e5.o).mono ?_;rintro g j ⟨f8,rfl,U,d5,d7,d4⟩;have Q:=aA (P.o.trans (U.mono a0));have b3:=aA (e7.o.trans U);have f0:=aA d7;have e8:=aA d4;have g4:=aA d5;clear U d5 d7 d4)
  |(go_at_call 126;refine (aC a6 g2 e4.o C.o).mono ?_;rintro g g3 ⟨rfl,c4,T⟩;have e5:=aA c4;have P:=aA (C.o.trans (T.mono a0));have e7:=aA (e6.o.trans T);clear c4 T)
  |(go_at_call 126;refine (aC a5 M.drew (e3.o.below (aQ ⟨1,rfl⟩)) (A.o.trans ((aQ (w1:=M.drew) ⟨1,rfl⟩).mono (by omega)))).mono ?_;rintro g g2 ⟨rfl,c3,S⟩;have e4:=aA c3;have e6:=aA ((D.o.low.trans ((aQ (w1:=M.drew) ⟨1,rfl⟩).mono f4)).trans S);have C:=aA ((A.o.trans ((aQ (w1:=M.drew) ⟨1,rfl⟩).mono (by omega))).trans (S.mono a0));clear c3 S))
 have Y:∀a2∈bE 0 [(a,b),(d,c)],aN a2.2.2 1=true:=by
  intro a2 f3;obtain ⟨f9,L,d3⟩:=wQ _ _ a2 f3;simp at L;rcases L with rfl|rfl
  ·exact (b1.o _ d3).1
  ·exact (b2.o _ d3).1
 cases f8 with
 |false=>
  have e9:aI (jG (aW 0 a[b].2++aW 1 d[c].2) 0 a[b].2.length (bE 0 [(a,b),(d,c)]) [] false 0):=aA (Or.inl ⟨e8.o rfl _ Y,rfl,rfl,rfl⟩);clear Y;go_wp2;go_returns;exact ⟨_,_,_,rfl,⟨⟨[],e9.o,bN.nil _ _,by simp⟩,Q.o⟩⟩
 |true=>
  obtain ⟨f7,c9⟩:=f0.o rfl;have R:aB j (j.alloc (.cells #[.slice (some ⟨p,x,none⟩) a.length l,.int .i64 b,.slice (some ⟨q,y,none⟩) d.length n,.int .i64 c] 178)):=(Below.refl _ _).alloc (zz _) _;have f5:=b3.o.size;have d6:qR i i.heap.size z u (aW 0 a[b].2++aW 1 d[c].2) 0 a[b].2.length j.heap.size #[.slice (some ⟨p,x,none⟩) a.length l,.int .i64 b,.slice (some ⟨q,y,none⟩) d.length n,.int .i64 c] [] (.slice none 0 0) (j.alloc (.cells #[.slice (some ⟨p,x,none⟩) a.length l,.int .i64 b,.slice (some ⟨q,y,none⟩) d.length n,.int .i64 c] 178)):=
   ⟨⟨f7,[],[],⟨by simpa [bL,eG] using c9.below R,rfl,rfl,zh _ _ _ _,λf9 L=>by simp at L,b3.o.trans (R.mono f5)⟩⟩,by show (j.heap.push _)[j.heap.size]?=_;simp⟩
  have d8:=aA (aJq i i.heap.size z u (aW 0 a[b].2++aW 1 d[c].2) 0 a[b].2.length j.heap.size 2 _ (λk=>if k=0 then some ⟨p,x,none⟩ else some ⟨q,y,none⟩) (λk=>if k=0 then l else n) [(a,b),(d,c)] _ d6 rfl (λk t=>by
   match k,t with
   |0,_=>exact ⟨rfl,rfl,e0.o.below o.o (zz _),d1,c8,b1.o⟩
   |1,_=>exact ⟨rfl,rfl,e1.o.below o.o (zz _),d2,d0,b2.o⟩) (by simp) (by simp;omega))
  clear Y c9 d6 R;go_wp2_with (first
   |(go_at_call 127;refine (aC d8).mono ?_;rintro g h9 ⟨h5,i0,h2,rfl,c2⟩;have e2:=aA (c2.lift o.o);clear c2)
   |go_in)
  go_returns;exact ⟨_,_,_,rfl,e2.o⟩
theorem aXv(a5:Option Addr)(l:Nat)(a:List Lt)(b c:Nat)(w:World)(o:bP w a5 a)(q:∀F∈a,aN F.2 1=true/\F.2.length<=60)(d9:b<a.length)(c0:c<a.length)(b8:a.length<=8):Calls zt 107 #[.slice a5 a.length l,.int .i64 b,.int .i64 c] w λf w'=>CoQ w w.heap.size (aW 0 a[b].2++aW 0 a[c].2) 0 a[b].2.length (bE 0 [(a,c)]) f w':=by
 obtain ⟨j,n,a6,a7,rfl,d7,A,b0⟩:=o.cell b d9;obtain ⟨f3,g0,a8,a9,b7,d8,C,b1⟩:=o.cell c c0;simp at b7;obtain ⟨rfl,rfl⟩:=b7;obtain ⟨X,e9⟩:=q a[b] (zs _);obtain ⟨Y,g2⟩:=q a[c] (zs _);have f7:=wS (m:=60) (λF e2=>(q F e2).2);have a1:=aA (yN _ l a w o b8);have a2:=aA (λ(e:World)=>aJu (aS a) (by omega) e);have c7:=aA o;have a3:=aA q;have G:=aA b0;have H:=aA b1;have f6:(b:Int)<(a.length:Int):=by omega
 have f8:(c:Int)<(a.length:Int):=by omega
 have f9:a[b].2.length<=60:=e9;clear o q b0 b1 d7 d8;go_enter Tryz.func107,Tryz.ntmps107;go_upto_region 2 with (first
  |(go_at_call 124;refine (aC a2 _).mono ?_;rintro f E ⟨t,s,g7,g5,g6,vs,rfl,b5⟩;have z:=aA b5;clear b5)
  |(go_at_call 62;refine (aC a1).mono ?_;rintro f g ⟨rfl,b6⟩;have u:=aA b6;clear b6)
  |go_in)
 have x:=aA (aZ u.o z.o.low);have c9:=aA (kR.new z.o);have T:=u.o.size;have e3:=z.o.low.size;have Z:=aA (λ(e:World) (p:kR g.heap.size t s [] e) (M:aB w e)=>zR p 0 a6 a7 a[b].2 (G.o.below M (zz _)) X (λU R=>by have:=wV G.o X U R;omega) (by simp;omega) (by omega));have a0:=aA (λ(e:World) (p:kR g.heap.size t s ([]++aW 0 a[b].2) e) (M:aB w e)=>zR p 0 a8 a9 a[c].2 (H.o.below M (zz _)) Y (λU R=>by have:=wV H.o Y U R;omega) (by simp;omega) (by omega));have c6:=aA (λ(e:World) (p:kR g.heap.size t s (aW 0 a[b].2++aW 0 a[c].2) e)=>aF1 p X Y (λg3 ht=>by
  rcases List.mem_append.1 ht with ht|ht
  ·obtain ⟨e5,Q,rfl⟩:=zn.1 ht;obtain ⟨k,r,rfl⟩:=zq Q;exact G.o.short k r
  ·obtain ⟨e5,Q,rfl⟩:=zn.1 ht;obtain ⟨k,r,rfl⟩:=zq Q;exact H.o.short k r) (by simp;omega))
 have f4:=aD x.o A;have f5:=aD x.o C;rw [show (([]:List Tg).length:Int)=((0:Nat):Int) from rfl] at Z;rw [show (([]++aW 0 a[b].2:List Tg).length:Int)=((a[b].2.length:Nat):Int) by simp] at a0;clear a1 a2;go_region_held3 (λw'=>w'.cell? ⟨j,n+b*2+1,none⟩=some (.slice a6 a[b].2.length a7)/\w'.cell? ⟨j,n+c*2+1,none⟩=some (.slice a8 a[c].2.length a9)) (first|exact ⟨aD J.o A,aD J.o C⟩|exact ⟨aD I.o A,aD I.o C⟩|exact ⟨aD y.o A,aD y.o C⟩|go_keep) (first
  |(go_at_call 125;refine (aC c6 f1 d1.o).mono ?_;rintro f i ⟨e7,rfl,P,c2,c4,c1⟩;have J:=aA (I.o.trans (P.mono T));have a4:=aA (d3.o.trans P);have d6:=aA c4;have d4:=aA c1;have f2:=aA c2;clear P c2 c4 c1)
  |(go_at_call 126;refine (aC a0 f0 d0.o y.o).mono ?_;rintro f f1 ⟨rfl,b4,O⟩;have d1:=aA b4;have I:=aA (y.o.trans (O.mono T));have d3:=aA (d2.o.trans O);clear b4 O)
  |(go_at_call 126;refine (aC Z E.drew (c9.o.below (aQ ⟨1,rfl⟩)) (x.o.trans ((aQ (w1:=E.drew) ⟨1,rfl⟩).mono (by omega)))).mono ?_;rintro f f0 ⟨rfl,b3,N⟩;have d0:=aA b3;have d2:=aA ((z.o.low.trans ((aQ (w1:=E.drew) ⟨1,rfl⟩).mono e3)).trans N);have y:=aA ((x.o.trans ((aQ (w1:=E.drew) ⟨1,rfl⟩).mono (by omega))).trans (N.mono T));clear b3 N))
 have S:∀V∈bE 0 [(a,c)],aN V.2.2 1=true:=by intro V e1;obtain ⟨e8,D,e0⟩:=wQ _ _ V e1;simp at D;subst D;exact (a3.o _ e0).1
 cases e7 with
 |false=>
  have d5:aI (jG (aW 0 a[b].2++aW 0 a[c].2) 0 a[b].2.length (bE 0 [(a,c)]) [] false 0):=aA (Or.inl ⟨d4.o rfl _ S,rfl,rfl,rfl⟩);clear S;go_wp2;go_returns;exact ⟨_,_,_,rfl,⟨⟨[],d5.o,bN.nil _ _,by simp⟩,J.o⟩⟩
 |true=>
  obtain ⟨e6,b9⟩:=d6.o rfl;have L:aB i (i.alloc (.cells #[.slice (some ⟨j,n,none⟩) a.length l,.int .i64 c] 178)):=(Below.refl _ _).alloc (zz _) _;have e4:=a4.o.size;have c3:qR g g.heap.size t s (aW 0 a[b].2++aW 0 a[c].2) 0 a[b].2.length i.heap.size #[.slice (some ⟨j,n,none⟩) a.length l,.int .i64 c] [] (.slice none 0 0) (i.alloc (.cells #[.slice (some ⟨j,n,none⟩) a.length l,.int .i64 c] 178)):=
   ⟨⟨e6,[],[],⟨by simpa [bL,eG] using b9.below L,rfl,rfl,zh _ _ _ _,λe8 D=>by simp at D,a4.o.trans (L.mono e4)⟩⟩,by show (i.heap.push _)[i.heap.size]?=_;simp⟩
  have c5:=aA (aJq g g.heap.size t s (aW 0 a[b].2++aW 0 a[c].2) 0 a[b].2.length i.heap.size 1 _ (λ_=>some ⟨j,n,none⟩) (λ_=>l) [(a,c)] _ c3 rfl (λk r=>by
   match k,r with
   |0,_=>exact ⟨rfl,rfl,c7.o.below u.o (zz _),c0,b8,a3.o⟩) (by simp) (by simp;omega))
  clear S b9 c3 L;go_wp2_with (first
   |(go_at_call 127;refine (aC c5).mono ?_;rintro f g8 ⟨g4,g9,g1,rfl,b2⟩;have c8:=aA (b2.lift u.o);clear b2)
   |go_in)
  go_returns;exact ⟨_,_,_,rfl,c8.o⟩
attribute [local go_sem] Oper.semAt_some
structure aK where
 r:Nat
 a:Nat
 b:Nat
 i:Nat
 j:Nat
 c:List Lt
noncomputable def tI(a:List Lt)(c e:Nat):List Lt×Bool×Int:=Classical.epsilon λb=>jG (aW 0 (a.getD c default).2++aW 0 (a.getD e default).2) 0 (a.getD c default).2.length (bE 0 [(a,e)]) b.1 b.2.1 b.2.2
noncomputable def tJ(a:List Lt)(b:Nat)(d:List Lt)(e:Nat):List Lt×Bool×Int:=Classical.epsilon λc=>jG (aW 0 (a.getD b default).2++aW 1 (d.getD e default).2) 0 (a.getD b default).2.length (bE 0 [(a,b),(d,e)]) c.1 c.2.1 c.2.2
def kS(a:List Lt)(b:Nat):Bool:=(a.getD b default).1
noncomputable def mY(b:List Lt)(c:Nat)(a:Nat×Nat):Option (aK×Int):=
 if a.1<a.2/\kS b a.1=kS b a.2 then (if (tI b a.1 a.2).2.1=true\/(tI b a.1 a.2).2.2≠0 then some (⟨3,c,0,a.1,a.2,(tI b a.1 a.2).1⟩,(tI b a.1 a.2).2.2) else none) else none
noncomputable def sB(a:List Lt)(b:Nat):List (aK×Int):=(gM a a).filterMap (mY a b)
def qU(B:Nat)(a:aK×Int)(e:Array Value)(W:World):Prop:=∃b c,e=#[.agg #[.int .i64 a.1.r,.int .i64 a.1.a,.int .i64 a.1.b,.int .i64 a.1.i,.int .i64 a.1.j,.slice b a.1.c.length c],.int .i64 a.2]/\bN B W (.slice b a.1.c.length c) a.1.c
theorem bN.shape{b:List Lt}(g:bN B w v b):∃e a,v=.slice e b.length a:=by obtain ⟨j,rfl,i,_⟩:=g;obtain ⟨c,a,f⟩:=aY i;exact ⟨c,a,by simpa using f⟩
theorem bN.low{a:Nat}{b:List Lt}(f:bN B w v b)(c:a<=B):bN a w v b:=by obtain ⟨e,j,l,m,n⟩:=f;exact ⟨e,j,gS l c,λi g=>gS (m i g) c,n⟩
theorem bN.below{a:List Lt}(b:bN B w v a)(c:aB w w'):bN B w' v a:=(Mv.of_below (S:=[]) (B:=0) c).clause b (by simp) (by simp)
theorem nV{a:List Lt}{b:Nat}(c:b<a.length):a.getD b default=a[b]:=by simp [c]
structure tK(B:Nat)(W:World)(bc ba:Nat)(v:Value)(c:List Lt)(a:Nat):Prop where
 x1:Boxed W bc 29 v
 x2:Boxed W ba 3 (.int .i64 a)
 m1:bN B W v c
theorem tK.kept{e c:Nat}{f:List Lt}{a:Nat}(b:tK B W e c v f a)(k:cK bO W W'):tK B W' e c v f a:=
 ⟨k.boxed b.x1 (by decide),k.boxed b.x2 (by decide),k.clause b.m1 (by decide) (by decide)⟩
theorem bR{S:List TypeId}(a:aB W W'):cK S W W':=(Mv.of_below (S:=S) (B:=0) a).kps
theorem oY{a:Nat->World->Prop}{N:Nat}(e:OwnFrom N a){b:Nat}{w w':World}(f:a b w)(g:aB w w'):a b w':=
 e b w w' none f (fX g) (λi c=>by cases c)
theorem sC{j:Type}{N:Nat}{I:j->World->Prop}(c:∀a W W',I a W->cK bO W W'->I a W'):OwnFrom N I:=λa W W' _ g e f=>c a W W' g (cK.grown e (λi b=>(f i b).2))
theorem uT{g n p o:Nat}{e:FuncId}{i:Array Value}{b c:Code}{a:Ending->World->Prop}(f:RoundIn Fence.wide p zt g e i b c w a):RoundIn (Fence.wide.inRound n) o zt g e i b c w a:=
 ⟨f.1,λj l _=>f.2 j l (λd m=>by cases m)⟩
theorem aJy(a b:Option Addr)(f g c e:Nat)(w:World):Calls zt 120 #[.slice a f c,.slice b g e] w λi w'=>i=.returned (.func (.func 142) #[] #[.pointer (some ⟨w.heap.size,0,none⟩),.pointer (some ⟨w.heap.size+1,0,none⟩)])/\w'=(w.alloc (.cells #[.slice a f c] 29)).alloc (.cells #[.slice b g e] 29):=by go_enter Tryz.func120,Tryz.ntmps120;go_wp2;go_ret;exact ⟨rfl,rfl⟩
theorem wW(w:World)(c e:Value)(a:TypeId):∃b,(w.alloc (.cells #[c] a)).alloc (.cells #[e] a)=b/\aB w b/\Boxed b w.heap.size a c/\Boxed b (w.heap.size+1) a e/\b.heap.size=w.heap.size+2:=by refine ⟨_,rfl,((Below.refl _ w).alloc (zz _) _).alloc (by simp) _,(Below.heap_alloc _ _ _ (by simp)).trans (zx w _),?_,by simp⟩;have:=zx (w.alloc (.cells #[c] a)) (.cells #[e] a);rwa [zr] at this
theorem aDd(w:World)(v:Value)(b:TypeId):∃a,w.alloc (.cells #[v] b)=a/\aB w a/\Boxed a w.heap.size b v/\a.heap.size=w.heap.size+1:=⟨_,rfl,(Below.refl _ w).alloc (zz _) _,zx w _,by simp⟩
theorem aDe{a:List Lt}{c e:Nat}(g:(gM a d)[k]?=some (c,e)):c<a.length/\e<d.length:=by have b:=List.mem_of_getElem? g;simp only [gM,mO,lV,List.mem_flatMap,zn,List.mem_filter,List.mem_range] at b;obtain ⟨l,i,m,⟨j,_⟩,f⟩:=b;cases f;exact ⟨i,j⟩
theorem aJz{a:List Lt}{b c:Nat}(l:b<a.length)(m:c<a.length){g:List Lt}{j:Bool}{e:Int}(f:jG (aW 0 a[b].2++aW 0 a[c].2) 0 a[b].2.length (bE 0 [(a,c)]) g j e):tI a b c=(g,j,e):=by have r:∃i:List Lt×Bool×Int,jG (aW 0 (a.getD b default).2++aW 0 (a.getD c default).2) 0 (a.getD b default).2.length (bE 0 [(a,c)]) i.1 i.2.1 i.2.2:=⟨(g,j,e),by rw [nV l,nV m];exact f⟩;have q:=Classical.epsilon_spec r;rw [<-nV l,<-nV m] at f;obtain ⟨n,o,p⟩:=aDb q f;unfold tI;exact Prod.ext n (Prod.ext o p)
theorem oZ{c:Type}{a:List c}{b:c}(e:a[k]?=some b):a.take (k+1)=a.take k++[b]:=by rw [List.take_add_one,e];rfl
theorem zT{c i:Type}{a:List c}{b:c->Option i}{f:c}{g:i}(e:a[k]?=some f)(j:b f=some g):(a.filterMap b)[((a.take k).filterMap b).length]?=some g:=by
 have l:=(zl.1 e).1;have:a.filterMap b=(a.take k).filterMap b++(a.drop k).filterMap b:=by rw [<-zy,List.take_append_drop]
 rw [this,zm (zz _),Nat.sub_self,List.drop_eq_getElem_cons l,(zl.1 e).2];simp [j]
theorem aDf{a:Nat->World->Prop}{b c:Nat}(i:OwnFrom b a)(j:b<=c)(e:Nat->Nat):OwnFrom c (λk W=>a (e k) W):=λp f g o n l m=>rP i j (e p) f g o n l m
theorem aXw(b7 M J B:Nat)(v:Value)(a:List Lt)(e:Nat)(j0:3<=b7)(x:jS a)(W:World)(i1:B<=W.heap.size)(P:tK B W M J v a e):rO Fence.wide b7 zt 119 #[.pointer (some ⟨M,0,none⟩),.pointer (some ⟨J,0,none⟩)] (qU B) bO (sB a e) W:=by
 intro Z c7 c8 d2 d4 d7 h0;have i2:=x.len;have c5:=aA d7;have D:=aA d2;clear d7 d2;refine callsIn_of_wp_marks Tryz.func119 rfl trivial ?_ rfl;simp only [Tryz.ntmps119,zg,ze,List.length_nil,Nat.reduceAdd,Nat.reduceSub,zk,zj,zf,zi,List.nil_append,zd];obtain ⟨F,t,rfl,_,p,_⟩:=P.m1.lits x;have d0:=P.x1.cell;have f6:=λa3=>aD ((Below.refl W.heap.size W).alloc (zz _) a3) d0
 have f1:=aA P;clear P p d0;gi_wp2
 clear f6;refine ⟨trivial,λ_=>by omega,(callsIn_wide.2 (aJy _ _ _ _ _ _ _)).mono ?_⟩;rintro g w' ⟨rfl,rfl⟩;gi_wp2
 obtain ⟨f2,d5,d8,e6,g5⟩:=aDd W (.func (.yield Z) #[] #[]) 147;simp only [d5] at *;obtain ⟨A,d6,a9,e2,e3,j2⟩:=wW f2 (.slice F a.length t) (.slice F a.length t) 29;simp only [d6] at *;have i:aB W A:=aZ d8 a9;have g6:Boxed A W.heap.size 147 (.func (.yield Z) #[] #[]):=(bR (S:=bO) a9).boxed e6 (by decide);have a6:=f1.o.kept (bR (S:=bO) i);have f9:=oY D.o h0 i;clear d5 d6 e6 d8 a9 h0;rw [g5] at e2 e3;refine aHf rfl (by omega) (gf:=142) (lb:=#[.pointer (some ⟨W.heap.size+1,0,none⟩),.pointer (some ⟨W.heap.size+1+1,0,none⟩)]) rfl trivial (enters_of Tryz.func142 (by kernel_rfl) rfl)
  (Enc:=λ(a0:Nat×Nat) a4 _=>a4=#[.int .i64 a0.1,.int .i64 a0.2]) (S:=bO) (L:=gM a a)
  (λe8 j4=>aGa (b7-1) (W.heap.size+1) (W.heap.size+1+1) B (.slice F a.length t) (.slice F a.length t) a a (by omega) x x _ (oJ.kept ⟨e2,e3,a6.m1,a6.m1⟩ (bR (((Below.refl _ A).alloc (zz _) _).alloc (by simp) _))))
  (λa0 a4 W j=>by rw [j];rfl)
  (λk W'=>c7 (((gM a a).take k).filterMap (mY a e)).length W'/\(tK B W' M J (.slice F a.length t) a e/\Boxed W' W.heap.size 147 (.func (.yield Z) #[] #[]))/\A.heap.size<=W'.heap.size)
  (λG _ W'=>G=.ret/\∃k,c8 k W') ?hI ?hIx ?h0 ?A ?assign ?body ?done ?stop
 case hI=>exact (aDf D.o i.size _).and ((sC (λ_ _ _ j k=>⟨j.1.kept k,k.boxed j.2 (by decide)⟩)).and (λ_ _ _ _ j b0 _=>zv j b0.size))
 case hIx=>
  rintro G j7 a3 f5 g9 ⟨a5,k,N⟩ b0 g3;exact ⟨a5,k,rP d4 i.size k a3 f5 g9 N b0 g3⟩
 case h0=>exact ⟨by simpa using f9,⟨a6,g6⟩,zz _⟩
 case assign=>
  rintro e7 a0 a4 q K rfl hK;gi_wp2
  exact hK
 case body=>
  rintro e7 k ⟨b,c⟩ q i7 b3 ⟨d3,⟨H,Y⟩,e5⟩;obtain ⟨T,U⟩:=aDe b3;obtain ⟨h3,h8,f7,_,p,_⟩:=H.m1.lits x;cases f7;obtain ⟨d1,e9,h4,h5,g,j3,b5,b6⟩:=p.cell b T;obtain ⟨i0,j5,h6,h7,c9,g8,b8,b9⟩:=p.cell c U;rw [g] at c9;cases c9;subst g;have i8:=H.x1.cell;have i9:=H.x2.cell;have i5:(b:Int)<(a.length:Int):=by omega
  have i6:(c:Int)<(a.length:Int):=by omega
  have V:kS a b=a[b].1:=by unfold kS;rw [nV T]
  have X:kS a c=a[c].1:=by unfold kS;rw [nV U]
  have C:=aA H;have c6:=aA Y;have c3:=aA d3;have E:=aA e5;have z:=aA b3;have b2:zt.follows .mixedOrders=true:=by kernel_rfl
  have e4:mY a e (b,c)=none->∀nq d,yR A.heap.size bO (λk W'=>c7 (((gM a a).take k).filterMap (mY a e)).length W'/\(tK B W' M J (.slice (some ⟨d1,e9,none⟩) a.length t) a e/\Boxed W' W.heap.size 147 (.func (.yield Z) #[] #[]))/\A.heap.size<=W'.heap.size) (λG _ W'=>G=.ret/\∃k,c8 k W') k q .normal d (q.drewN nq):=by intro g4 nq d;have r:aB q (q.drewN nq):=aQ ⟨nq,rfl⟩;refine ⟨(Mv.of_below (S:=[]) (B:=0) r).keepsFrom,bR r,?_,⟨C.o.kept (bR r),(bR (S:=bO) r).boxed c6.o (by decide)⟩,E.o⟩;rw [oZ z.o,zy];simp only [zw,g4,zu,zo];exact oY D.o c3.o r
  have c4:=aA e4;clear H Y d3 e5 b3 e4;by_cases b1:b<c
  ·have g1:¬(c:Int)<=(b:Int):=by omega
   have i3:decide (c<=b)=false:=gH (by omega);by_cases s:a[b].1=a[c].1
   ·have g2:(a[b].1 != a[c].1)=false:=by simp [s]
    obtain ⟨o,f0,n,R⟩ : ∃e8 h2 g,tI a b c=(e8,h2,g):=⟨_,_,_,rfl⟩;have c1:=aA (λ(c0:World) (r:aB q c0)=>(aXv (some ⟨d1,e9,none⟩) t a b c c0 (p.below r (zz _)) x.term T U x.len).mono (R':=λg y=>∃l m,g=.returned (.tuple #[.slice l o.length m,.bool f0,.int .i64 n])/\bN B y (.slice l o.length m) o/\aB c0 y) (λg y g0=>by
     obtain ⟨v,j8,h9,rfl,e1⟩:=g0;obtain ⟨j6,a5,N,_⟩:=e1.out;have:=aJz T U a5;rw [R] at this;cases this;obtain ⟨l,m,rfl⟩:=N.shape;exact ⟨l,m,rfl,N.low (by have:=r.size;have:=E.o;have:=i.size;omega),e1.low⟩))
    rw [<-s] at g8;clear p b5 b6 b8 b9;gi_wp2
    refine wZ [_,_,_,_,_,_,_,_,_,_,_,_,_,_,_,_] rfl (by kernel_rfl) b2 (by kernel_rfl) (by kernel_rfl) ?_;repeat (gi_big_quiet_step (fail))
    refine wpQuietIn_nil ?_;rintro _ ⟨nq,rfl⟩;gi_wp2
    refine ⟨trivial,λ_=>by omega,(CallsIn.inRound e7 (callsIn_wide.2 (aC c1 (q.drewN nq) (aQ ⟨nq,rfl⟩)))).mono ?_⟩;rintro g y ⟨l,m,rfl,e0,d9⟩;have I:aB q y:=(aQ ⟨nq,rfl⟩).trans d9;have b4:=(bR (S:=bO) I).boxed c6.o (by decide);have j9:=b4.cell;have k0:=(C.o.kept (bR I)).x2.cell;have a2:=aA b4;have f:=aA I;have c2:=aA e0;have a1:=aA (oY D.o c3.o I);clear b4 I e0 d9 c1;cases f0 with
    |true=>
     have u:mY a e (b,c)=some (⟨3,e,0,b,c,o⟩,n):=by unfold mY;rw [aG ⟨b1,by rw [V,X];exact s⟩,R];simp
     have a8:=c5.o _ (⟨3,e,0,b,c,o⟩,n) #[.agg #[.int .i64 3,.int .i64 e,.int .i64 0,.int .i64 b,.int .i64 c,.slice l o.length m],.int .i64 n] y (zT z.o u) a1.o ⟨l,m,rfl,c2.o⟩;obtain ⟨f8,h1,assign,body,Y,a7⟩:=a8;gi_wp2
     refine ⟨λ_=>by omega,(uT a7).mono ?_⟩;rintro g f3 (⟨rfl,hJ4,hk4⟩|⟨rfl,hJx4,hk4⟩)
     ·gi_wp2
      refine ⟨lX (Mv.of_below (S:=[]) (B:=0) f.o).keepsFrom (jY hk4.2 i.size),(bR f.o).trans hk4.1,?_,⟨(C.o.kept (bR f.o)).kept hk4.1,hk4.1.boxed a2.o (by decide)⟩,zv (zv E.o f.o.size) hk4.1.size⟩;rw [oZ z.o,zy,zp];simp only [zw,u,zu];exact hJ4
     ·gi_wp2
      exact ⟨lX (Mv.of_below (S:=[]) (B:=0) f.o).keepsFrom (jY hk4 i.size),rfl,_,hJx4⟩
    |false=>
     by_cases Q:n=0
     ·have u:mY a e (b,c)=none:=by
       unfold mY;rw [aG ⟨b1,by rw [V,X];exact s⟩,R];simp [Q]
      subst Q;gi_wp2
      refine ⟨λ_ j=>(by cases j),?_⟩;gi_wp2
      refine ⟨(Mv.of_below (S:=[]) (B:=0) f.o).keepsFrom,bR f.o,?_,⟨C.o.kept (bR f.o),a2.o⟩,zv E.o f.o.size⟩;rw [oZ z.o,zy];simp only [zw,u,zu,zo];exact a1.o
     ·have i4:(n != 0)=true:=by simp [Q]
      have u:mY a e (b,c)=some (⟨3,e,0,b,c,o⟩,n):=by unfold mY;rw [aG ⟨b1,by rw [V,X];exact s⟩,R];simp [Q]
      have a8:=c5.o _ (⟨3,e,0,b,c,o⟩,n) #[.agg #[.int .i64 3,.int .i64 e,.int .i64 0,.int .i64 b,.int .i64 c,.slice l o.length m],.int .i64 n] y (zT z.o u) a1.o ⟨l,m,rfl,c2.o⟩;obtain ⟨f8,h1,assign,body,Y,a7⟩:=a8;gi_wp2
      refine ⟨λ_=>by omega,(uT a7).mono ?_⟩;rintro g f3 (⟨rfl,hJ4,hk4⟩|⟨rfl,hJx4,hk4⟩)
      ·gi_wp2
       refine ⟨lX (Mv.of_below (S:=[]) (B:=0) f.o).keepsFrom (jY hk4.2 i.size),(bR f.o).trans hk4.1,?_,⟨(C.o.kept (bR f.o)).kept hk4.1,hk4.1.boxed a2.o (by decide)⟩,zv (zv E.o f.o.size) hk4.1.size⟩;rw [oZ z.o,zy,zp];simp only [zw,u,zu];exact hJ4
      ·gi_wp2
       exact ⟨lX (Mv.of_below (S:=[]) (B:=0) f.o).keepsFrom (jY hk4 i.size),rfl,_,hJx4⟩
   ·have j1:(a[b].1==a[c].1)=false:=by simp [s]
    have g2:(a[b].1 != a[c].1)=true:=by simp [s]
    clear p b5 b6 b8 b9;gi_wp2
    refine wZ [_,_,_,_,_,_,_,_,_,_,_,_,_,_,_,_] rfl (by kernel_rfl) b2 (by kernel_rfl) (by kernel_rfl) ?_;repeat (gi_big_quiet_step (fail))
    refine wpQuietIn_nil ?_;rintro _ ⟨nq,rfl⟩;gi_wp2
    exact c4.o (by unfold mY;rw [aF (by rw [V,X];exact λj=>s j.2)]) _ _
  ·have g1:(c:Int)<=(b:Int):=by omega
   clear p b5 b6 b8 b9;gi_wp2
   refine wZ [_,_,_,_,_,_,_,_,_,_,_,_,_,_,_,_] rfl (by kernel_rfl) b2 (by kernel_rfl) (by kernel_rfl) ?_;repeat (gi_big_quiet_step (fail))
   refine wpQuietIn_nil ?_;rintro _ ⟨nq,rfl⟩;gi_wp2
   exact c4.o (by unfold mY;rw [aF (by omega)]) _ _
 case done=>
  rintro f4 ⟨O,_,_⟩ hK;gi_wp2
  refine ⟨by simp,.inl ⟨_,_,rfl,run_takeDeferred hK,?_⟩⟩;refine ⟨_,results_none rfl _ _ _,⟨_,rfl⟩,.inl ?_⟩;rw [zc] at O;exact D.o.putObj _ O i.size hK rfl
 case stop=>
  rintro G k f4 ⟨rfl,g7,O⟩ hK;gi_wp2
  refine ⟨by simp,.inl ⟨_,_,rfl,run_takeDeferred hK,?_⟩⟩;refine ⟨_,results_none rfl _ _ _,⟨_,rfl⟩,.inr ⟨g7,?_⟩⟩;exact d4.putObj _ O i.size hK rfl
end
section
attribute [local go_sem] Oper.semAt_some
noncomputable def nW(b:List Lt)(c:Nat)(d:List Lt)(e:Nat)(a:Nat×Nat):Option (aK×Int):=
 if kS b a.1≠kS d a.2 then (if (tJ b a.1 d a.2).2.1=true\/(tJ b a.1 d a.2).2.2≠0 then some (⟨2,c,e,a.1,a.2,(tJ b a.1 d a.2).1⟩,(tJ b a.1 d a.2).2.2) else none) else none
noncomputable def kT(a:List Lt)(b:Nat)(d:List Lt)(c:Nat):List (aK×Int):=(gM a d).filterMap (nW a b d c)
structure tL(B:Nat)(W:World)(bc bd ba bb:Nat)(v u:Value)(c d:List Lt)(a b:Nat):Prop where
 x1:Boxed W bc 29 v
 x2:Boxed W bd 29 u
 x3:Boxed W ba 3 (.int .i64 a)
 x4:Boxed W bb 3 (.int .i64 b)
 m1:bN B W v c
 m2:bN B W u d
theorem tL.kept{g i e f:Nat}{l:Value}{j:List Lt}{a b:Nat}(c:tL B W g i e f v l j d a b)(k:cK bO W W'):tL B W' g i e f v l j d a b:=
 ⟨k.boxed c.x1 (by decide),k.boxed c.x2 (by decide),k.boxed c.x3 (by decide),k.boxed c.x4 (by decide),k.clause c.m1 (by decide) (by decide),k.clause c.m2 (by decide) (by decide)⟩
theorem aK0{a:List Lt}{b c:Nat}(l:b<a.length)(m:c<d.length){g:List Lt}{j:Bool}{e:Int}(f:jG (aW 0 a[b].2++aW 1 d[c].2) 0 a[b].2.length (bE 0 [(a,b),(d,c)]) g j e):tJ a b d c=(g,j,e):=by have r:∃i:List Lt×Bool×Int,jG (aW 0 (a.getD b default).2++aW 1 (d.getD c default).2) 0 (a.getD b default).2.length (bE 0 [(a,b),(d,c)]) i.1 i.2.1 i.2.2:=⟨(g,j,e),by rw [nV l,nV m];exact f⟩;have q:=Classical.epsilon_spec r;rw [<-nV l,<-nV m] at f;obtain ⟨n,o,p⟩:=aDb q f;unfold tJ;exact Prod.ext n (Prod.ext o p)
theorem aXx(c0 T U Q R B:Nat)(v i2:Value)(a d:List Lt)(e f:Nat)(k4:3<=c0)(G:jS a)(H:jS d)(W:World)(j3:B<=W.heap.size)(D:tL B W T U Q R v i2 a d e f):rO Fence.wide c0 zt 121 #[.pointer (some ⟨T,0,none⟩),.pointer (some ⟨U,0,none⟩),.pointer (some ⟨Q,0,none⟩),.pointer (some ⟨R,0,none⟩)] (qU B) bO (kT a e d f) W:=by
 intro a5 c7 c8 d4 d6 d9 h0;have j4:=G.len;have j5:=H.len;have c5:=aA d9;have I:=aA d4;clear d9 d4;refine callsIn_of_wp_marks Tryz.func121 rfl trivial ?_ rfl;simp only [Tryz.ntmps121,zg,ze,List.length_nil,Nat.reduceAdd,Nat.reduceSub,zk,zj,zf,zi,List.nil_append,zd];obtain ⟨a9,N,rfl,_,z,_⟩:=D.m1.lits G;obtain ⟨b0,O,rfl,_,A,_⟩:=D.m2.lits H;have d0:=D.x1.cell;have d1:=D.x2.cell;have g5:=λM=>aD ((Below.refl W.heap.size W).alloc (zz _) M) d0
 have g6:=λM=>aD ((Below.refl W.heap.size W).alloc (zz _) M) d1
 have g0:=aA D;clear D z A d0 d1;gi_wp2
 clear g5 g6;refine ⟨trivial,λ_=>by omega,(callsIn_wide.2 (aJy _ _ _ _ _ _ _)).mono ?_⟩;rintro q w' ⟨rfl,rfl⟩;gi_wp2
 obtain ⟨g1,d7,e0,e9,h5⟩:=aDd W (.func (.yield a5) #[] #[]) 147;simp only [d7] at *;obtain ⟨C,d8,b6,e5,e6,k6⟩:=wW g1 (.slice a9 a.length N) (.slice b0 d.length O) 29;simp only [d8] at *;have i:aB W C:=aZ e0 b6;have h7:Boxed C W.heap.size 147 (.func (.yield a5) #[] #[]):=(bR (S:=bO) b6).boxed e9 (by decide);have b3:=g0.o.kept (bR (S:=bO) i);have h1:=oY I.o h0 i;clear d7 d8 e9 e0 b6 h0;rw [h5] at e5 e6;refine aHf rfl (by omega) (gf:=142) (lb:=#[.pointer (some ⟨W.heap.size+1,0,none⟩),.pointer (some ⟨W.heap.size+1+1,0,none⟩)]) rfl trivial (enters_of Tryz.func142 (by kernel_rfl) rfl)
  (Enc:=λ(a6:Nat×Nat) b1 _=>b1=#[.int .i64 a6.1,.int .i64 a6.2]) (S:=bO) (L:=gM a d)
  (λf3 k8=>aGa (c0-1) (W.heap.size+1) (W.heap.size+1+1) B (.slice a9 a.length N) (.slice b0 d.length O) a d (by omega) G H _ (oJ.kept ⟨e5,e6,b3.m1,b3.m2⟩ (bR (((Below.refl _ C).alloc (zz _) _).alloc (by simp) _))))
  (λa6 b1 W r=>by rw [r];rfl)
  (λk W'=>c7 (((gM a d).take k).filterMap (nW a e d f)).length W'/\(tL B W' T U Q R (.slice a9 a.length N) (.slice b0 d.length O) a d e f/\Boxed W' W.heap.size 147 (.func (.yield a5) #[] #[]))/\C.heap.size<=W'.heap.size)
  (λP _ W'=>P=.ret/\∃k,c8 k W') ?hI ?hIx ?h0 ?A ?assign ?body ?done ?stop
 case hI=>exact (aDf I.o i.size _).and ((sC (λ_ _ _ r k=>⟨r.1.kept k,k.boxed r.2 (by decide)⟩)).and (λ_ _ _ _ r b7 _=>zv r b7.size))
 case hIx=>
  rintro P l0 M g4 i0 ⟨b2,k,V⟩ b7 h3;exact ⟨b2,k,rP d6 i.size k M g4 i0 V b7 h3⟩
 case h0=>exact ⟨by simpa using h1,⟨b3,h7⟩,zz _⟩
 case assign=>
  rintro f2 a6 b1 p K rfl hK;gi_wp2
  exact hK
 case body=>
  rintro f2 k ⟨b,c⟩ p j9 b8 ⟨d5,⟨s,a4⟩,e8⟩;obtain ⟨a0,a1⟩:=aDe b8;obtain ⟨i4,j0,g7,_,z,_⟩:=s.m1.lits G;cases g7;obtain ⟨i5,j1,g8,_,A,_⟩:=s.m2.lits H;cases g8;obtain ⟨d2,f4,i6,i7,rfl,k7,f0,f1⟩:=z.cell b a0;obtain ⟨d3,f5,i8,i9,rfl,h9,f6,f7⟩:=A.cell c a1;have k0:=s.x1.cell;have k1:=s.x2.cell;have k2:=s.x3.cell;have k3:=s.x4.cell;have j7:(b:Int)<(a.length:Int):=by omega
  have j8:(c:Int)<(d.length:Int):=by omega
  have a2:kS a b=a[b].1:=by unfold kS;rw [nV a0]
  have a3:kS d c=d[c].1:=by unfold kS;rw [nV a1]
  have x:=aA s;have c6:=aA a4;have c4:=aA d5;have J:=aA e8;have y:=aA b8;have e4:zt.follows .mixedOrders=true:=by kernel_rfl
  have e7:nW a e d f (b,c)=none->∀nq c9,yR C.heap.size bO (λk W'=>c7 (((gM a d).take k).filterMap (nW a e d f)).length W'/\(tL B W' T U Q R (.slice (some ⟨d2,f4,none⟩) a.length N) (.slice (some ⟨d3,f5,none⟩) d.length O) a d e f/\Boxed W' W.heap.size 147 (.func (.yield a5) #[] #[]))/\C.heap.size<=W'.heap.size) (λP _ W'=>P=.ret/\∃k,c8 k W') k p .normal c9 (p.drewN nq):=by intro h4 nq c9;have n:aB p (p.drewN nq):=aQ ⟨nq,rfl⟩;refine ⟨(Mv.of_below (S:=[]) (B:=0) n).keepsFrom,bR n,?_,⟨x.o.kept (bR n),(bR (S:=bO) n).boxed c6.o (by decide)⟩,J.o⟩;rw [oZ y.o,zy];simp only [zw,h4,zu,zo];exact oY I.o c4.o n
  have f9:=aA e7;clear s a4 d5 e8 b8 e7;by_cases F:a[b].1≠d[c].1
  ·have k5:(a[b].1==d[c].1)=false:=by simp [F]
   obtain ⟨o,f8,m,Z⟩ : ∃f3 i3 q,tJ a b d c=(f3,i3,q):=⟨_,_,_,rfl⟩;have c2:=aA (λ(c1:World) (n:aB p c1)=>(aJx (some ⟨d2,f4,none⟩) (some ⟨d3,f5,none⟩) N O a d b c c1 (z.below n (zz _)) (A.below n (zz _)) G.term H.term a0 a1 G.len H.len).mono (R':=λq u=>∃j l,q=.returned (.tuple #[.slice j o.length l,.bool f8,.int .i64 m])/\bN B u (.slice j o.length l) o/\aB c1 u) (λq u h2=>by
    obtain ⟨v,l1,j2,rfl,e3⟩:=h2;obtain ⟨k9,b2,V,_⟩:=e3.out;have:=aK0 a0 a1 b2;rw [Z] at this;cases this;obtain ⟨j,l,rfl⟩:=V.shape;exact ⟨j,l,rfl,V.low (by have:=n.size;have:=J.o;have:=i.size;omega),e3.low⟩))
   clear z A f0 f1 f6 f7;gi_wp2
   refine wZ [_,_,_,_,_,_,_,_,_,_,_] rfl (by kernel_rfl) e4 (by kernel_rfl) (by kernel_rfl) ?_;repeat (gi_big_quiet_step (fail))
   refine wpQuietIn_nil ?_;rintro _ ⟨nq,rfl⟩;gi_wp2
   refine ⟨trivial,λ_=>by omega,(CallsIn.inRound f2 (callsIn_wide.2 (aC c2 (p.drewN nq) (aQ ⟨nq,rfl⟩)))).mono ?_⟩;rintro q u ⟨j,l,rfl,e2,e1⟩;have E:aB p u:=(aQ ⟨nq,rfl⟩).trans e1;have b9:=(bR (S:=bO) E).boxed c6.o (by decide);have l2:=b9.cell;have l3:=(x.o.kept (bR E)).x3.cell;have l4:=(x.o.kept (bR E)).x4.cell;have a8:=aA b9;have g:=aA E;have c3:=aA e2;have a7:=aA (oY I.o c4.o E);clear b9 E e2 e1 c2;cases f8 with
   |true=>
    have t:nW a e d f (b,c)=some (⟨2,e,f,b,c,o⟩,m):=by unfold nW;rw [aG (by rw [a2,a3];exact F),Z];simp
    have b5:=c5.o _ (⟨2,e,f,b,c,o⟩,m) #[.agg #[.int .i64 2,.int .i64 e,.int .i64 f,.int .i64 b,.int .i64 c,.slice j o.length l],.int .i64 m] u (zT y.o t) a7.o ⟨j,l,rfl,c3.o⟩;obtain ⟨g9,i1,assign,body,a4,b4⟩:=b5;gi_wp2
    refine ⟨λ_=>by omega,(uT b4).mono ?_⟩;rintro q g2 (⟨rfl,hJ4,hk4⟩|⟨rfl,hJx4,hk4⟩)
    ·gi_wp2
     refine ⟨lX (Mv.of_below (S:=[]) (B:=0) g.o).keepsFrom (jY hk4.2 i.size),(bR g.o).trans hk4.1,?_,⟨(x.o.kept (bR g.o)).kept hk4.1,hk4.1.boxed a8.o (by decide)⟩,zv (zv J.o g.o.size) hk4.1.size⟩;rw [oZ y.o,zy,zp];simp only [zw,t,zu];exact hJ4
    ·gi_wp2
     exact ⟨lX (Mv.of_below (S:=[]) (B:=0) g.o).keepsFrom (jY hk4 i.size),rfl,_,hJx4⟩
   |false=>
    by_cases Y:m=0
    ·have t:nW a e d f (b,c)=none:=by
      unfold nW;rw [aG (by rw [a2,a3];exact F),Z];simp [Y]
     subst Y;gi_wp2
     refine ⟨λ_ r=>(by cases r),?_⟩;gi_wp2
     refine ⟨(Mv.of_below (S:=[]) (B:=0) g.o).keepsFrom,bR g.o,?_,⟨x.o.kept (bR g.o),a8.o⟩,zv J.o g.o.size⟩;rw [oZ y.o,zy];simp only [zw,t,zu,zo];exact a7.o
    ·have j6:(m != 0)=true:=by simp [Y]
     have t:nW a e d f (b,c)=some (⟨2,e,f,b,c,o⟩,m):=by unfold nW;rw [aG (by rw [a2,a3];exact F),Z];simp [Y]
     have b5:=c5.o _ (⟨2,e,f,b,c,o⟩,m) #[.agg #[.int .i64 2,.int .i64 e,.int .i64 f,.int .i64 b,.int .i64 c,.slice j o.length l],.int .i64 m] u (zT y.o t) a7.o ⟨j,l,rfl,c3.o⟩;obtain ⟨g9,i1,assign,body,a4,b4⟩:=b5;gi_wp2
     refine ⟨λ_=>by omega,(uT b4).mono ?_⟩;rintro q g2 (⟨rfl,hJ4,hk4⟩|⟨rfl,hJx4,hk4⟩)
     ·gi_wp2
      refine ⟨lX (Mv.of_below (S:=[]) (B:=0) g.o).keepsFrom (jY hk4.2 i.size),(bR g.o).trans hk4.1,?_,⟨(x.o.kept (bR g.o)).kept hk4.1,hk4.1.boxed a8.o (by decide)⟩,zv (zv J.o g.o.size) hk4.1.size⟩;rw [oZ y.o,zy,zp];simp only [zw,t,zu];exact hJ4
     ·gi_wp2
      exact ⟨lX (Mv.of_below (S:=[]) (B:=0) g.o).keepsFrom (jY hk4 i.size),rfl,_,hJx4⟩
  ·have h6:a[b].1=d[c].1:=by simpa using F
   rw [<-h6] at h9;clear z A f0 f1 f6 f7;gi_wp2
   refine wZ [_,_,_,_,_,_,_,_,_,_,_] rfl (by kernel_rfl) e4 (by kernel_rfl) (by kernel_rfl) ?_;repeat (gi_big_quiet_step (fail))
   refine wpQuietIn_nil ?_;rintro _ ⟨nq,rfl⟩;gi_wp2
   exact f9.o (by unfold nW;rw [aF (by rw [a2,a3];exact F)]) _ _
 case done=>
  rintro g3 ⟨X,_,_⟩ hK;gi_wp2
  refine ⟨by simp,.inl ⟨_,_,rfl,run_takeDeferred hK,?_⟩⟩;refine ⟨_,results_none rfl _ _ _,⟨_,rfl⟩,.inl ?_⟩;rw [zc] at X;exact I.o.putObj _ X i.size hK rfl
 case stop=>
  rintro P k g3 ⟨rfl,h8,X⟩ hK;gi_wp2
  refine ⟨by simp,.inl ⟨_,_,rfl,run_takeDeferred hK,?_⟩⟩;refine ⟨_,results_none rfl _ _ _,⟨_,rfl⟩,.inr ⟨h8,?_⟩⟩;exact d6.putObj _ X i.size hK rfl
end
def gF(p:aK×Value):List Value:=[.int .i64 p.1.r,.int .i64 p.1.a,.int .i64 p.1.b,.int .i64 p.1.i,.int .i64 p.1.j,p.2]
def gQ(a:List (aK×Value)):List Value:=a.flatMap gF
theorem aK1(a:List (aK×Value)):(gQ a).length=a.length*6:=by
 induction a with
 |nil=>rfl
 |cons x r ih=>simp [gQ,gF] at ih ⊢;omega
theorem aK2:∀(a:List (aK×Value)) (k:Nat) (b:k<a.length),(gQ a)[k*6+5]?=some a[k].2
 |[],k,b=>by simp at b
 |x::a,0,_=>by simp [gQ,gF]
 |x::a,k+1,b=>by
  have:=aK2 a k (by simpa using b);rw [show gQ (x::a)=gF x++gQ a from rfl,zm (by simp [gF];omega),show (k+1)*6+5-(gF x).length=k*6+5 by simp [gF];omega,this];simp
structure iD(B:Nat)(W:World)(vs:Value)(T:List (aK×Value)):Prop where
 row:W.ownsRow B 77 6 vs T.length (gQ T)
 cl:∀p∈T,bN B W p.2 p.1.c
theorem iD.kept{a:List (aK×Value)}{S:List TypeId}(b:iD B W vs a)(k:cK S W W')(c:77∉S)(e:41∉S)(f:43∉S):iD B W' vs a:=
 ⟨k.row b.row c,λi g=>k.clause (b.cl i g) e f⟩
theorem iD.cell{a:List (aK×Value)}(i:iD B W vs a){k:Nat}(l:k<a.length):∃g e b c,vs=.slice (some ⟨g,0,none⟩) a.length e/\a[k].2=.slice b a[k].1.c.length c/\W.cell? ⟨g,k*6+5,none⟩=some (.slice b a[k].1.c.length c)/\bN B W (.slice b a[k].1.c.length c) a[k].1.c:=by
 have j:=i.cl a[k] (zs l);obtain ⟨b,c,f⟩:=j.shape;obtain ⟨o,⟨_,n⟩|⟨g,e,m,rfl,p,q,s⟩⟩:=i.row
 ·omega
 ·have r:=aK1 a;refine ⟨g,e,b,c,rfl,f,?_,by rw [<-f];exact j⟩;rw [i.row.cellAt (k*6+5) (by omega),aK2 a k l,f]
def aP(a:List (aK×Value))(k:Nat):List Lt:=((a[k]?).map λb=>b.1.c).getD []
theorem qV{a:List (aK×Value)}(b:k<a.length):aP a k=a[k].1.c:=by simp [aP,b]
theorem aXy(B:Nat)(vs:Value)(b:List (aK×Value))(a:Nat)(w:World)(p:iD B w vs b)(j:a<b.length):Calls zt 101 #[vs,.int .i64 a] w λo w'=>∃i g v,o=.returned (.func (.func 119) #[] #[.pointer (some ⟨i,0,none⟩),.pointer (some ⟨g,0,none⟩)])/\tK B w' i g v (aP b a) a/\aB w w':=by
 obtain ⟨t,r,c,e,rfl,_,f,m⟩:=p.cell j;rw [<-qV j] at f m;have u:(a:Int)<(b.length:Int):=by omega
 have s:=λn=>aD ((Below.refl w.heap.size w).alloc (zz _) n) f
 clear f;go_enter Tryz.func101,Tryz.ntmps101;go_wp2;go_ret;have q:aB w (w.alloc (.cells #[.int .i64 a] 3)):=(Below.refl _ w).alloc (zz _) _;have l:aB w ((w.alloc (.cells #[.int .i64 a] 3)).alloc (.cells #[.slice c (aP b a).length e] 29)):=q.alloc (by simp) _;refine ⟨w.heap.size+1,w.heap.size,.slice c (aP b a).length e,rfl,⟨?_,?_,m.below l⟩,l⟩
 ·have:=zx (w.alloc (.cells #[.int .i64 a] 3)) (.cells #[.slice c (aP b a).length e] 29);rwa [zr] at this
 ·exact (Below.heap_alloc _ _ _ (by simp)).trans (zx w _)
theorem aXz(B:Nat)(vs:Value)(c:List (aK×Value))(f g:Nat)(w:World)(P:iD B w vs c)(Q:f<c.length)(R:g<c.length):Calls zt 102 #[vs,.int .i64 f,.int .i64 g] w λq w'=>∃G H E F v V,q=.returned (.func (.func 121) #[] #[.pointer (some ⟨G,0,none⟩),.pointer (some ⟨H,0,none⟩),.pointer (some ⟨E,0,none⟩),.pointer (some ⟨F,0,none⟩)])/\tL B w' G H E F v V (aP c f) (aP c g) f g/\aB w w':=by
 obtain ⟨a7,X,C,I,rfl,_,s,u⟩:=P.cell Q;obtain ⟨a8,Y,D,J,q,_,t,x⟩:=P.cell R;cases q;rw [<-qV Q] at s u;rw [<-qV R] at t x;have a9:(f:Int)<(c.length:Int):=by omega
 have b0:(g:Int)<(c.length:Int):=by omega
 go_enter Tryz.func102,Tryz.ntmps102;have b1:zt.follows .mixedOrders=true:=by kernel_rfl
 go_wp2;obtain ⟨a,U,p,z,A,T⟩:=wW w (.int .i64 f) (.int .i64 g) 3;simp only [U];clear U;have L:=aD p s;have M:=aD p t;have N:=z.cell;have O:=A.cell;have a3:=λb=>aD ((Below.refl a.heap.size a).alloc (zz _) b) L
 have a4:=λb=>aD ((Below.refl a.heap.size a).alloc (zz _) b) M
 have a5:=λb=>aD ((Below.refl a.heap.size a).alloc (zz _) b) N
 have a6:=λb=>aD ((Below.refl a.heap.size a).alloc (zz _) b) O
 have Z:=λb i=>aD (((Below.refl a.heap.size a).alloc (zz _) b).alloc (by simp) i) L
 have a0:=λb i=>aD (((Below.refl a.heap.size a).alloc (zz _) b).alloc (by simp) i) M
 have a1:=λb i=>aD (((Below.refl a.heap.size a).alloc (zz _) b).alloc (by simp) i) N
 have a2:=λb i=>aD (((Below.refl a.heap.size a).alloc (zz _) b).alloc (by simp) i) O
 clear s t;go_region
 ·go_wp2;go_ret;obtain ⟨e,y,r,n,o,_⟩:=wW a (.slice C (aP c f).length I) (.slice D (aP c g).length J) 29;rw [y];rw [T] at n o;have j:aB a e.drew:=aZ r (aQ ⟨1,rfl⟩);have m:cK bO e e.drew:=bR (aQ ⟨1,rfl⟩);have l:aB w e.drew:=aZ p j;exact ⟨w.heap.size+2,w.heap.size+2+1,w.heap.size,w.heap.size+1,_,_,rfl,⟨m.boxed n (by decide),m.boxed o (by decide),(bR (S:=bO) j).boxed z (by decide),(bR (S:=bO) j).boxed A (by decide),u.below l,x.below l⟩,l⟩
 ·go_wp2;go_ret;obtain ⟨e,y,r,n,o,_⟩:=wW a (.slice D (aP c g).length J) (.slice C (aP c f).length I) 29;rw [y];rw [T] at n o;have j:aB a e.drew:=aZ r (aQ ⟨1,rfl⟩);have m:cK bO e e.drew:=bR (aQ ⟨1,rfl⟩);have l:aB w e.drew:=aZ p j;exact ⟨w.heap.size+2+1,w.heap.size+2,w.heap.size,w.heap.size+1,_,_,rfl,⟨m.boxed o (by decide),m.boxed n (by decide),(bR (S:=bO) j).boxed z (by decide),(bR (S:=bO) j).boxed A (by decide),u.below l,x.below l⟩,l⟩
structure pV(B:Nat)(W:World)(bs ba bo:Nat)(vs vo:Value)(T:List (aK×Value))(a:Nat)(os:List Nat):Prop where
 x1:Boxed W bs 32 vs
 x2:Boxed W ba 3 (.int .i64 a)
 x3:Boxed W bo 33 vo
 st:iD B W vs T
 ot:W.ownsRow B 3 1 vo os.length (os.map λk=>Value.int .i64 (k:Nat))
theorem pV.kept{g e f:Nat}{j:Value}{c:List (aK×Value)}{a:Nat}{i:List Nat}(b:pV B W g e f vs j c a i)(k:cK bO W W'):pV B W' g e f vs j c a i:=
 ⟨k.boxed b.x1 (by decide),k.boxed b.x2 (by decide),k.boxed b.x3 (by decide),b.st.kept k (by decide) (by decide) (by decide),k.row b.ot (by decide)⟩
theorem aK3(B:Nat)(a f:Option Addr)(c i b g:Nat)(m:List (aK×Value))(e:Nat)(l:List Nat)(w:World)(r:iD B w (.slice a c b) m)(u:w.ownsRow B 3 1 (.slice f i g) l.length (l.map λk=>Value.int .i64 (k:Nat))):Calls zt 74 #[.slice a c b,.int .i64 e,.slice f i g] w λq w'=>∃p n o,q=.returned (.func (.func 100) #[] #[.pointer (some ⟨p,0,none⟩),.pointer (some ⟨n,0,none⟩),.pointer (some ⟨o,0,none⟩)])/\pV B w' p n o (.slice a c b) (.slice f i g) m e l/\aB w w':=by
 go_enter Tryz.func74,Tryz.ntmps74;go_wp2;go_ret;have s:aB w (w.alloc (.cells #[.slice a c b] 32)):=(Below.refl _ w).alloc (zz _) _;have t:aB w ((w.alloc (.cells #[.slice a c b] 32)).alloc (.cells #[.int .i64 e] 3)):=s.alloc (by simp) _;have j:aB w (((w.alloc (.cells #[.slice a c b] 32)).alloc (.cells #[.int .i64 e] 3)).alloc (.cells #[.slice f i g] 33)):=t.alloc (by simp;omega) _;refine ⟨w.heap.size,w.heap.size+1,w.heap.size+1+1,rfl,⟨?_,?_,?_,r.kept (S:=[]) (bR j) (by simp) (by simp) (by simp),bF u j (zz _)⟩,j⟩
 ·exact (Below.heap_alloc _ _ _ (by simp;omega)).trans ((Below.heap_alloc _ _ _ (by simp)).trans (zx w _))
 ·refine (Below.heap_alloc _ _ _ (by simp)).trans ?_;have:=zx (w.alloc (.cells #[.slice a c b] 32)) (.cells #[.int .i64 e] 3);rwa [zr] at this
 ·have:=zx ((w.alloc (.cells #[.slice a c b] 32)).alloc (.cells #[.int .i64 e] 3)) (.cells #[.slice f i g] 33);rwa [zr,zr] at this
theorem wX{m:Fence}{u:Nat}{n:Program}{e:Func}{x:Array Value}{c:Ending->World->Prop}{N:Nat}{I:World->Prop}(l:e.results=#[])(i:OwnFrom N (λ(_:Unit) W=>I W))(j:∀v w,I w->c (.returned v) w):∀(a:List Nat) (w:World),I w->(∀D∈a,N<=D/\w.heap[D]?=some (.deferred (some [])))->a.Nodup->LeavesInM m u n e x c (a.map λD=>{target:=.collected D,args:=#[]}) .returning w
 |[],w,h,_,_=>⟨_,results_none l _ _ _,j _ w h⟩
 |D::a,w,h,hd,hn=>by
  obtain ⟨p,f⟩:=hd D (by simp);refine ⟨by simp,.inl ⟨D,_,rfl,run_takeDeferred f,?_⟩⟩;refine wX l i j a _ (i.putObj (s:=()) _ h p f rfl) (λb g=>?_) (List.nodup_cons.1 hn).2;have t:b≠D:=λo=>(List.nodup_cons.1 hn).1 (by rw [<-o];exact g)
  obtain ⟨q,r⟩:=hd b (by simp [g]);exact ⟨q,(World.putObj_heap_other t).trans r⟩
