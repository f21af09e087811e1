import Derived.Test.YtbpiopdphigodaaGreatDoorVRes1P
open Array renaming getElem?_eq_some_iff→zz
open List renaming getElem?_append_left→zw,getElem?_eq_some_iff→zv,getElem_mem→zu,flatMap_append→zs,append_assoc→zr
open Nat renaming le_trans→zy,le_refl→zx
namespace Go.Proofs.YtbpiopdphigodaaGreatDoor
set_option maxHeartbeats 8000000
set_option maxRecDepth 100000
open Go.RowKit Go.Shelf Go.WideMaps
attribute [local go_sem] Oper.semAt_some
noncomputable def fG(b:List (aK×Value))(a:Nat)(d:List Nat):List (aK×Int):=sB (aP b a) a++d.flatMap λc=>kT (aP b a) a (aP b c) c
def qX(B:Nat)(b:World)(e:Nat)(a:aK)(c:Option Addr)(d:Nat):Prop:=b.heap[e]?=some (.cells #[.int .i64 a.r,.int .i64 a.a,.int .i64 a.b,.int .i64 a.i,.int .i64 a.j,.slice c a.c.length d] 77 (0,0))/\bN B b (.slice c a.c.length d) a.c
theorem qX.kept{B:Nat}{W a:World}{c:Nat}{f:aK}{b:Option Addr}{d:Nat}(e:qX B W c f b d)(k:cK bO W a):qX B a c f b d:=⟨k.kc _ _ _ e.1 (by decide),k.clause e.2 (by decide) (by decide)⟩
theorem qX.cells{B:Nat}{W:World}{a:Nat}{x:aK}{b:Option Addr}{c:Nat}(d:qX B W a x b c):W.cell? ⟨a,0,none⟩=some (.int .i64 x.r)/\W.cell? ⟨a,1,none⟩=some (.int .i64 x.a)/\W.cell? ⟨a,2,none⟩=some (.int .i64 x.b)/\W.cell? ⟨a,3,none⟩=some (.int .i64 x.i)/\W.cell? ⟨a,4,none⟩=some (.int .i64 x.j)/\W.cell? ⟨a,5,none⟩=some (.slice b x.c.length c):=by refine ⟨?_,?_,?_,?_,?_,?_⟩<;>simp [World.cell?,d.1]
theorem zU{d:List Nat}{k b f:World}{j:Option Nat}(n:∀a∈d,k.heap[a]?=some (.deferred (some [])))(m:b.grownBy f j)(o:∀e,j=some e->k.heap.size<=e/\∃i:Obj,b.heap[e]?=some i/\i.isCells=false)(g:∀a∈d,b.heap[a]?=some (.deferred (some []))):∀a∈d,f.heap[a]?=some (.deferred (some [])):=λa c=>by
 refine (m.block a (zz.1 (g a c)).1 (λl=>?_)).trans (g a c);have p:=(o a l.symm).1;have q:=(zz.1 (n a c)).1;omega
theorem aKa(n T Q R u:Nat)(k6 k5:Value)(b:List (aK×Value))(c:Nat)(g:List Nat)(l8:6<=n)(f7:∀k0∈b,jS k0.1.c)(c8:c<b.length)(g4:∀d∈g,d<b.length)(l9:g.length<=1000000)(l:World)(f4:u<=l.heap.size)(a7:pV u l T Q R k6 k5 b c g):rO Fence.wide n Tryz.prog 100 #[.pointer (some ⟨T,0,none⟩),.pointer (some ⟨Q,0,none⟩),.pointer (some ⟨R,0,none⟩)] (qU u) bO (fG b c g) l:=by
 intro W b8 b9 f6 c7 f9 h0;have f1:=aA f9;have a0:=aA f6;have e9:=aA f7;have i2:=aA g4;clear f9 f6 f7 g4;refine callsIn_of_wp_marks Tryz.func100 rfl trivial ?_ rfl;simp only [Tryz.ntmps100,List.size_toArray,List.length_cons,List.length_nil,Nat.reduceAdd,Nat.reduceSub,Array.replicate_succ,Array.replicate_zero,List.push_toArray,List.append_toArray,List.nil_append,List.cons_append];obtain ⟨X,Y,rfl⟩:=aY a7.st.row;obtain ⟨d2,b7,rfl⟩:=aY a7.ot;have f2:=a7.x1.cell;have f3:=a7.x2.cell;have i5:=λp=>aD ((Below.refl l.heap.size l).alloc (zx _) p) f2
 have i6:=λp=>aD ((Below.refl l.heap.size l).alloc (zx _) p) f3
 have f0:=aA a7;clear a7 f2 f3;gi_wp2
 clear i5 i6;obtain ⟨l5,f8,d9,g7,m0⟩:=aDd l (.func (.yield W) #[] #[]) 147;simp only [f8] at *;have f5:=f0.o.kept (bR (S:=bO) d9);refine ⟨trivial,λ_=>by omega,(callsIn_wide.2 (aXy u _ b c _ f5.st c8)).mono ?_⟩;rintro U P ⟨b0,b1,d3,rfl,g1,M⟩;have C:aB l P:=aZ d9 M;have g8:Boxed P l.heap.size 147 (.func (.yield W) #[] #[]):=(bR (S:=bO) M).boxed g7 (by decide);have c4:=f0.o.kept (bR (S:=bO) C);have c5:=oY a0.o h0 C;clear f8 g7 d9 M h0 f5;gi_wp2
 have g3:jS (aP b c):=by rw [qV c8];exact e9.o _ (zu c8)
 refine vU rfl (by omega) (gf:=119) (lb:=#[.pointer (some ⟨b0,0,none⟩),.pointer (some ⟨b1,0,none⟩)]) rfl trivial (enters_of Tryz.func119 (by kernel_rfl) rfl)
  (Enc:=qU u) (S:=bO) (L:=sB (aP b c) c)
  (λj8 j9=>aXw (n-1) b0 b1 u d3 (aP b c) c (by omega) g3 _ (zy (zy f4 C.size) (by simp;omega)) (g1.kept (bR (((Below.refl _ P).alloc (zx _) _).alloc (by simp) _))))
  (λa d6 l i=>by obtain ⟨m,o,rfl,_⟩:=i;rfl)
  (λe j=>b8 e j/\(pV u j T Q R (.slice X b.length Y) (.slice d2 g.length b7) b c g/\Boxed j l.heap.size 147 (.func (.yield W) #[] #[]))/\P.heap.size<=j.heap.size)
  (λa1 _ j=>a1=.ret/\∃e,b9 e j) ?hI ?hIx ?h0
  (λa z j=>∃A m o,z = {tmps:=#[.func (.yield W) #[] #[],.pointer (some ⟨T,0,none⟩),.pointer (some ⟨Q,0,none⟩),.pointer (some ⟨R,0,none⟩),.pointer (some ⟨l.heap.size,0,none⟩),.pointer (some ⟨A,0,none⟩),.int .i64 a.2,undef,undef,undef,undef,.slice X b.length Y,.int .i64 c,.func (.func 119) #[] #[.pointer (some ⟨b0,0,none⟩),.pointer (some ⟨b1,0,none⟩)],.agg #[.int .i64 a.1.r,.int .i64 a.1.a,.int .i64 a.1.b,.int .i64 a.1.i,.int .i64 a.1.j,.slice m a.1.c.length o],.int .i64 a.2,undef,undef,undef,undef,undef,undef,undef,undef,undef,undef,undef,undef,undef,undef,undef,undef,undef,undef,undef,undef,undef,undef,undef],defers:=[]}/\qX u j A a.1 m o) ?hAx ?assign ?body ?done ?stop
 case hI=>exact (rP a0.o C.size).and ((sC (λ_ _ _ i e=>⟨i.1.kept e,e.boxed i.2 (by decide)⟩)).and (λ_ _ _ _ i t _=>zy i t.size))
 case hIx=>
  rintro a1 k1 p x E ⟨G,e,H⟩ t y;exact ⟨G,e,rP c7 C.size e p x E H t y⟩
 case h0=>exact ⟨c5,⟨c4,g8⟩,zx _⟩
 case hAx=>
  intro a z;refine sC ?_;rintro _ p x ⟨A,m,o,G,H⟩ e;exact ⟨A,m,o,G,H.kept e⟩
 case assign=>
  rintro e5 e a d6 s K O ⟨J,⟨q,v⟩,B⟩ ⟨m,o,rfl,b3⟩ hK;have d4:=aA b3;clear b3;gi_wp2
  have r:aB s (s.alloc (.cells #[.int .i64 a.1.r,.int .i64 a.1.a,.int .i64 a.1.b,.int .i64 a.1.i,.int .i64 a.1.j,.slice m a.1.c.length o] 77)):=(Below.refl _ s).alloc (zx _) _;exact hK _ _ (Mv.of_below (S:=[]) (B:=0) r).keepsFrom (bR r) ⟨oY a0.o J r,⟨q.kept (bR r),(bR (S:=bO) r).boxed v (by decide)⟩,zy B r.size⟩ ⟨s.heap.size,m,o,rfl,World.alloc_heap_new s _,d4.o.below r⟩
 case body=>
  rintro e5 e a z s i9 O ⟨J,⟨q,v⟩,B⟩ ⟨A,m,o,rfl,a3⟩;obtain ⟨k7,k8,k9,l0,l1,l2⟩:=a3.cells;have e7:=v.cell;have d8:=f1.o e a #[.agg #[.int .i64 a.1.r,.int .i64 a.1.a,.int .i64 a.1.b,.int .i64 a.1.i,.int .i64 a.1.j,.slice m a.1.c.length o],.int .i64 a.2] s (by unfold fG;rw [zw (zv.1 O).1];exact O) J ⟨m,o,rfl,a3.2⟩;obtain ⟨i7,k2,assign,body,j7,d7⟩:=d8;have a5:=aA q;have a8:=aA v;have d5:=aA B;clear q v B a3 J;gi_wp2
  refine ⟨λ_=>by omega,(uT d7).mono ?_⟩;rintro U i4 (⟨rfl,hJ4,hk4⟩|⟨rfl,hJx4,hk4⟩)
  ·gi_wp2
   exact ⟨jY hk4.2 C.size,hk4.1,hJ4,⟨a5.o.kept hk4.1,hk4.1.boxed a8.o (by decide)⟩,zy d5.o hk4.1.size⟩
  ·gi_wp2
   exact ⟨jY hk4 C.size,rfl,_,hJx4⟩
 case stop=>
  rintro a1 e a9 ⟨rfl,e4,V⟩ hK;gi_wp2
  exact wX (N:=l.heap.size) (I:=λj=>∃e,b9 e j) rfl (λ_ p x E ⟨e,i⟩ t y=>⟨e,c7 e p x E i t y⟩) (λd3 w i=>⟨⟨_,rfl⟩,.inr i⟩) [P.heap.size] a9 ⟨e4,V⟩ (λf hD=>by simp at hD;subst hD;exact ⟨C.size,hK⟩) (by simp)
 case done=>
  rintro a9 ⟨V,⟨b2,d1⟩,d0⟩ hK;have l4:=b2.x3.cell;gi_wp2
  clear l4;refine wpIn_loop (λz Z=>∃(k:Nat) (D:List Nat) (h7 g9 h1 h2 h3 h4 h5 h6 e6:Value),z = {tmps:=#[.func (.yield W) #[] #[],.pointer (some ⟨T,0,none⟩),.pointer (some ⟨Q,0,none⟩),.pointer (some ⟨R,0,none⟩),.pointer (some ⟨l.heap.size,0,none⟩),undef,undef,undef,h7,undef,undef,.slice X b.length Y,.int .i64 c,.func (.func 119) #[] #[.pointer (some ⟨b0,0,none⟩),.pointer (some ⟨b1,0,none⟩)],undef,undef,undef,undef,undef,undef,undef,.slice d2 g.length b7,.int .i64 g.length,.int .i64 k,g9,h1,h2,h3,h4,h5,h6,undef,undef,undef,undef,undef,undef,undef,e6],defers:=D.map λf=>{target:=.collected f,args:=#[]}}/\k<=g.length/\b8 (sB (aP b c) c++(g.take k).flatMap λd=>kT (aP b c) c (aP b d) d).length Z/\
    (pV u Z T Q R (.slice X b.length Y) (.slice d2 g.length b7) b c g/\Boxed Z l.heap.size 147 (.func (.yield W) #[] #[]))/\P.heap.size<=Z.heap.size/\(∀f∈D,l.heap.size<=f/\Z.heap[f]?=some (.deferred (some [])))/\D.Nodup)
   (λz _=>g.length-(intOf (z.tmps.getD 23 undef)).toNat) ?start ?round
  case start=>exact ⟨0,[P.heap.size],_,_,_,_,_,_,_,_,_,rfl,Nat.zero_le _,by simpa using V,⟨b2,d1⟩,d0,λf hD=>by simp at hD;subst hD;exact ⟨C.size,hK⟩,by simp⟩
  case round=>
   clear V b2 d1 d0 hK c4 c5 g8 g1;rintro _ Z ⟨k,D,h7,g9,h1,h2,h3,h4,h5,h6,e6,rfl,m1,c6,⟨q,v⟩,B,e2,e3⟩;by_cases b4:k<g.length
   ·have j0:(k:Int)<(g.length:Int):=by omega
    obtain ⟨d,c9⟩ : ∃d,g[k]=d:=⟨_,rfl⟩;have e0:d<b.length:=i2.o d (by rw [<-c9];exact zu b4);obtain ⟨F,rfl,j2⟩ : ∃F,d2=some ⟨F,0,none⟩/\Z.cell? ⟨F,k,none⟩=some (.int .i64 d):=by
     obtain ⟨_,⟨_,U⟩|⟨F,l6,l7,U,_⟩⟩:=q.ot
     ·omega
     ·simp at U;refine ⟨F,U.1,?_⟩;have:=q.ot;rw [U.1] at this;rw [this.cellAt k (by simpa using b4)];simp [b4,c9]
    have e7:=q.x1.cell;have l3:=q.x2.cell;have j1:jS (aP b d):=by rw [qV e0];exact e9.o _ (zu e0)
    have g6:(g.take (k+1)).flatMap (λd=>kT (aP b c) c (aP b d) d)=(g.take k).flatMap (λd=>kT (aP b c) c (aP b d) d)++kT (aP b c) c (aP b d) d:=by rw [oZ (List.getElem?_eq_getElem b4),c9,zs];simp
    have g2:∀e a,(kT (aP b c) c (aP b d) d)[e]?=some a->(fG b c g)[(sB (aP b c) c++(g.take k).flatMap λd=>kT (aP b c) c (aP b d) d).length+e]?=some a:=by
     intro e a O;have j3:g.flatMap (λd=>kT (aP b c) c (aP b d) d)=(g.take k).flatMap (λd=>kT (aP b c) c (aP b d) d)++(kT (aP b c) c (aP b d) d++(g.drop (k+1)).flatMap λd=>kT (aP b c) c (aP b d) d):=by
      conv=>lhs;rw [<-List.take_append_drop k g]
      rw [zs,List.drop_eq_getElem_cons b4,c9];simp
     unfold fG;rw [j3,<-zr,List.getElem?_append_right (by omega),Nat.add_sub_cancel_left,zw (zv.1 O).1];exact O
    generalize hbase:(sB (aP b c) c++(g.take k).flatMap λd=>kT (aP b c) c (aP b d) d).length=base at *;have i3:=aA g6;have i0:=aA g2;have h8:=aA hbase;have a5:=aA q;have a8:=aA v;have a6:=aA e2;have i1:=aA c6;clear g6 g2 hbase e2 c6 q v;gi_wp2
    refine ⟨trivial,λ_=>by omega,(callsIn_wide.2 (aXz u _ b c d _ a5.o.st c8 e0)).mono ?_⟩;rintro U a4 ⟨c2,c3,c0,c1,k4,k3,rfl,j4,M⟩;have c4:=a5.o.kept (bR (S:=bO) M);have j6:=(bR (S:=bO) M).boxed a8.o (by decide);have c5:=oY a0.o i1.o M;have b5:∀f∈D,a4.heap[f]?=some (.deferred (some [])):=λf hD=>(M.block f (zz.1 (a6.o f hD).2).1).trans (a6.o f hD).2
    have g5:P.heap.size<=a4.heap.size:=zy B M.size;have a2:l.heap.size<=a4.heap.size:=zy C.size g5;clear e7 l3 j2;gi_wp2
    refine vU rfl (by omega) (gf:=121) (lb:=#[.pointer (some ⟨c2,0,none⟩),.pointer (some ⟨c3,0,none⟩),.pointer (some ⟨c0,0,none⟩),.pointer (some ⟨c1,0,none⟩)]) rfl trivial (enters_of Tryz.func121 (by kernel_rfl) rfl)
     (Enc:=qU u) (S:=bO) (L:=kT (aP b c) c (aP b d) d)
     (λj8 j9=>aXx (n-1) c2 c3 c0 c1 u k4 k3 (aP b c) (aP b d) c d (by omega) g3 j1 _ (zy (zy f4 a2) (by simp;omega)) (j4.kept (bR (((Below.refl _ a4).alloc (zx _) _).alloc (by simp) _))))
     (λa d6 l i=>by obtain ⟨m,o,rfl,_⟩:=i;rfl)
     (λe j=>b8 (base+e) j/\(pV u j T Q R (.slice X b.length Y) (.slice (some ⟨F,0,none⟩) g.length b7) b c g/\Boxed j l.heap.size 147 (.func (.yield W) #[] #[]))/\(a4.heap.size<=j.heap.size/\∀f∈D,j.heap[f]?=some (.deferred (some []))))
     (λa1 _ j=>a1=.ret/\(∃e,b9 e j)/\∀f∈D,j.heap[f]?=some (.deferred (some []))) ?hI2 ?hIx2 ?h02
     (λa z j=>∃A m o,z = {tmps:=#[.func (.yield W) #[] #[],.pointer (some ⟨T,0,none⟩),.pointer (some ⟨Q,0,none⟩),.pointer (some ⟨R,0,none⟩),.pointer (some ⟨l.heap.size,0,none⟩),undef,undef,undef,.int .i64 d,.pointer (some ⟨A,0,none⟩),.int .i64 a.2,.slice X b.length Y,.int .i64 c,.func (.func 119) #[] #[.pointer (some ⟨b0,0,none⟩),.pointer (some ⟨b1,0,none⟩)],undef,undef,undef,undef,undef,undef,undef,.slice (some ⟨F,0,none⟩) g.length b7,.int .i64 g.length,.int .i64 k,.bool true,.pointer (some ⟨F,k,none⟩),.int .i64 d,.slice X b.length Y,.int .i64 c,.int .i64 d,.func (.func 121) #[] #[.pointer (some ⟨c2,0,none⟩),.pointer (some ⟨c3,0,none⟩),.pointer (some ⟨c0,0,none⟩),.pointer (some ⟨c1,0,none⟩)],.agg #[.int .i64 a.1.r,.int .i64 a.1.a,.int .i64 a.1.b,.int .i64 a.1.i,.int .i64 a.1.j,.slice m a.1.c.length o],.int .i64 a.2,undef,undef,undef,undef,undef,e6],defers:=[]}/\qX u j A a.1 m o) ?hAx2 ?assign2 ?body2 ?done2 ?stop2
    case hI2=>
     refine (aDf a0.o a2 _).and ((sC (λ_ _ _ i e=>⟨i.1.kept e,e.boxed i.2 (by decide)⟩)).and ?_);rintro _ p x E ⟨G,H⟩ t y;exact ⟨zy G t.size,zU b5 t y H⟩
    case hIx2=>
     rintro a1 k1 p x E ⟨G,⟨e,H⟩,i8⟩ t y;exact ⟨G,⟨e,rP c7 a2 e p x E H t y⟩,zU b5 t y i8⟩
    case h02=>exact ⟨c5,⟨c4,j6⟩,zx _,b5⟩
    case hAx2=>
     intro a z;refine sC ?_;rintro _ p x ⟨A,m,o,G,H⟩ e;exact ⟨A,m,o,G,H.kept e⟩
    case assign2=>
     rintro e5 e a d6 s K O ⟨J,⟨q,v⟩,B,b6⟩ ⟨m,o,rfl,b3⟩ hK;have d4:=aA b3;clear b3;gi_wp2
     have r:aB s (s.alloc (.cells #[.int .i64 a.1.r,.int .i64 a.1.a,.int .i64 a.1.b,.int .i64 a.1.i,.int .i64 a.1.j,.slice m a.1.c.length o] 77)):=(Below.refl _ s).alloc (zx _) _;exact hK _ _ (Mv.of_below (S:=[]) (B:=0) r).keepsFrom (bR r) ⟨oY a0.o J r,⟨q.kept (bR r),(bR (S:=bO) r).boxed v (by decide)⟩,zy B r.size,λf hD=>(r.block f (zz.1 (b6 f hD)).1).trans (b6 f hD)⟩ ⟨s.heap.size,m,o,rfl,World.alloc_heap_new s _,d4.o.below r⟩
    case body2=>
     rintro e5 e a z s i9 O ⟨J,⟨q,v⟩,B,b6⟩ ⟨A,m,o,rfl,a3⟩;obtain ⟨k7,k8,k9,l0,l1,l2⟩:=a3.cells;have e7:=v.cell;have d8:=f1.o (base+e) a #[.agg #[.int .i64 a.1.r,.int .i64 a.1.a,.int .i64 a.1.b,.int .i64 a.1.i,.int .i64 a.1.j,.slice m a.1.c.length o],.int .i64 a.2] s (i0.o e a O) J ⟨m,o,rfl,a3.2⟩;obtain ⟨i7,k2,assign,body,j7,d7⟩:=d8;have a5:=aA q;have a8:=aA v;have d5:=aA B;have e8:=aA b6;clear q v B a3 J b6;gi_wp2
     refine ⟨λ_=>by omega,(uT d7).mono ?_⟩;rintro U i4 (⟨rfl,hJ4,hk4⟩|⟨rfl,hJx4,hk4⟩)
     ·gi_wp2
      exact ⟨jY hk4.2 a2,hk4.1,hJ4,⟨a5.o.kept hk4.1,hk4.1.boxed a8.o (by decide)⟩,zy d5.o hk4.1.size,λf hD=>hk4.2.same f _ (a6.o f hD).1 (e8.o f hD) rfl⟩
     ·gi_wp2
      exact ⟨jY hk4 a2,rfl,⟨_,hJx4⟩,λf hD=>hk4.same f _ (a6.o f hD).1 (e8.o f hD) rfl⟩
    case stop2=>
     rintro a1 e a9 ⟨rfl,⟨e4,V⟩,e1⟩ hK;gi_wp2
     refine wX (N:=l.heap.size) (I:=λj=>∃e,b9 e j) rfl (λ_ p x E ⟨e,i⟩ t y=>⟨e,c7 e p x E i t y⟩) (λd3 w i=>⟨⟨_,rfl⟩,.inr i⟩) (a4.heap.size::D) a9 ⟨e4,V⟩ (λf hD=>?_) (List.nodup_cons.2 ⟨λi=>?_,e3⟩)
     ·rcases List.mem_cons.1 hD with rfl|hD
      ·exact ⟨a2,hK⟩
      ·exact ⟨(a6.o f hD).1,e1 f hD⟩
     ·have:=(zz.1 (b5 _ i)).1;omega
    case done2=>
     rintro a9 ⟨V,⟨b2,d1⟩,d0,e1⟩ hK;have g0:(k:Int)+1=((k+1:Nat):Int):=rfl;have h9:=aA g0;clear g0;gi_wp2
     rw [h9.o];refine ⟨⟨k+1,a4.heap.size::D,.int .i64 d,.bool true,.pointer (some ⟨F,k,none⟩),.int .i64 d,.slice X b.length Y,.int .i64 c,.int .i64 d,.func (.func 121) #[] #[.pointer (some ⟨c2,0,none⟩),.pointer (some ⟨c3,0,none⟩),.pointer (some ⟨c0,0,none⟩),.pointer (some ⟨c1,0,none⟩)],.int .i64 ((k+1:Nat):Int),rfl,by omega,?_,⟨b2,d1⟩,zy g5 d0,λf hD=>?_,List.nodup_cons.2 ⟨λi=>?_,e3⟩⟩,?_⟩
     ·rw [i3.o,<-zr,List.length_append,h8.o];exact V
     ·rcases List.mem_cons.1 hD with rfl|hD
      ·exact ⟨a2,hK⟩
      ·exact ⟨(a6.o f hD).1,e1 f hD⟩
     ·have:=(zz.1 (b5 _ i)).1;omega
     ·simp [intOf];omega
   ·have j0:¬(k:Int)<(g.length:Int):=by omega
    have j5:k=g.length:=by omega
    gi_wp2
    refine wX (N:=l.heap.size) (I:=λj=>b8 (fG b c g).length j) rfl (λ_ p x E i t y=>a0.o _ p x E i t y) (λd3 w i=>⟨⟨_,rfl⟩,.inl i⟩) D Z ?_ e2 e3;rw [j5,List.take_length] at c6;exact c6
