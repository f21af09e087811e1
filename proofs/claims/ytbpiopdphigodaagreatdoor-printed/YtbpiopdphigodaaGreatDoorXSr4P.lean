import Derived.Test.YtbpiopdphigodaaGreatDoorXSr2P
import Derived.Test.YtbpiopdphigodaaGreatDoorXOrdP
import Derived.Deep.Cut
open Array renaming getElem?_eq_some_iff→zz,getElem?_eq_getElem→zq,getElem_modify_self→zp,size_modify→zl
open Bool renaming noConfusion→zu
open List renaming setIfInBounds_toArray→zy,set_cons_zero→zx,set_cons_succ→zw,length_append→zm,map_append→zi,length_filter_le→zg
open Nat renaming le_refl→zv,le_trans→zs
open Or renaming inl→zn
namespace Go.Proofs.YtbpiopdphigodaaGreatDoor
open Act renaming put→zr
open CallsIn renaming inRound→zh
open _root_.Go.Proofs.Tryz renaming underlying32→zk,underlying33→zj,prog→zf
open Value renaming slice→zo,int→ze
open World renaming alloc_heap_new→zt,cell?→zd
open Go.RowKit Go.Shelf Go.WideMaps
set_option maxHeartbeats 8000000
set_option maxRecDepth 100000
set_option linter.unusedSimpArgs false
variable{big:Bool}{T:List (aK×Value)}{L:List Cd}{ks:List Nat}{B cl cp hp n r sb:Nat}{ad:Option Addr}{v vk vs:Value}{W W' w w0:World}{s:aK}
attribute [local go_sem] Oper.semAt_some
structure oB(c:List Lt):Prop where
 len:c.length<=100
 nodes:∀x∈c,x.2.length<=100000/\∀k (h:k<x.2.length),x.2[k].1.size<=80
theorem bN.wide{a:List Lt}(l:bN B w (.slice ad n cp) a)(d:oB a):bP w ad a:=by
 obtain ⟨i,c,g,u,A⟩:=l;have p:n=a.length:=by obtain ⟨x,y,b⟩:=aY g;simp at b;rw [b.2.1,<-c];simp
 subst p;refine aBo (P:=i) g c (λf e=>?_) (by have:=d.len;omega);obtain ⟨z,m⟩:=d.nodes f.1 (by rw [<-c];simp;exact ⟨_,e⟩);obtain ⟨j,k,b,q⟩:=tR (u f e) (by omega) (λt o=>by have:=m t o;omega);exact ⟨j,k,b,q⟩
structure mZ(sb hp n:Nat)(vs vk:Value)(big:Bool)(r:Nat)(s:aK)(ad:Option Addr)(cl cp:Nat)(W:World):Prop where
 sr:W.heap[sb]?=some (.cells #[.pointer (some ⟨hp,0,none⟩),.int .i64 n,vs,vk,.bool big] 99 (0,0))
 st:W.heap[r+1]?=some (.cells #[.int .i64 s.r,.int .i64 s.a,.int .i64 s.b,.int .i64 s.i,.int .i64 s.j,.slice ad cl cp] 77 (0,0))
def kX(sb r:Nat)(W:World):Prop:=Boxed W r 72 (.pointer (some ⟨sb,0,none⟩))
theorem mZ.cells(a:mZ sb hp n vs vk big r s ad cl cp W):W.cell? ⟨sb,2,none⟩=some vs/\W.cell? ⟨sb,3,none⟩=some vk/\W.cell? ⟨r+1,0,none⟩=some (.int .i64 s.r)/\W.cell? ⟨r+1,1,none⟩=some (.int .i64 s.a)/\W.cell? ⟨r+1,2,none⟩=some (.int .i64 s.b)/\W.cell? ⟨r+1,3,none⟩=some (.int .i64 s.i)/\W.cell? ⟨r+1,4,none⟩=some (.int .i64 s.j)/\W.cell? ⟨r+1,5,none⟩=some (.slice ad cl cp):=by obtain ⟨b,c⟩:=a;refine ⟨?_,?_,?_,?_,?_,?_,?_,?_⟩<;>simp [zd,b,c]
theorem mZ.grown{c:Option Nat}(a:mZ sb hp n vs vk big r s ad cl cp W)(d:W.grownBy W' c)(e:c≠some sb)(f:c≠some (r+1)):mZ sb hp n vs vk big r s ad cl cp W':=
 ⟨(d.block _ (zz.1 a.sr).1 (λb=>e b.symm)).trans a.sr,(d.block _ (zz.1 a.st).1 (λb=>f b.symm)).trans a.st⟩
theorem mZ.below(a:mZ sb hp n vs vk big r s ad cl cp W)(b:aB W W'):mZ sb hp n vs vk big r s ad cl cp W':=
 ⟨(b.block _ (zz.1 a.sr).1).trans a.sr,(b.block _ (zz.1 a.st).1).trans a.st⟩
theorem kX.below(a:kX sb r W)(b:aB W W'):kX sb r W':=(b.block _ (zz.1 a).1).trans a
theorem kX.grown{b:Option Nat}(a:kX sb r W)(e:W.grownBy W' b)(d:b≠some r):kX sb r W':=(e.block _ (zz.1 a).1 (λc=>d c.symm)).trans a
theorem aA4:(zf.info? 77).map (λa=>(a.zero,a.size,a.bytes))=some (some (.agg #[.int .i64 0,.int .i64 0,.int .i64 0,.int .i64 0,.int .i64 0,.slice none 0 0]),6,64):=by kernel_rfl
theorem aE0:(zf.info? 3).map (λa=>(a.zero,a.size,a.bytes))=some (some (.int .i64 0),1,8):=by kernel_rfl
theorem uW{b:Nat}{c:Array Value}{T:TypeId}(i:w.heap[b]?=some (.cells c T (0,0)))(a:Nat)(f:Value)(e:c.toList[a]?=some f):w.cell? ((⟨b,0,none⟩ : Addr).add a)=some f:=by
 simp only [Array.getElem?_toList] at e;have g:(⟨b,0,none⟩ : Addr).add a=⟨b,a,none⟩:=by
  unfold Addr.add;by_cases d:a=0
  ·simp [d]
  ·simp [d]
 rw [g];unfold zd;rw [i];exact e
structure pW(B:Nat)(wc:World)(sb hp n:Nat)(vs vk:Value)(big:Bool)(r:Nat)(s:aK)(ad:Option Addr)(cl cp:Nat)(ks:List Nat)(x:Value)(m:Nat)(xs:List Value)(W:World):Prop where
 held:mZ sb hp n vs vk big r s ad cl cp W
 bx:kX sb r W
 rk:dQ B W vk ks
 rs:W.ownsRow B 77 6 x m xs
 mv:Mv [3,77] B wc W
 nb:vs.ownBlock≠some (r+1)
 base:B<=W.heap.size
section
variable {B:Nat}{wc:World}{sb hp n:Nat}{vs vk:Value}{big:Bool}{r:Nat}{s:aK}{ad:Option Addr}{cl cp:Nat}{ks:List Nat}{x:Value}{m:Nat}{xs:List Value}{W W':World}
theorem pW.below(a:pW B wc sb hp n vs vk big r s ad cl cp ks x m xs W)(b:aB W W'):pW B wc sb hp n vs vk big r s ad cl cp ks x m xs W':=
 ⟨a.held.below b,a.bx.below b,bF a.rk b (zv _),bF a.rs b (zv _),a.mv.trans (Mv.of_below b),a.nb,zs a.base b.size⟩
theorem aE1{b:List TypeId}{a:Nat}{c:TypeId}{p:Nat}{e:Nat}{o:List Value}(l:W.ownsRow a c p v e o)(j:W.grownBy W' v.ownBlock)(i:c∈b):Mv b a W W':=Mv.of_grown j (λe d=>by
 obtain ⟨_,⟨rfl,_⟩|⟨t,q,f,rfl,g,k,_⟩⟩:=l
 ·cases d
 ·cases d;exact ⟨g,f,_,k,i⟩)
theorem pW.app{e:Value}{d:Nat}{f:List Value}(a:pW B wc sb hp n vs vk big r s ad cl cp ks vs m xs W)(g:W'.ownsRow B 77 6 e d f)(b:W.grownBy W' vs.ownBlock):pW B wc sb hp n vs vk big r s ad cl cp ks e d f W':=
 have c:Mv [77] B W W':=aE1 a.rs b (by simp);⟨a.held.grown b (dZ a.rs a.held.sr (by decide)) a.nb,a.bx.grown b (dZ a.rs a.bx (by decide)),c.row a.rk (by decide),g,a.mv.trans (c.mono (by decide) (zv _)),a.nb,zs a.base b.size⟩
theorem pW.fin(a:pW B wc sb hp n vs vk big r s ad cl cp ks x m xs W)(b:W.grownBy W' vk.ownBlock):mZ sb hp n vs vk big r s ad cl cp W'/\kX sb r W'/\W'.ownsRow B 77 6 x m xs/\Mv [3,77] B wc W':=
 have c:Mv [3] B W W':=aE1 a.rk b (by simp);⟨a.held.grown b (dZ a.rk a.held.sr (by decide)) (dZ a.rk a.held.st (by decide)),a.bx.grown b (dZ a.rk a.bx (by decide)),c.row a.rs (by decide),a.mv.trans (c.mono (by decide) (zv _))⟩
end
theorem aA5(p:aK×Value)(c:p.2.oneCell'=true):∀b∈gF p,b.oneCell'=true:=by intro b a;simp [gF] at a;rcases a with rfl|rfl|rfl|rfl|rfl|rfl;all_goals first|rfl|exact c
theorem aE2(c:Int):∀b∈[ze .i64 c],b.oneCell'=true:=by intro b a;simp at a;subst a;rfl
theorem mZ.set2(c:mZ sb hp n vs vk big r s ad cl cp W)(i:kX sb r W)(g:r≠sb)(a:Value):W.cell? ⟨sb,2,none⟩=some vs/\W.frozen? ⟨sb,2,none⟩=false/\(W.setCell ⟨sb,2,none⟩ a).cell? ⟨sb,3,none⟩=some vk/\(W.setCell ⟨sb,2,none⟩ a).frozen? ⟨sb,3,none⟩=false/\kX sb r (W.setCell ⟨sb,2,none⟩ a)/\∀d,kX sb r ((W.setCell ⟨sb,2,none⟩ a).setCell ⟨sb,3,none⟩ d):=by
 have j:=(zz.1 c.sr).1;have f:(W.setCell ⟨sb,2,none⟩ a).heap[sb]?=some (.cells #[.pointer (some ⟨hp,0,none⟩),.int .i64 (n:Nat),a,vk,.bool big] 99 (0,0)):=by show (W.heap.modify sb _)[sb]?=_;rw [zq (by rw [zl];exact j),zp,(zz.1 c.sr).2];rfl
 have e:=i.grown (cJ W ⟨sb,2,none⟩ a) (λb=>by simp at b;exact g b.symm);exact ⟨c.cells.1,by simp [World.frozen?,c.sr],by simp [zd,f],by simp [World.frozen?,f],e,λd=>e.grown (cJ _ ⟨sb,3,none⟩ d) (λb=>by simp at b;exact g b.symm)⟩
theorem bI.two{a:World}{b e:Value}{ks':List Nat}{p:aK×Value}(c:bI B w sb hp v vs vk L n T ks big)(k:Mv [3,77] B w a)(x:bN B w p.2 p.1.c)(y:a.ownsRow B 77 6 b (T.length+1) (gQ T++gF p))(f:dQ B a e ks'):bI B ((a.setCell ⟨sb,2,none⟩ b).setCell ⟨sb,3,none⟩ e) sb hp v b e L n (T++[p]) ks' big/\Mv [3,99,77] B w ((a.setCell ⟨sb,2,none⟩ b).setCell ⟨sb,3,none⟩ e):=by
 have g:=k.cells c.box (by decide);have o:=(zz.1 g).1;have i:(a.setCell ⟨sb,2,none⟩ b).heap[sb]?=some (.cells #[.pointer (some ⟨hp,0,none⟩),.int .i64 (n:Nat),b,vk,.bool big] 99 (0,0)):=by show (a.heap.modify sb _)[sb]?=_;rw [zq (by rw [zl];exact o),zp,(zz.1 g).2];rfl
 have q:=(zz.1 i).1;have t:Mv [99] B a (a.setCell ⟨sb,2,none⟩ b):=Mv.of_grown (cJ a ⟨sb,2,none⟩ _) (λz f=>by cases f;exact ⟨c.base,_,_,g,by simp⟩);have u:Mv [99] B (a.setCell ⟨sb,2,none⟩ b) ((a.setCell ⟨sb,2,none⟩ b).setCell ⟨sb,3,none⟩ e):=Mv.of_grown (cJ _ ⟨sb,3,none⟩ _) (λz f=>by cases f;exact ⟨c.base,_,_,i,by simp⟩);have j:=t.trans u;have d:Mv [3,99,77] B w ((a.setCell ⟨sb,2,none⟩ b).setCell ⟨sb,3,none⟩ e):=(k.mono (by decide) (zv _)).trans (j.mono (by decide) (zv _));refine ⟨⟨?_,⟨d.cells c.heap.box (by decide),d.row c.heap.row (by decide),c.heap.base⟩,⟨?_,λA hq=>?_⟩,j.row f (by decide),λm l=>⟨d.clause (c.cl m l).1 (by decide) (by decide),(c.cl m l).2⟩,c.base⟩,d⟩
 ·show ((a.setCell ⟨sb,2,none⟩ b).heap.modify sb _)[sb]?=_;rw [zq (by rw [zl];exact q),zp,(zz.1 i).2];rfl
 ·have:=j.row y (by decide);simpa [gQ] using this
 ·rcases List.mem_append.1 hq with hq|hq
  ·exact d.clause (c.st.cl A hq) (by decide) (by decide)
  ·simp at hq;subst hq;exact d.clause x (by decide) (by decide)
def oC:List TypeId:=[99,120,96,77,3]
noncomputable def dI(T:List (aK×Value))(ks:List Nat)(a:List Lt):List Nat:=(ks.filter λb=>!cH a (aP T b))++[T.length]
theorem bI.kps(a:bI B W sb hp v vs vk L n T ks big)(b:cK [] W W'):bI B W' sb hp v vs vk L n T ks big:=
 ⟨b.kc _ _ _ a.box (by simp),⟨b.kc _ _ _ a.heap.box (by simp),b.row a.heap.row (by simp),a.heap.base⟩,a.st.kept b (by simp) (by simp) (by simp),b.row a.kp (by simp),λd c=>⟨b.clause (a.cl d c).1 (by simp) (by simp),(a.cl d c).2⟩,a.base⟩
theorem aLb{m:Type}{g:List TypeId}{d:Nat}(q:w0.heap.size<=d):OwnFrom d (λ(_:m) W=>Mv g B w0 W):=λ_ o p t a b k=>
 ⟨b.os.trans a.os,b.tape.trans a.tape,b.output.trans a.output,zs a.size b.size,λc l f j=>by
  have e:=a.keep c l f j;refine (b.block c (zz.1 e).1 (λi=>?_)).trans e;have:=(k c i.symm).1;have:=(zz.1 f).1;omega⟩
def nB(B sb hp r:Nat)(vs vk:Value)(T:List (aK×Value))(ks:List Nat)(d:List (aK×Int))(L:List Cd)(n:Nat)(big:Bool)(w0:World)(e:Nat)(W:World):Prop:=
 (∃f a c b,bI B W sb hp f vs vk a c T ks b/\bX (d.take e) L n big a c b)/\kX sb r W/\Mv oC B w0 W
theorem nB.own{f:List (aK×Int)}{N:Nat}(q:w0.heap.size<=N):OwnFrom N (nB B sb hp r vs vk T ks f L n big w0):=λy a b u k c e=>by
 obtain ⟨⟨x,g,t,i,l,m⟩,o,p⟩:=k;have d:cK [] a b:=cK.grown c (λr j=>(e r j).2);exact ⟨⟨x,g,t,i,l.kps d,m⟩,d.kc _ _ _ o (by simp),aLb q () a b u p c e⟩
theorem nB.next{a:List (aK×Int)}{e b:List Cd}{i d:Nat}{f c:Bool}{k:Nat}{x:aK×Int}{v':Value}(q:a[k]?=some x)(j:bX (a.take k) L n big e i f)(l:bX [x] e i f b d c)(o:kX sb r W)(p:Mv oC B w0 W)(m:bI B W' sb hp v' vs vk b d T ks c)(g:Mv bO B W W'):nB B sb hp r vs vk T ks a L n big w0 (k+1) W':=by refine ⟨⟨v',b,d,c,m,?_⟩,g.boxed o (by decide),p.trans (g.mono (by decide) (zv _))⟩;rw [oZ q];exact j.snoc _ l
theorem aZc(B sb hp:Nat)(v vs vk:Value)(L:List Cd)(n:Nat)(T:List (aK×Value))(ks:List Nat)(big:Bool)(s:aK)(ad:Option Addr)(cp:Nat)(w:World)(c:bI B w sb hp v vs vk L n T ks big)(f9:bN B w (.slice ad s.c.length cp) s.c)(n3:bK s.c=true)(n2:∀e2∈T,bK e2.1.c=true)(m0:∀b∈ks,lM s.c (aP T b))(i1:∀b∈ks,b<T.length)(s3:ks.length<=1000)(r9:T.length<=1000)(h7:B<=w.heap.size)
  (z:List (aK×Int)) (l0:z=fG (T++[(s,.slice ad s.c.length cp)]) T.length (dI T ks s.c)) (k9:∀l∈z,oB l.1.c/\(l.2=0->cZ l.1.c=true->bK l.1.c=true)) (r8:L.length+z.length<=1000000) (s7:n+z.length<=1000000):Calls zf 45 #[.pointer (some ⟨sb,0,none⟩),pC s ad cp] w λg b9=>(∃e7,g=.returned e7)/\∃c9 g5 g4 b6 b8 a8,bI B b9 sb hp c9 g5 g4 b6 b8 (T++[(s,.slice ad s.c.length cp)]) (dI T ks s.c) a8/\bX z L n big b6 b8 a8/\Mv oC B w b9:=by
 obtain ⟨s8,s9,rfl⟩:=c.kp.shape;obtain ⟨a5,r1,f6,c0,d0⟩ : ∃a5,(w.alloc (.cells #[.pointer (some ⟨sb,0,none⟩)] 72)).alloc (.cells #[.int .i64 s.r,.int .i64 s.a,.int .i64 s.b,.int .i64 s.i,.int .i64 s.j,.slice ad s.c.length cp] 77)=a5/\aB w a5/\Boxed a5 w.heap.size 72 (.pointer (some ⟨sb,0,none⟩))/\a5.heap[w.heap.size+1]?=some (.cells #[.int .i64 s.r,.int .i64 s.a,.int .i64 s.b,.int .i64 s.i,.int .i64 s.j,.slice ad s.c.length cp] 77 (0,0)):=by refine ⟨_,rfl,((Below.refl _ w).alloc (zv _) _).alloc (by simp) _,(Below.heap_alloc _ _ _ (by simp)).trans (zt w _),?_⟩;have:=zt (w.alloc (.cells #[.pointer (some ⟨sb,0,none⟩)] 72)) (.cells #[.int .i64 s.r,.int .i64 s.a,.int .i64 s.b,.int .i64 s.i,.int .i64 s.j,.slice ad s.c.length cp] 77);rwa [World.size_alloc] at this
 have D:=c.below f6;have i0:=f9.below f6;obtain ⟨_,_,_,k5,_⟩:=D.cells;have t6:=c0.cell;have i5:=aA (λ(k:World) (a0:∃p,k=a5.drewN p)=>(aZb B sb hp v vs _ L n T ks big (w.heap.size+1) w.heap.size s ad cp k (by obtain ⟨p,rfl⟩:=a0;exact D.below (aQ ⟨p,rfl⟩)) (by obtain ⟨p,rfl⟩:=a0;exact d0) (by obtain ⟨p,rfl⟩:=a0;exact c0) (by obtain ⟨p,rfl⟩:=a0;exact i0.below (aQ ⟨p,rfl⟩)) m0 i1 (by omega)).mono (R':=λg f=>∃G J H,g=.returned (.slice G J H)/\dQ B f (.slice G J H) (ks.filter λb=>!cH s.c (aP T b))/\Mv [3] B a5 f) (λg f b0=>by
  obtain ⟨p,rfl⟩:=a0;obtain ⟨G,J,H,Q,f5,h6⟩:=b0;exact ⟨G,J,H,Q,f5,(Mv.of_below (aQ ⟨p,rfl⟩)).trans h6⟩))
 have i4:w.heap.size≠sb:=λg=>by have:=(zz.1 c.box).1;omega
 have j4:=aA c;have i7:=aA D;have g6:=aA i0;have c2:=aA c0;have k0:=aA d0;have i8:=aA f6;have p0:=aA k9;have j3:=aA l0;have p4:=aA n2;have p3:=aA n3;have p6:=aA i1;clear c D f9 i0 c0 d0 f6 k9 l0 n2 n3 i1 m0;unfold pC;refine (callsIn_wide (n:=8)).1 ?_;refine callsIn_of_wp_marks Tryz.func45 rfl trivial ?_;simp only [Tryz.ntmps45,List.size_toArray,List.length_cons,List.length_nil,Nat.reduceAdd,Nat.reduceSub,Array.replicate_succ,Array.replicate_zero,List.push_toArray,List.append_toArray,List.nil_append,List.cons_append];refine wpIn_wide.2 ?_;go_wp2;clear r1;have s6:zf.follows .mixedOrders=true:=by kernel_rfl
 go_cut [] from 7 (λk=>∃G J H,bI B k sb hp v vs (.slice G J H) L n T (ks.filter λb=>!cH s.c (aP T b)) big/\Mv [3,99] B a5 k)
 case first=>
  refine rV ?_;go_region_law (refine zF (by rfl) 75 _ _ (by rfl) (enters_of Tryz.func75 (by kernel_rfl) rfl) _ (by rfl) (aC i5 _ ⟨1,rfl⟩) ?_;rintro g f ⟨G,J,H,rfl,q,i2⟩;refine ⟨_,rfl,?_⟩;obtain ⟨R,c5,q4,r6⟩:=i7.o.rekept i2 q;have n5:=(i2.boxed c2.o (by decide)).cell;have f4:=aA R;have j:=aA c5;clear q i2 R c5);all_goals
   refine pP ?_;go_wp2_with fail;go_meet;case rel=>exact ⟨_,_,_,f4.o,j.o⟩
 case rest=>
  obtain ⟨G,J,H,a9,h8⟩:=hcut;obtain ⟨e8,e9,rfl⟩:=aY a9.st.row;have n5:=(h8.boxed c2.o (by decide)).cell;obtain ⟨_,_,k6,_,_⟩:=a9.cells;have a6:=aA a9;have C:=aA h8;have j7:=aA (show (zo e8 T.length e9).ownBlock≠some (w.heap.size+1) from by
   obtain ⟨_,⟨g,_⟩|⟨r7,r4,r5,g,u,q9,_⟩⟩:=j4.o.st.row
   ·rw [g];simp [Value.ownBlock]
   ·rw [g];have:=(zz.1 q9).1;simp [Value.ownBlock];omega)
  clear a9 h8 i5 i7 j4;go_upto_region 3 with (fail);go_cut [] from 7 (λk=>∃g5 g4,bI B k sb hp v g5 g4 L n (T++[(s,.slice ad s.c.length cp)]) (dI T ks s.c) big/\Mv [3,99,77] B a5 k)
  case first=>
   refine rV ?_;refine aZ5 18 (mZ sb hp n (.slice e8 T.length e9) (.slice G J H) big w.heap.size s ad s.c.length cp) (kX sb w.heap.size) (by kernel_rfl) ⟨a6.o.box,C.o.cells k0.o (by decide)⟩ (C.o.boxed c2.o (by decide)) (λe=>?_);refine rB (i:=0) (d:=some 21) (v:=.pointer (some ⟨sb,0,none⟩)) rfl rfl (by kernel_rfl) (by kernel_rfl) (by kernel_rfl) (by kernel_rfl) (λ_ _ _ c=>c) (zn ⟨by rfl,λk a=>by have r:=Boxed.cell a;go_simp⟩) e (λe=>?_);simp only [zr,zy,zx,zw];refine rB (i:=1) (d:=some 22) (v:=.pointer (some ⟨sb,0,none⟩)) rfl rfl (by kernel_rfl) (by kernel_rfl) (by kernel_rfl) (by kernel_rfl) (λ_ _ _ c=>c) (zn ⟨by rfl,λk a=>by have r:=Boxed.cell a;go_simp⟩) e (λe=>?_);simp only [zr,zy,zx,zw];refine rB (i:=2) (d:=some 23) (v:=.pointer (some ⟨sb,0,none⟩)) rfl rfl (by kernel_rfl) (by kernel_rfl) (by kernel_rfl) (by kernel_rfl) (λ_ _ _ c=>c) (zn ⟨by rfl,λk a=>by have r:=Boxed.cell a;go_simp⟩) e (λe=>?_);simp only [zr,zy,zx,zw];refine rB (i:=3) (d:=some 24) (v:=.pointer (some ⟨sb,0,none⟩)) rfl rfl (by kernel_rfl) (by kernel_rfl) (by kernel_rfl) (by kernel_rfl) (λ_ _ _ c=>c) (zn ⟨by rfl,λk a=>by go_simp⟩) e (λe=>?_);simp only [zr,zy,zx,zw];refine rB (i:=4) (d:=some 25) (v:=.pointer (some ⟨sb,2,none⟩)) rfl rfl (by kernel_rfl) (by kernel_rfl) (by kernel_rfl) (by kernel_rfl) (λ_ _ _ c=>c) (zn ⟨by rfl,λk a=>by go_simp⟩) e (λe=>?_);simp only [zr,zy,zx,zw];refine aDw (i:=5) (d:=some 26) (v:=.slice e8 T.length e9) rfl rfl (by kernel_rfl) (by kernel_rfl) (by kernel_rfl) (by kernel_rfl) (λ_ _ _ c=>c) (zn ⟨by rfl,λk a=>by obtain ⟨n9,o0,o1,o2,o3,o4,o5,o6⟩:=a.1.cells;go_simp⟩) e (λe=>?_);simp only [zr,zy,zx,zw];refine aDw (i:=6) (d:=some 27) (v:=.agg #[.int .i64 s.r,.int .i64 s.a,.int .i64 s.b,.int .i64 s.i,.int .i64 s.j,.slice ad s.c.length cp]) rfl rfl (by kernel_rfl) (by kernel_rfl) (by kernel_rfl) (by kernel_rfl) (λ_ _ _ c=>c) (zn ⟨by rfl,λk a=>by obtain ⟨n9,o0,o1,o2,o3,o4,o5,o6⟩:=a.1.cells;go_simp⟩) e (λe=>?_);simp only [zr,zy,zx,zw];refine rB (i:=9) (d:=some 30) (v:=.pointer (some ⟨sb,0,none⟩)) rfl rfl (by kernel_rfl) (by kernel_rfl) (by kernel_rfl) (by kernel_rfl) (λ_ _ _ c=>c) (zn ⟨by rfl,λk a=>by have r:=Boxed.cell a;go_simp⟩) e (λe=>?_);simp only [zr,zy,zx,zw];refine rB (i:=10) (d:=some 31) (v:=.pointer (some ⟨sb,0,none⟩)) rfl rfl (by kernel_rfl) (by kernel_rfl) (by kernel_rfl) (by kernel_rfl) (λ_ _ _ c=>c) (zn ⟨by rfl,λk a=>by go_simp⟩) e (λe=>?_);simp only [zr,zy,zx,zw];refine rB (i:=11) (d:=some 32) (v:=.pointer (some ⟨sb,3,none⟩)) rfl rfl (by kernel_rfl) (by kernel_rfl) (by kernel_rfl) (by kernel_rfl) (λ_ _ _ c=>c) (zn ⟨by rfl,λk a=>by go_simp⟩) e (λe=>?_);simp only [zr,zy,zx,zw];refine aDw (i:=12) (d:=some 33) (v:=.slice G J H) rfl rfl (by kernel_rfl) (by kernel_rfl) (by kernel_rfl) (by kernel_rfl) (λ_ _ _ c=>c) (zn ⟨by rfl,λk a=>by obtain ⟨n9,o0,o1,o2,o3,o4,o5,o6⟩:=a.1.cells;go_simp⟩) e (λe=>?_);simp only [zr,zy,zx,zw];refine rB (i:=13) (d:=some 34) (v:=.int .i64 (T.length:Nat)) rfl rfl (by kernel_rfl) (by kernel_rfl) (by kernel_rfl) (by kernel_rfl) (λ_ _ _ c=>c) (zn ⟨by rfl,λk a=>by go_simp⟩) e (λe=>?_);simp only [zr,zy,zx,zw];have l4:=(aQ (w:=wc) ⟨1,rfl⟩);have l1:pW B wc sb hp n (.slice e8 T.length e9) (.slice G J H) big w.heap.size s ad s.c.length cp (ks.filter λb=>!cH s.c (aP T b)) (.slice e8 T.length e9) T.length (gQ T) wc.drew:=by refine pW.below ⟨⟨a6.o.box,C.o.cells k0.o (by decide)⟩,C.o.boxed c2.o (by decide),a6.o.kp,a6.o.st.row,Mv.refl _ _ _,j7.o,zs h7 (zs i8.o.size C.o.size)⟩ l4
   have g7:=aA l1;have b1:(ks.filter λb=>!cH s.c (aP T b)).length<=10000000:=by have:=zg (λb=>!cH s.c (aP T b)) ks;omega
   clear l1 l4;generalize wc.drew=W0 at g7 e ⊢;clear e;refine aDx (rs:=[7,14]) (by kernel_rfl) (by simp) (mF.cons rfl (λK hK=>?_) (mF.cons rfl (λK hK=>?_) mF.nil))
   ·skip
    go_simp;have A:=aA (g7.o.below ((Below.refl _ W0).alloc (zv _) (.cells #[.int .i64 s.r,.int .i64 s.a,.int .i64 s.b,.int .i64 s.i,.int .i64 s.j,.slice ad s.c.length cp] 77)));have b7:=zt W0 (.cells #[.int .i64 s.r,.int .i64 s.a,.int .i64 s.b,.int .i64 s.i,.int .i64 s.j,.slice ad s.c.length cp] 77);refine hK.out _ _ ⟨λ_=>A.o.held,A.o.bx⟩ ?_;generalize W0.alloc (.cells #[.int .i64 s.r,.int .i64 s.a,.int .i64 s.b,.int .i64 s.i,.int .i64 s.j,.slice ad s.c.length cp] 77)=W1 at A b7  ⊢;clear hK;refine aDx (rs:=[8,14]) (by kernel_rfl) (by simp) (mF.cons rfl (λK hK=>?_) (mF.cons rfl (λK hK=>?_) mF.nil))
    ·skip
     refine nN rfl (.tmp 26) (.tmp 28) 32 77 rfl (.agg #[.int .i64 0,.int .i64 0,.int .i64 0,.int .i64 0,.int .i64 0,.slice none 0 0]) 6 64 zk aA4 rfl (by decide) (by decide) B _ T.length (gQ T) rfl A.o.rs (by omega) A.o.base W0.heap.size 1 (gF (s,.slice ad s.c.length cp)) rfl rfl (uW b7) (aA5 _ rfl) ?_;intro c0 c4 F x;have o:=aA (A.o.app F x);obtain ⟨f0,f1,rfl⟩:=aY F;refine hK.out _ _ ⟨λ_=>o.o.held,o.o.bx⟩ ?_;clear hK F x;simp only [zr,zy,zx,zw];refine fP 14 (by kernel_rfl) rfl λK hK=>?_
     go_simp;have j:=aA (o.o.below ((Below.refl _ c4).alloc (zv _) (.cells #[.int .i64 (T.length:Nat)] 3)));have E:=zt c4 (.cells #[.int .i64 (T.length:Nat)] 3);refine hK.out _ _ ⟨λ_=>j.o.held,j.o.bx⟩ ?_;generalize c4.alloc (.cells #[.int .i64 (T.length:Nat)] 3)=k3 at j E  ⊢;clear hK;refine fP 15 (by kernel_rfl) rfl λK hK=>?_
     refine nN rfl (.tmp 33) (.tmp 35) 33 3 rfl (.int .i64 0) 1 8 zj aE0 rfl (by decide) (by decide) B _ (ks.filter λb=>!cH s.c (aP T b)).length ((ks.filter λb=>!cH s.c (aP T b)).map λb=>ze .i64 (b:Nat)) rfl j.o.rk b1 j.o.base c4.heap.size 1 [.int .i64 (T.length:Nat)] rfl rfl (uW E) (aE2 _) ?_;intro d0 k4 q b2;have d:=aA (j.o.fin b2);obtain ⟨o7,o8,rfl⟩:=aY q;have d2:=aA q;refine hK.out _ _ ⟨λ_=>d.o.1,d.o.2.1⟩ ?_;clear hK q b2;simp only [zr,zy,zx,zw];refine fP 16 (by kernel_rfl) rfl λK hK=>?_
     go_simp;refine hK.out _ _ ⟨λ_=>d.o.1,d.o.2.1⟩ ?_;clear hK;refine fP 17 (by kernel_rfl) rfl λK hK=>?_
     go_simp;refine hK.out _ _ ⟨λ_=>d.o.1,d.o.2.1⟩ ?_;clear hK;obtain ⟨e3,e4,e5,e6,t,b3⟩:=d.o.1.set2 d.o.2.1 i4 (.slice f0 (T.length+1) f1);have d3:=aA b3;clear b3;refine fP 18 (by kernel_rfl) rfl λK hK=>?_
     go_simp;refine hK.out _ _ ⟨λa=>zu (show true=false from a),t⟩ ?_;clear hK;refine fP 19 (by kernel_rfl) rfl λK hK=>?_
     go_simp;refine hK.out _ _ ⟨λa=>zu (show true=false from a),t⟩ ?_;clear hK;refine fP 20 (by kernel_rfl) rfl λK hK=>?_
     go_simp;refine hK.out _ _ ⟨λa=>zu (show true=false from a),t⟩ ?_;clear hK;refine fP 21 (by kernel_rfl) rfl λK hK=>?_
     go_simp;refine hK.out _ _ ⟨λa=>zu (show true=false from a),d3.o _⟩ ?_;clear hK;refine aDy (by kernel_rfl) ?_ _;refine pP ?_;have a7:=aA (bI.two (p:=(s,.slice ad s.c.length cp)) a6.o d.o.2.2.2 (C.o.clause g6.o (by decide) (by decide)) d.o.2.2.1 (ks':=dI T ks s.c) (by unfold dI dQ;rw [zm,zi];exact d2.o));go_wp2_with fail;go_meet;case rel=>exact ⟨_,_,a7.o.1,(C.o.mono (by decide) (zv _)).trans a7.o.2⟩
    ·skip
     go_simp;have o:=aA (A.o.below ((Below.refl _ W1).alloc (zv _) (.cells #[.int .i64 (T.length:Nat)] 3)));have E:=zt W1 (.cells #[.int .i64 (T.length:Nat)] 3);have k2:=(((Below.refl _ W1).alloc (zv _) (.cells #[.int .i64 (T.length:Nat)] 3)).block _ (zz.1 b7).1).trans b7;refine hK.out _ _ ⟨λ_=>o.o.held,o.o.bx⟩ ?_;generalize W1.alloc (.cells #[.int .i64 (T.length:Nat)] 3)=c4 at o E k2 ⊢;clear hK;refine fP 8 (by kernel_rfl) rfl λK hK=>?_
     refine nN rfl (.tmp 26) (.tmp 28) 32 77 rfl (.agg #[.int .i64 0,.int .i64 0,.int .i64 0,.int .i64 0,.int .i64 0,.slice none 0 0]) 6 64 zk aA4 rfl (by decide) (by decide) B _ T.length (gQ T) rfl o.o.rs (by omega) o.o.base W0.heap.size 1 (gF (s,.slice ad s.c.length cp)) rfl rfl (uW k2) (aA5 _ rfl) ?_;intro c0 k3 F x;have j:=aA (o.o.app F x);have c3:=(x.block _ (zz.1 E).1 (λh5=>dZ o.o.rs E (by decide) h5.symm)).trans E;obtain ⟨f0,f1,rfl⟩:=aY F;refine hK.out _ _ ⟨λ_=>j.o.held,j.o.bx⟩ ?_;clear hK F x;simp only [zr,zy,zx,zw];refine fP 15 (by kernel_rfl) rfl λK hK=>?_
     refine nN rfl (.tmp 33) (.tmp 35) 33 3 rfl (.int .i64 0) 1 8 zj aE0 rfl (by decide) (by decide) B _ (ks.filter λb=>!cH s.c (aP T b)).length ((ks.filter λb=>!cH s.c (aP T b)).map λb=>ze .i64 (b:Nat)) rfl j.o.rk b1 j.o.base W1.heap.size 1 [.int .i64 (T.length:Nat)] rfl rfl (uW c3) (aE2 _) ?_;intro d0 k4 q b2;have d:=aA (j.o.fin b2);obtain ⟨o7,o8,rfl⟩:=aY q;have d2:=aA q;refine hK.out _ _ ⟨λ_=>d.o.1,d.o.2.1⟩ ?_;clear hK q b2;simp only [zr,zy,zx,zw];refine fP 16 (by kernel_rfl) rfl λK hK=>?_
     go_simp;refine hK.out _ _ ⟨λ_=>d.o.1,d.o.2.1⟩ ?_;clear hK;refine fP 17 (by kernel_rfl) rfl λK hK=>?_
     go_simp;refine hK.out _ _ ⟨λ_=>d.o.1,d.o.2.1⟩ ?_;clear hK;obtain ⟨e3,e4,e5,e6,t,b3⟩:=d.o.1.set2 d.o.2.1 i4 (.slice f0 (T.length+1) f1);have d3:=aA b3;clear b3;refine fP 18 (by kernel_rfl) rfl λK hK=>?_
     go_simp;refine hK.out _ _ ⟨λa=>zu (show true=false from a),t⟩ ?_;clear hK;refine fP 19 (by kernel_rfl) rfl λK hK=>?_
     go_simp;refine hK.out _ _ ⟨λa=>zu (show true=false from a),t⟩ ?_;clear hK;refine fP 20 (by kernel_rfl) rfl λK hK=>?_
     go_simp;refine hK.out _ _ ⟨λa=>zu (show true=false from a),t⟩ ?_;clear hK;refine fP 21 (by kernel_rfl) rfl λK hK=>?_
     go_simp;refine hK.out _ _ ⟨λa=>zu (show true=false from a),d3.o _⟩ ?_;clear hK;refine aDy (by kernel_rfl) ?_ _;refine pP ?_;have a7:=aA (bI.two (p:=(s,.slice ad s.c.length cp)) a6.o d.o.2.2.2 (C.o.clause g6.o (by decide) (by decide)) d.o.2.2.1 (ks':=dI T ks s.c) (by unfold dI dQ;rw [zm,zi];exact d2.o));go_wp2_with fail;go_meet;case rel=>exact ⟨_,_,a7.o.1,(C.o.mono (by decide) (zv _)).trans a7.o.2⟩
   ·skip
    go_simp;have A:=aA (g7.o.below ((Below.refl _ W0).alloc (zv _) (.cells #[.int .i64 (T.length:Nat)] 3)));have E:=zt W0 (.cells #[.int .i64 (T.length:Nat)] 3);refine hK.out _ _ ⟨λ_=>A.o.held,A.o.bx⟩ ?_;generalize W0.alloc (.cells #[.int .i64 (T.length:Nat)] 3)=W1 at A E  ⊢;clear hK;refine fP 7 (by kernel_rfl) rfl λK hK=>?_
    go_simp;have o:=aA (A.o.below ((Below.refl _ W1).alloc (zv _) (.cells #[.int .i64 s.r,.int .i64 s.a,.int .i64 s.b,.int .i64 s.i,.int .i64 s.j,.slice ad s.c.length cp] 77)));have b7:=zt W1 (.cells #[.int .i64 s.r,.int .i64 s.a,.int .i64 s.b,.int .i64 s.i,.int .i64 s.j,.slice ad s.c.length cp] 77);have c3:=(((Below.refl _ W1).alloc (zv _) (.cells #[.int .i64 s.r,.int .i64 s.a,.int .i64 s.b,.int .i64 s.i,.int .i64 s.j,.slice ad s.c.length cp] 77)).block _ (zz.1 E).1).trans E;refine hK.out _ _ ⟨λ_=>o.o.held,o.o.bx⟩ ?_;generalize W1.alloc (.cells #[.int .i64 s.r,.int .i64 s.a,.int .i64 s.b,.int .i64 s.i,.int .i64 s.j,.slice ad s.c.length cp] 77)=c4 at o b7 c3 ⊢;clear hK;refine fP 8 (by kernel_rfl) rfl λK hK=>?_
    refine nN rfl (.tmp 26) (.tmp 28) 32 77 rfl (.agg #[.int .i64 0,.int .i64 0,.int .i64 0,.int .i64 0,.int .i64 0,.slice none 0 0]) 6 64 zk aA4 rfl (by decide) (by decide) B _ T.length (gQ T) rfl o.o.rs (by omega) o.o.base W1.heap.size 1 (gF (s,.slice ad s.c.length cp)) rfl rfl (uW b7) (aA5 _ rfl) ?_;intro c0 k3 F x;have j:=aA (o.o.app F x);have p8:=(x.block _ (zz.1 c3).1 (λh5=>dZ o.o.rs c3 (by decide) h5.symm)).trans c3;obtain ⟨f0,f1,rfl⟩:=aY F;refine hK.out _ _ ⟨λ_=>j.o.held,j.o.bx⟩ ?_;clear hK F x;simp only [zr,zy,zx,zw];refine fP 15 (by kernel_rfl) rfl λK hK=>?_
    refine nN rfl (.tmp 33) (.tmp 35) 33 3 rfl (.int .i64 0) 1 8 zj aE0 rfl (by decide) (by decide) B _ (ks.filter λb=>!cH s.c (aP T b)).length ((ks.filter λb=>!cH s.c (aP T b)).map λb=>ze .i64 (b:Nat)) rfl j.o.rk b1 j.o.base W0.heap.size 1 [.int .i64 (T.length:Nat)] rfl rfl (uW p8) (aE2 _) ?_;intro d0 k4 q b2;have d:=aA (j.o.fin b2);obtain ⟨o7,o8,rfl⟩:=aY q;have d2:=aA q;refine hK.out _ _ ⟨λ_=>d.o.1,d.o.2.1⟩ ?_;clear hK q b2;simp only [zr,zy,zx,zw];refine fP 16 (by kernel_rfl) rfl λK hK=>?_
    go_simp;refine hK.out _ _ ⟨λ_=>d.o.1,d.o.2.1⟩ ?_;clear hK;refine fP 17 (by kernel_rfl) rfl λK hK=>?_
    go_simp;refine hK.out _ _ ⟨λ_=>d.o.1,d.o.2.1⟩ ?_;clear hK;obtain ⟨e3,e4,e5,e6,t,b3⟩:=d.o.1.set2 d.o.2.1 i4 (.slice f0 (T.length+1) f1);have d3:=aA b3;clear b3;refine fP 18 (by kernel_rfl) rfl λK hK=>?_
    go_simp;refine hK.out _ _ ⟨λa=>zu (show true=false from a),t⟩ ?_;clear hK;refine fP 19 (by kernel_rfl) rfl λK hK=>?_
    go_simp;refine hK.out _ _ ⟨λa=>zu (show true=false from a),t⟩ ?_;clear hK;refine fP 20 (by kernel_rfl) rfl λK hK=>?_
    go_simp;refine hK.out _ _ ⟨λa=>zu (show true=false from a),t⟩ ?_;clear hK;refine fP 21 (by kernel_rfl) rfl λK hK=>?_
    go_simp;refine hK.out _ _ ⟨λa=>zu (show true=false from a),d3.o _⟩ ?_;clear hK;refine aDy (by kernel_rfl) ?_ _;refine pP ?_;have a7:=aA (bI.two (p:=(s,.slice ad s.c.length cp)) a6.o d.o.2.2.2 (C.o.clause g6.o (by decide) (by decide)) d.o.2.2.1 (ks':=dI T ks s.c) (by unfold dI dQ;rw [zm,zi];exact d2.o));go_wp2_with fail;go_meet;case rel=>exact ⟨_,_,a7.o.1,(C.o.mono (by decide) (zv _)).trans a7.o.2⟩
  case rest=>
   obtain ⟨g5,g4,R,c5⟩:=hcut;obtain ⟨a3,a4,rfl⟩:=aY R.st.row;obtain ⟨a1,a2,rfl⟩:=R.kp.shape;have n6:=(c5.boxed c2.o (by decide)).cell;obtain ⟨_,_,h3,h4,_⟩:=R.cells;have c6:(T++[(s,zo ad s.c.length cp)]).length=T.length+1:=by simp
   have f4:=aA R;have j:=aA c5;have f2:=aA (λ(k:World) (a0:∃p,k=wc.drewN p)=>(aK3 B a3 a1 _ _ a4 a2 _ T.length (dI T ks s.c) k (by obtain ⟨p,rfl⟩:=a0;exact R.st.kept (S:=[]) (bR (aQ ⟨p,rfl⟩)) (by simp) (by simp) (by simp)) (by obtain ⟨p,rfl⟩:=a0;exact bF R.kp (aQ ⟨p,rfl⟩) (zv _))).mono (R':=λg f=>∃Y V X,g=.returned (.func (.func 100) #[] #[.pointer (some ⟨Y,0,none⟩),.pointer (some ⟨V,0,none⟩),.pointer (some ⟨X,0,none⟩)])/\pV B f Y V X (.slice a3 (T++[(s,zo ad s.c.length cp)]).length a4) (.slice a1 (dI T ks s.c).length a2) (T++[(s,.slice ad s.c.length cp)]) T.length (dI T ks s.c)/\aB wc f) (λg f b0=>by
    obtain ⟨p,rfl⟩:=a0;obtain ⟨Y,V,X,D,Q,f5⟩:=b0;exact ⟨Y,V,X,D,Q,(aQ ⟨p,rfl⟩).trans f5⟩))
   generalize htn:(T++[(s,zo ad s.c.length cp)]).length=tn at f2 h3;generalize hkn:(dI T ks s.c).length=kn' at f2 h4;have p7:=aA htn;have p5:=aA hkn;clear R c5 c6 htn hkn a6 C j7 k6 n5;go_upto_region 4 with (fail);refine rV ?_;go_region_held3 (λb9=>b9.cell? ⟨w.heap.size,0,none⟩=some (.pointer (some ⟨sb,0,none⟩))/\b9.cell? ⟨sb,2,none⟩=some (.slice a3 tn a4)/\b9.cell? ⟨sb,3,none⟩=some (.slice a1 kn' a2)) (go_keep)
    (first
     |(refine zF (by rfl) 74 _ _ (by rfl) (enters_of Tryz.func74 (by kernel_rfl) rfl) _ (by rfl) (aC f2 _ ⟨1,rfl⟩) ?_;rintro g f ⟨Y,V,X,rfl,m1,e0⟩;refine ⟨_,rfl,?_⟩;have q2:=aD e0 n6;have k5:=aD e0 h3;have q3:=aD e0 h4;have j2:=aA m1;have f3:=aA e0;clear m1 e0))
   refine pP ?_;go_wp2_with fail;have m3:=j2.o;have a9:=f4.o.below f3.o;have l8:kX sb w.heap.size f:=kX.below (j.o.boxed c2.o (by decide)) f3.o;have i3:Mv oC B w f:=(Mv.of_below i8.o).trans ((j.o.mono (by decide) (zv _)).trans (Mv.of_below f3.o));have l3:∀e2∈T++[(s,zo ad s.c.length cp)],jS e2.1.c:=λe2 hp=>by
    rcases List.mem_append.1 hp with hp|hp
    ·exact kL (p4.o e2 hp)
    ·simp at hp;subst hp;exact kL p3.o
   have m7:∀h2∈dI T ks s.c,h2<(T++[(s,zo ad s.c.length cp)]).length:=λh2 u=>by
    simp [dI] at u;simp;rcases u with ⟨u,_⟩|rfl
    ·have:=p6.o h2 u;omega
    ·omega
   have m6:(dI T ks s.c).length<=1000000:=by have:=zg (λb=>!cH s.c (aP T b)) ks;simp [dI];omega
   have g1:w.heap.size<=f.heap.size:=i3.size;rw [p7.o,p5.o] at a9;clear j2 f4 j f3 q2 k5 q3 f2 n6 h3 h4;have m4:∀c7 c8,rO Fence.wide (8-1) zf 100 #[.pointer (some ⟨Y,0,none⟩),.pointer (some ⟨V,0,none⟩),.pointer (some ⟨X,0,none⟩)] (qU B) bO (fG (T++[(s,.slice ad s.c.length cp)]) T.length (dI T ks s.c)) ((f.alloc c7).alloc c8):=by
    intro c7 c8;have l6:aB f ((f.alloc c7).alloc c8):=((Below.refl f.heap.size f).alloc (zv _) c7).alloc (by simp) c8;have m5:=m3.kept (bR (S:=bO) l6);have k7:B<=((f.alloc c7).alloc c8).heap.size:=zs (zs h7 g1) l6.size;have r0:T.length<(T++[(s,zo ad s.c.length cp)]).length:=by simp
    generalize (f.alloc c7).alloc c8=wy at m5 k7 ⊢;exact aKa (8-1) Y V X B _ _ _ T.length _ (by omega) l3 r0 m7 m6 wy k7 m5
   refine (wpIn_wide (n:=8)).1 ?_;refine vU (F:=Fence.wide) (n:=8) (w:=f) rfl (by omega) (gf:=100) (lb:=#[.pointer (some ⟨Y,0,none⟩),.pointer (some ⟨V,0,none⟩),.pointer (some ⟨X,0,none⟩)]) rfl trivial (enters_of Tryz.func100 (by kernel_rfl) rfl)
    (Enc:=qU B) (S:=bO) (L:=fG (T++[(s,.slice ad s.c.length cp)]) T.length (dI T ks s.c))
    ?hseq
    (λl q0 W c=>by obtain ⟨ad,cp,rfl,_⟩:=c;rfl)
    (nB B sb hp w.heap.size (.slice a3 tn a4) (.slice a1 kn' a2) (T++[(s,.slice ad s.c.length cp)]) (dI T ks s.c) z L n big w)
    (λ_ _ _=>False) (nB.own g1) (λq1 b g9 h0 n8 c _ _=>c) ⟨⟨v,L,n,big,a9,by simp [bX]⟩,l8,i3⟩
    (λl h1 W'=>∃d4 O P,h1 = {tmps:=#[.pointer (some ⟨sb,0,none⟩),.agg #[.int .i64 s.r,.int .i64 s.a,.int .i64 s.b,.int .i64 s.i,.int .i64 s.j,.slice ad s.c.length cp],.pointer (some ⟨w.heap.size,0,none⟩),.pointer (some ⟨w.heap.size+1,0,none⟩),.int .i64 (T.length:Nat),.pointer (some ⟨d4,0,none⟩),.int .i64 l.2,u7,u8,u9,u10,u11,u12,u13,u14,u15,u16,u17,u18,u19,u20,u21,u22,u23,u24,u25,u26,u27,u28,u29,u30,u31,u32,u33,u34,u35,u36,u37,u38,u39,u40,.pointer (some ⟨sb,0,none⟩),.pointer (some ⟨sb,0,none⟩),.pointer (some ⟨sb,2,none⟩),.slice a3 tn a4,.int .i64 (T.length:Nat),.pointer (some ⟨sb,0,none⟩),.pointer (some ⟨sb,0,none⟩),.pointer (some ⟨sb,3,none⟩),.slice a1 kn' a2,.func (.func 100) #[] #[.pointer (some ⟨Y,0,none⟩),.pointer (some ⟨V,0,none⟩),.pointer (some ⟨X,0,none⟩)],.agg #[.int .i64 l.1.r,.int .i64 l.1.a,.int .i64 l.1.b,.int .i64 l.1.i,.int .i64 l.1.j,.slice O l.1.c.length P],.int .i64 l.2,u53,u54,u55,u56,u57,u58,u59,u60,u61,u62,u63,u64,u65,u66],defers:=[]}/\qX B W' d4 l.1 O P) ?hAx ?assign ?body ?done ?stop
   case hseq=>exact m4
   case stop=>
    rintro q1 b W c _;exact c.elim
   case hAx=>
    intro l h1;refine sC ?_;rintro _ g9 h0 ⟨d4,ad,cp,D,Q⟩ b;exact ⟨d4,ad,cp,D,Q.kept b⟩
   case assign=>
    rintro g3 b l q0 m K a d8 ⟨O,P,rfl,l9⟩ hK;have o9:=aA l9;have p2:=aA d8;clear l9 d8;gi_wp2
    have f7:aB m (m.alloc (.cells #[.int .i64 l.1.r,.int .i64 l.1.a,.int .i64 l.1.b,.int .i64 l.1.i,.int .i64 l.1.j,.slice O l.1.c.length P] 77)):=(Below.refl _ m).alloc (zv _) _;exact hK _ _ (Mv.of_below (S:=[]) (B:=0) f7).keepsFrom (bR f7) (oY (nB.own (N:=f.heap.size) g1) p2.o f7) ⟨m.heap.size,O,P,rfl,zt m _,o9.o.below f7⟩
   case done=>
    rintro p9 d8 hK;rw [<-j3.o] at d8;obtain ⟨⟨c9,b6,b8,a8,D,Q⟩,f5,h6⟩:=d8;rw [List.take_length] at Q;refine wX (N:=f.heap.size) (I:=λW'=>bI B W' sb hp c9 (.slice a3 tn a4) (.slice a1 kn' a2) b6 b8 (T++[(s,.slice ad s.c.length cp)]) (dI T ks s.c) a8/\Mv oC B w W') rfl ?_ (λ_ b9 c=>⟨⟨_,rfl⟩,c9,_,_,b6,b8,a8,c.1,Q,c.2⟩) [f.heap.size] p9 ⟨D,h6⟩ (λr3 k8=>by simp at k8;subst k8;exact ⟨zv _,hK⟩) (by simp);rintro e7 g9 h0 n8 ⟨q6,q7⟩ x n0;exact ⟨q6.kps (cK.grown x (λr g=>(n0 r g).2)),aLb g1 e7 g9 h0 n8 q7 x n0⟩
   case body=>
    rintro g3 b ⟨c1,g⟩ h1 m s4 a ⟨⟨c9,b6,b8,a8,d9,c6⟩,e1,g0⟩ ⟨d4,O,P,rfl,f8⟩;have g2:z[b]?=some (c1,g):=by rw [j3.o];exact a
    obtain ⟨n1,m2⟩:=p0.o _ (List.mem_of_getElem? g2);have s5:=bX.len _ c6;have s2:(z.take b).length<=z.length:=List.length_take_le' _ _;have q8:B<=m.heap.size:=zs h7 g0.size;obtain ⟨n4,e3,e4,e5,e6,t⟩:=f8.cells;have n7:=Boxed.cell e1;obtain ⟨_,_,_,_,r2⟩:=d9.cells;have q5:=d9.frz 4;have l7:∀U,aB m U->(g≠0\/cZ c1.c=false)->U.cell? ⟨w.heap.size,0,none⟩=some (.pointer (some ⟨sb,0,none⟩))/\U.cell? ⟨sb,4,none⟩=some (.bool a8)/\U.frozen? ⟨sb,4,none⟩=false/\KeepsFrom f.heap.size m (U.setCell ⟨sb,4,none⟩ (.bool true))/\cK bO m (U.setCell ⟨sb,4,none⟩ (.bool true))/\nB B sb hp w.heap.size (.slice a3 tn a4) (.slice a1 kn' a2) (T++[(s,.slice ad s.c.length cp)]) (dI T ks s.c) z L n big w (b+1) (U.setCell ⟨sb,4,none⟩ (.bool true)):=by intro U u f9;have h9:=d9.below u;obtain ⟨D,Q⟩:=h9.bigged true;have y:Mv bO B m (U.setCell ⟨sb,4,none⟩ (.bool true)):=(Mv.of_below u).trans (Q.mono (by decide) (zv _));refine ⟨(e1.below u).cell,h9.cells.2.2.2.2,h9.frz 4,y.keepsFrom,y.kps,nB.next g2 c6 ?_ e1 g0 D y⟩;unfold bX;rw [aG f9];exact ⟨rfl,rfl,rfl⟩
    have i9:=aA l7;have j8:=aA d9;have j1:=aA f8;have j9:=aA c6;have j0:=aA e1;have j5:=aA g0;have k1:=aA g2;have p1:=aA m2;have i6:=aA (uG O P c1.c m (f8.2.wide n1));clear l7 d9 f8 c6 e1 g0 a g2 m2 n1 m3 a9 l8 i3 l3 m7 m6 m4;by_cases b0:g=0
    ·subst b0;clear r2 q5;gi_wp2
     refine ⟨trivial,(zh g3 (callsIn_wide.2 (aC i6))).mono ?_⟩;rintro g g8 ⟨rfl,Z⟩;have t7:=aD Z n7;have t0:=aD Z n4;have t1:=aD Z e3;have t2:=aD Z e4;have t3:=aD Z e5;have t4:=aD Z e6;have t5:=aD Z t;have b5:=aA Z;clear Z n4 e3 e4 e5 e6 t n7 i6;cases b1:cZ c1.c
     ·obtain ⟨_,k6,q4,d5,d6,d7⟩:=i9.o g8 b5.o (Or.inr b1);have b4:=aA (show _/\_/\_ from ⟨d5,d6,d7⟩);clear d5 d6 d7;gi_wp2
      exact b4.o
     ·have m9:=kL (p1.o (by first|exact rfl|trivial) b1);have j6:=aA m9;clear m9;cases hid:jK c1.c
      ·have d1:=aA (aL7 B sb hp c9 _ _ b6 b8 _ _ a8 c1 O P g8 (j8.o.below b5.o) (j1.o.2.below b5.o) j6.o hid (by omega) (by omega) (zs q8 b5.o.size));unfold pC at d1;gi_wp2
       refine ⟨trivial,(zh g3 (callsIn_wide.2 (aC d1))).mono ?_⟩;rintro g M ⟨⟨e7,rfl⟩,t8,l2,m8⟩;have y:Mv bO B m M:=(Mv.of_below b5.o).trans m8;have b4:=aA (show KeepsFrom f.heap.size m M/\cK bO m M/\nB B sb hp w.heap.size (.slice a3 tn a4) (.slice a1 kn' a2) (T++[(s,.slice ad s.c.length cp)]) (dI T ks s.c) z L n big w (b+1) M from ⟨y.keepsFrom,y.kps,nB.next k1.o j9.o (by
        unfold bX;rw [aF (by simp [b1]),aF (by simp [hid])];exact ⟨O,P,rfl,rfl,rfl⟩) j0.o j5.o l2 y⟩)
       clear y l2 m8;gi_wp2
       exact b4.o
      ·have d1:=aA (aL6 B sb c1 O P g8 (j1.o.2.below b5.o) j6.o hid);unfold pC at d1;gi_wp2
       refine ⟨trivial,(zh g3 (callsIn_wide.2 (aC d1))).mono ?_⟩;rintro g M ⟨⟨e7,rfl⟩,l5⟩;have u:aB m M:=aZ b5.o l5;have y:Mv bO B m M:=Mv.of_below u;have b4:=aA (show KeepsFrom f.heap.size m M/\cK bO m M/\nB B sb hp w.heap.size (.slice a3 tn a4) (.slice a1 kn' a2) (T++[(s,.slice ad s.c.length cp)]) (dI T ks s.c) z L n big w (b+1) M from ⟨y.keepsFrom,y.kps,nB.next k1.o j9.o (by
        unfold bX;rw [aF (by simp [b1]),aG hid];exact ⟨rfl,rfl,rfl⟩) j0.o j5.o (j8.o.below u) y⟩)
       clear y u l5;gi_wp2
       exact b4.o
    ·have s0:(g==0)=false:=by simpa using b0
     have s1:(g != 0)=true:=by simpa using b0
     obtain ⟨_,_,_,d5,d6,d7⟩:=i9.o m (Below.refl _ _) (zn b0);have b4:=aA (show _/\_/\_ from ⟨d5,d6,d7⟩);clear d5 d6 d7;gi_wp2
     refine ⟨trivial,?_⟩;gi_wp2
     exact b4.o
