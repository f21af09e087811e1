import Derived.Test.YtbpiopdphigodaaGreatDoorXHp1P
import Derived.Test.YtbpiopdphigodaaGreatDoorVRes1P
open Array renaming getElem?_eq_some_iff→zz
open List renaming mem_or_eq_of_mem_set→zw,getElem_mem→zt
open Nat renaming le_refl→zy
namespace Go.Proofs.YtbpiopdphigodaaGreatDoor
open _root_.Go.Proofs.Tryz renaming prog→zv
open World renaming alloc_heap_new→zx,cell?→zu
set_option maxHeartbeats 8000000
set_option maxRecDepth 100000
open Go.RowKit Go.Shelf Go.WideMaps
variable{big:Bool}{T:List (aK×Value)}{L:List Cd}{ks:List Nat}{B hp n sb:Nat}{ad:Option Addr}{v vk vs:Value}{W w:World}
structure bI(B:Nat)(W:World)(sb hp:Nat)(v vs vk:Value)(L:List Cd)(n:Nat)(T:List (aK×Value))(ks:List Nat)(big:Bool):Prop where
 box:W.heap[sb]?=some (.cells #[.pointer (some ⟨hp,0,none⟩),.int .i64 (n:Nat),vs,vk,.bool big] 99 (0,0))
 heap:bZ B W hp v L
 st:iD B W vs T
 kp:dQ B W vk ks
 cl:∀x∈L,bN B W (.slice x.ad x.ln x.cp) x.c/\x.ln=x.c.length
 base:B<=sb
theorem bI.cells(a:bI B W sb hp v vs vk L n T ks big):W.cell? ⟨sb,0,none⟩=some (.pointer (some ⟨hp,0,none⟩))/\W.cell? ⟨sb,1,none⟩=some (.int .i64 (n:Nat))/\W.cell? ⟨sb,2,none⟩=some vs/\W.cell? ⟨sb,3,none⟩=some vk/\W.cell? ⟨sb,4,none⟩=some (.bool big):=by
 refine ⟨?_,?_,?_,?_,?_⟩<;>simp [zu,a.box]
theorem bI.frz(a:bI B W sb hp v vs vk L n T ks big)(b:Nat):W.frozen? ⟨sb,b,none⟩=false:=by simp [World.frozen?,a.box]
theorem bI.below{c:World}(a:bI B W sb hp v vs vk L n T ks big)(b:aB W c):bI B c sb hp v vs vk L n T ks big:=
 ⟨(b.block _ (zz.1 a.box).1).trans a.box,a.heap.below b,a.st.kept (S:=[]) (bR b) (by simp) (by simp) (by simp),bF a.kp b (zy _),λx d=>⟨(a.cl x d).1.below b,(a.cl x d).2⟩,a.base⟩
def pC(a:aK)(ad:Option Addr)(b:Nat):Value:=.agg #[.int .i64 a.r,.int .i64 a.a,.int .i64 a.b,.int .i64 a.i,.int .i64 a.j,.slice ad a.c.length b]
def eH(a:aK)(ad:Option Addr)(b n:Nat):Cd:=⟨a.r,a.a,a.b,a.i,a.j,ad,a.c.length,b,(aS a.c+a.c.length:Nat),(n:Nat),a.c⟩
theorem bN.rows{f:Nat}{d:List Lt}(g:bN B w (.slice ad n f) d)(y:jS d):∃a:List (Lt×Value),a.map Prod.fst=d/\n=a.length/\a.length<=f/\(∀c (g:c<a.length),∃e,ad=some ⟨e,0,none⟩/\w.cell? ⟨e,c*2,none⟩=some (.bool a[c].1.1)/\w.cell? ⟨e,c*2+1,none⟩=some a[c].2)/\∀j∈a,kI w j.2 j.1.2:=by
 obtain ⟨o,l,m,A,_⟩:=g;obtain ⟨C,q,b,t⟩:=sJ m;simp at b;obtain ⟨rfl,rfl,rfl⟩:=b;refine ⟨o,l,rfl,?_,t,λk i=>?_⟩
 ·obtain ⟨_,⟨b,E⟩|⟨F,q,D,b,_,_,I,_⟩⟩:=m
  ·omega
  ·simp at b;omega
 ·obtain ⟨G,H,s⟩:=y.nodes (x:=k.1) (by rw [<-l];simp;exact ⟨_,i⟩);obtain ⟨p,r,b,z⟩:=tR (A k i) (by omega) (λc u=>by have:=s c u;omega);exact ⟨p,r,b,z⟩
theorem aL6(B sb:Nat)(a:aK)(ad:Option Addr)(b:Nat)(w:World)(j:bN B w (.slice ad a.c.length b) a.c)(d:jS a.c)(k:jK a.c=true):Calls zv 42 #[.pointer (some ⟨sb,0,none⟩),pC a ad b] w λg u=>(∃t,g=.returned t)/\aB w u:=by
 have c:aB w (w.alloc (.cells #[.int .i64 a.r,.int .i64 a.a,.int .i64 a.b,.int .i64 a.i,.int .i64 a.j,.slice ad a.c.length b] 77)):=(Below.refl _ w).alloc (zy _) _;obtain ⟨s,e,l,m,o,p⟩:=(j.below c).rows d;have f:=aA (aBr ad b s _ (by have:=d.len;have:=congrArg List.length e;simp at this;omega) m o p);rw [<-l,e,k] at f;have q:=aA c;clear j d k e l m o p c;unfold pC;go_enter Tryz.func42,Tryz.ntmps42;go_wp2_with (first
  |(go_at_call 70;refine (aC f).mono ?_;rintro g x ⟨rfl,i⟩;have r:=aA (q.o.trans (i.mono (by simp)));clear i)
  |go_in)
 refine bodyPost_ret (results_none rfl _ _ _) rfl ?_;exact ⟨⟨_,rfl⟩,r.o⟩
def xH(sb hp n b:Nat)(c:aK)(ad:Option Addr)(d e:Nat)(a:World):Prop:=a.cell? ⟨sb,0,none⟩=some (.pointer (some ⟨hp,0,none⟩))/\a.cell? ⟨sb,1,none⟩=some (.int .i64 n)/\a.cell? ⟨b,0,none⟩=some (.int .i64 c.r)/\a.cell? ⟨b,1,none⟩=some (.int .i64 c.a)/\a.cell? ⟨b,2,none⟩=some (.int .i64 c.b)/\a.cell? ⟨b,3,none⟩=some (.int .i64 c.i)/\a.cell? ⟨b,4,none⟩=some (.int .i64 c.j)/\a.cell? ⟨b,5,none⟩=some (.slice ad d e)
theorem xH.of{d:Nat}{a:aK}{b c:Nat}(g:bI B w sb hp v vs vk L n T ks big)(i:w.heap[d]?=some (.cells #[.int .i64 a.r,.int .i64 a.a,.int .i64 a.b,.int .i64 a.i,.int .i64 a.j,.slice ad b c] 77 (0,0))):xH sb hp n d a ad b c w:=by obtain ⟨e,f,_⟩:=g.cells;refine ⟨e,f,?_,?_,?_,?_,?_,?_⟩<;>simp [zu,i]
theorem bI.pushed{e:World}{i:Value}(b:bI B w sb hp v vs vk L n T ks big)(c:Mv [96,120] B w e){d:List Cd}(j:bZ B e hp i d)(f:∀a∈d,bN B w (.slice a.ad a.ln a.cp) a.c/\a.ln=a.c.length):bI B e sb hp i vs vk d n T ks big:=
 ⟨c.cells b.box (by decide),j,b.st.kept c.kps (by decide) (by decide) (by decide),c.row b.kp (by decide),λa g=>⟨c.clause (f a g).1 (by decide) (by decide),(f a g).2⟩,b.base⟩
theorem bI.counted{m:Nat}(a:bI B w sb hp v vs vk L n T ks big):bI B (w.setCell ⟨sb,1,none⟩ (.int .i64 (m:Nat))) sb hp v vs vk L m T ks big/\Mv [99] B w (w.setCell ⟨sb,1,none⟩ (.int .i64 (m:Nat))):=by have f:=(zz.1 a.box).1;have b:Mv [99] B w (w.setCell ⟨sb,1,none⟩ (.int .i64 (m:Nat))):=Mv.of_grown (cJ w ⟨sb,1,none⟩ _) (λg e=>by cases e;exact ⟨a.base,_,_,a.box,by simp⟩);refine ⟨⟨?_,⟨b.cells a.heap.box (by decide),b.row a.heap.row (by decide),a.heap.base⟩,a.st.kept b.kps (by decide) (by decide) (by decide),b.row a.kp (by decide),λd c=>⟨b.clause (a.cl d c).1 (by decide) (by decide),(a.cl d c).2⟩,a.base⟩,b⟩;show (w.heap.modify sb _)[sb]?=_;rw [Array.getElem?_eq_getElem (by rw [Array.size_modify];exact f),Array.getElem_modify_self,(zz.1 a.box).2];rfl
theorem aDz:∀(f:Nat) (L:List Cd) (b:Nat) (a:Cd),a∈iO f L b->a∈L
 |0,_,_,_,h=>h
 |f+1,L,b,a,h=>by
  unfold iO at h;split at h
  ·split at h
   ·have:=aDz f _ _ a h;unfold nX at this;rcases zw this with c|rfl
    ·rcases zw c with d|rfl
     ·exact d
     ·exact zt _
    ·exact zt _
   ·exact h
  ·exact h
theorem aL7(B sb hp:Nat)(v vs vk:Value)(L:List Cd)(n:Nat)(T:List (aK×Value))(ks:List Nat)(big:Bool)(a:aK)(ad:Option Addr)(b:Nat)(w:World)(a0:bI B w sb hp v vs vk L n T ks big)(y:bN B w (.slice ad a.c.length b) a.c)(g:jS a.c)(a8:jK a.c=false)(c5:L.length<=1000000)(d9:n<=1000000)(c3:B<=w.heap.size):Calls zv 42 #[.pointer (some ⟨sb,0,none⟩),pC a ad b] w λe d=>(∃C,e=.returned C)/\∃f,bI B d sb hp f vs vk (iO L.length (L++[eH a ad b n]) L.length) (n+1) T ks big/\Mv bO B w d:=by
 have s:aB w (w.alloc (.cells #[.int .i64 a.r,.int .i64 a.a,.int .i64 a.b,.int .i64 a.i,.int .i64 a.j,.slice ad a.c.length b] 77)):=(Below.refl _ w).alloc (zy _) _;have a9:(w.alloc (.cells #[.int .i64 a.r,.int .i64 a.a,.int .i64 a.b,.int .i64 a.i,.int .i64 a.j,.slice ad a.c.length b] 77)).heap[w.heap.size]?=some (.cells #[.int .i64 a.r,.int .i64 a.a,.int .i64 a.b,.int .i64 a.i,.int .i64 a.j,.slice ad a.c.length b] 77 (0,0)):=zx w _;obtain ⟨c1,M,b1,b2,b3,b4⟩:=(y.below s).rows g;have F:=aA (aBr ad b c1 _ (by have:=g.len;have:=congrArg List.length M;simp at this;omega) b2 b3 b4);rw [<-b1,M,a8] at F;clear M b1 b2 b3 b4;have a1:=a0.below s;have a6:=y.below s;have d8:aS a.c<=100000:=by have:=wS (m:=60) (λE hx=>(g.term E hx).2);have:=g.len;omega
 have d7:=g.len;have V:=aA g;have b6:=aA s;have P:=aA a1;have S:=aA a6;have X:=aA a9;have b7:=aA y;clear a0 y a8 a1 a6 g;unfold pC;go_enter Tryz.func42,Tryz.ntmps42;go_upto_region 2 with (first
  |(go_at_call 70;refine (aC F).mono ?_;rintro e D ⟨rfl,a4⟩;have q:=aA a4;clear a4)
  |go_in)
 have J:D.heap[w.heap.size]?=some (.cells #[.int .i64 a.r,.int .i64 a.a,.int .i64 a.b,.int .i64 a.i,.int .i64 a.j,.slice ad a.c.length b] 77 (0,0)):=(q.o.block _ (by simp)).trans X.o;have a2:=P.o.below q.o;have I:=S.o.below q.o;have a5:=aZ b6.o q.o;obtain ⟨d4,d5,c2,_,Z,_⟩:=I.lits V.o;cases c2;have R:=aA a5;have Q:=aA a2;have b8:=aA I;have G:=aA J;have b5:D.cell? ⟨w.heap.size,5,none⟩=some (.slice ad a.c.length b):=by simp [zu,J]
 have N:=aA (λ(t:World) (l:∃c,t=D.drewN c)=>(aBs ad b a.c t (by obtain ⟨c,rfl⟩:=l;exact Z.drewN c) (by omega)).mono (R':=λe o=>e=.returned (.int .i64 (aS a.c))/\aB D o) (λe o z=>by
  obtain ⟨c,rfl⟩:=l;exact ⟨z.1,(aQ ⟨c,rfl⟩).trans z.2⟩))
 clear a5 a2 I J Z F q P S X a9 s;generalize hcc:aS a.c=cc at *;generalize hll:a.c.length=cl at *;have b9:=aA hcc;have U:=aA hll;clear hcc hll;have d1:IntKind.i64.wrap ((cc:Int)+(cl:Int))=((cc+cl:Nat):Int):=by rw [IntKind.wrap_i64];omega
 go_region_held3 (λd=>d.cell? ⟨w.heap.size,5,none⟩=some (.slice ad cl b)) (go_keep)
  (first
   |(go_at_call 62;refine (aC N _ (by first|exact ⟨0,rfl⟩|exact ⟨1,rfl⟩|exact ⟨_,rfl⟩)).mono ?_;rintro e o ⟨rfl,H⟩;have d2:=aD H b5;have u:=aA H;clear H)
   |go_in)
 have i:=Q.o.below u.o;have A:=(u.o.block w.heap.size (zz.1 G.o).1).trans G.o;have a3:=xH.of i A;have c6:=a3;obtain ⟨e8,e9,f0,f1,f2,f3,f4,f5⟩:=a3;have hx:(eH a ad b n).agg=.agg #[.int .i64 a.r,.int .i64 a.a,.int .i64 a.b,.int .i64 a.i,.int .i64 a.j,.slice ad cl b,.int .i64 ((cc+cl:Nat):Int),.int .i64 (n:Nat)]:=by unfold eH Cd.agg;rw [b9.o,U.o]
 have x:=aZ R.o u.o;have O:=aA (λ(t:World) (l:∃c,t=o.drewN c)=>(aYl B hp v L (eH a ad b n) t (by obtain ⟨c,rfl⟩:=l;exact i.heap.below (aQ ⟨c,rfl⟩)) c5 (by obtain ⟨c,rfl⟩:=l;exact Nat.le_trans c3 x.size)).mono (R':=λe p=>(∃C,e=.returned C)/\∃f,bI B p sb hp f vs vk (iO L.length (L++[eH a ad b n]) L.length) n T ks big/\Mv bO B w p/\xH sb hp n w.heap.size a ad cl b p) (λe p z=>by
  obtain ⟨c,rfl⟩:=l;obtain ⟨d0,f,c4,k⟩:=z;have j:aB o (o.drewN c):=aQ ⟨c,rfl⟩;have r:bI B p sb hp f vs vk (iO L.length (L++[eH a ad b n]) L.length) n T ks big:=(i.below j).pushed k c4 (λE hx=>by
   rcases List.mem_append.1 (aDz _ _ _ _ hx) with hx|hx
   ·exact ⟨((i.below j).cl E hx).1,((i.below j).cl E hx).2⟩
   ·simp at hx;subst hx;refine ⟨?_,rfl⟩;show bN B _ (.slice ad a.c.length b) a.c;rw [U.o];exact (b7.o.below x).below j)
  have c9:=k.cells ((j.block w.heap.size (zz.1 A).1).trans A) (by decide);have c7:=xH.of r c9;exact ⟨d0,f,r,(Mv.of_below x).trans ((Mv.of_below j).trans (k.mono (by decide) (zy _))),c7⟩))
 rw [hx] at O;have b0:wrap64 ((n:Int)+1)=((n+1:Nat):Int):=by unfold wrap64;omega
 have d3:=aA b0;clear hx i A c6 x d2 b5 N u Q G R b8 V d1 b0;go_wp2;go_region_held3 (λd=>d.cell? ⟨sb,0,none⟩=some (.pointer (some ⟨hp,0,none⟩))/\d.cell? ⟨sb,1,none⟩=some (.int .i64 n)/\d.cell? ⟨w.heap.size,0,none⟩=some (.int .i64 a.r)/\d.cell? ⟨w.heap.size,1,none⟩=some (.int .i64 a.a)/\d.cell? ⟨w.heap.size,2,none⟩=some (.int .i64 a.b)/\d.cell? ⟨w.heap.size,3,none⟩=some (.int .i64 a.i)/\d.cell? ⟨w.heap.size,4,none⟩=some (.int .i64 a.j)/\d.cell? ⟨w.heap.size,5,none⟩=some (.slice ad cl b)) (go_keep)
  (first
   |(go_at_call 71;refine (aC O _ (by first|exact ⟨0,rfl⟩|exact ⟨1,rfl⟩|exact ⟨_,rfl⟩)).mono ?_;rintro e p ⟨⟨C,rfl⟩,f,r,k,c8⟩;obtain ⟨e0,e1,e2,e3,e4,e5,e6,e7⟩:=c8;have Y:=aA r;have c0:=aA k;clear r k)
   |go_in)
 have d6:=Y.o.frz;go_wp2;go_end0;have a7:=Y.o.counted (m:=n+1);exact ⟨⟨_,rfl⟩,f,a7.1,c0.o.trans (a7.2.mono (by decide) (zy _))⟩
open Classical in
noncomputable def cH(a b:List Lt):Bool:=decide (a.length<=b.length/\jL b a [])
open Classical in
theorem aL8{a b:List Lt}{d:Bool}(e:d=true↔a.length<=b.length/\jL b a []):d=cH a b:=by
 unfold cH;by_cases c:a.length<=b.length/\jL b a []
 ·rw [fH c];exact e.2 c
 ·rw [gH c];cases d
  ·rfl
  ·exact absurd (e.1 rfl) c
def lM(a b:List Lt):Prop:=∀(B:Nat) (c d:Option Addr) (e f:Nat) (w:World),bN B w (.slice c a.length e) a->bN B w (.slice d b.length f) b->
 Calls zv 77 #[.slice c a.length e,.slice d b.length f] w λg i=>g=.returned (.bool (cH a b))/\aB w i
def aA2(d e sb b n i j:Nat)(ad c:Option Addr)(k f l g:Nat)(a:World):Prop:=a.cell? ⟨d,0,none⟩=some (.pointer (some ⟨sb,0,none⟩))/\a.cell? ⟨sb,2,none⟩=some (.slice (some ⟨b,0,none⟩) n i)/\a.cell? ⟨b,j*6+5,none⟩=some (.slice ad k f)/\a.cell? ⟨e,0,none⟩=some (.slice c l g)
theorem aA2.below{c d i g k:Nat}{b:Option Addr}{j e l f:Nat}{w':World}(m:aA2 c d sb i n g k ad b j e l f w)(a:aB w w'):aA2 c d sb i n g k ad b j e l f w':=by obtain ⟨o,p,q,r⟩:=m;exact ⟨aD a o,aD a p,aD a q,aD a r⟩
theorem aZ6(B sb hp:Nat)(v vs vk:Value)(L:List Cd)(n:Nat)(T:List (aK×Value))(ks:List Nat)(big:Bool)(f g a:Nat)(E:Value)(b:List Lt)(w:World)(m:bI B w sb hp v vs vk L n T ks big)(G:Boxed w f 72 (.pointer (some ⟨sb,0,none⟩)))(H:Boxed w g 29 E)(p:bN B w E b)(C:lM (aP T a) b)(r:a<T.length):Calls zv 99 #[.int .i64 (a:Nat),.pointer (some ⟨f,0,none⟩),.pointer (some ⟨g,0,none⟩)] w λe d=>e=.returned (.bool (cH (aP T a) b))/\aB w d:=by
 obtain ⟨l,z,ad,j,rfl,N,s,t⟩:=m.st.cell r;clear N;rw [<-qV r] at s t;obtain ⟨i,k,rfl⟩:=p.shape;obtain ⟨_,_,y,_,_⟩:=m.cells;have A:aA2 f g sb l T.length z a ad i (aP T a).length j b.length k w:=⟨G.cell,y,s,H.cell⟩;have I:=aA (λ(F:World) (u:∃c,F=w.drewN c)=>(C B ad i j k F (by obtain ⟨c,rfl⟩:=u;exact t.below (aQ ⟨c,rfl⟩)) (by obtain ⟨c,rfl⟩:=u;exact p.below (aQ ⟨c,rfl⟩))).mono (R':=λe x=>e=.returned (.bool (cH (aP T a) b))/\aB w x) (λe x D=>by
  obtain ⟨c,rfl⟩:=u;exact ⟨D.1,(aQ ⟨c,rfl⟩).trans D.2⟩))
 have M:=aA A;obtain ⟨V,X,Y,Z⟩:=A;have O:(a:Int)<(T.length:Int):=by omega
 have P:(0:Int)<=(a:Int):=by omega
 clear m G H p s t y r C;generalize (aP T a).length=l1 at *;generalize b.length=l2 at *;generalize T.length=tn at *;generalize cH (aP T a) b=q at *;go_enter Tryz.func99,Tryz.ntmps99;go_wp2;go_region_held3 (λd=>d.cell? ⟨f,0,none⟩=some (.pointer (some ⟨sb,0,none⟩))/\d.cell? ⟨sb,2,none⟩=some (.slice (some ⟨l,0,none⟩) tn z)/\d.cell? ⟨l,a*6+5,none⟩=some (.slice ad l1 j)/\d.cell? ⟨g,0,none⟩=some (.slice i l2 k)) (go_keep)
  (first
   |(go_at_call 77;refine (aC I _ (by first|exact ⟨0,rfl⟩|exact ⟨1,rfl⟩|exact ⟨_,rfl⟩)).mono ?_;rintro e x ⟨rfl,o⟩;obtain ⟨Q,R,S,U⟩:=M.o.below o;have J:=aA o;clear o)
   |go_in)
 go_wp2;go_ret;exact ⟨rfl,J.o⟩
theorem aL9(B sb:Nat)(vs:Value)(T:List (aK×Value))(j k b:Nat)(a:aK)(f:Option Addr)(g:Nat)(w:World)(s:w.cell? ⟨sb,2,none⟩=some vs)(C:iD B w vs T)(E:w.heap[j]?=some (.cells #[.int .i64 a.r,.int .i64 a.a,.int .i64 a.b,.int .i64 a.i,.int .i64 a.j,.slice f a.c.length g] 77 (0,0)))(F:Boxed w k 72 (.pointer (some ⟨sb,0,none⟩)))(y:bN B w (.slice f a.c.length g) a.c)(z:lM a.c (aP T b))(l:b<T.length):Calls zv 76 #[.int .i64 (b:Nat),.pointer (some ⟨j,0,none⟩),.pointer (some ⟨k,0,none⟩)] w λi e=>i=.returned (.bool (cH a.c (aP T b)))/\aB w e:=by
 obtain ⟨u,I,ad,t,rfl,J,m,o⟩:=C.cell l;clear J;rw [<-qV l] at m o;have x:w.cell? ⟨j,5,none⟩=some (.slice f a.c.length g):=by simp [zu,E]
 have G:=aA (λ(D:World) (p:∃c,D=w.drewN c)=>(z B f ad g t D (by obtain ⟨c,rfl⟩:=p;exact y.below (aQ ⟨c,rfl⟩)) (by obtain ⟨c,rfl⟩:=p;exact o.below (aQ ⟨c,rfl⟩))).mono (R':=λi r=>i=.returned (.bool (cH a.c (aP T b)))/\aB w r) (λi r A=>by
  obtain ⟨c,rfl⟩:=p;exact ⟨A.1,(aQ ⟨c,rfl⟩).trans A.2⟩))
 have M:=F.cell;have N:=s;have O:=m;have P:=x;have Q:(b:Int)<(T.length:Int):=by omega
 have R:(0:Int)<=(b:Int):=by omega
 clear C E F y m o s l x z;generalize (aP T b).length=l1 at *;generalize a.c.length=l2 at *;generalize T.length=tn at *;generalize cH a.c (aP T b)=q at *;go_enter Tryz.func76,Tryz.ntmps76;go_wp2;go_region_held3 (λe=>e.cell? ⟨k,0,none⟩=some (.pointer (some ⟨sb,0,none⟩))/\e.cell? ⟨sb,2,none⟩=some (.slice (some ⟨u,0,none⟩) tn I)/\e.cell? ⟨u,b*6+5,none⟩=some (.slice ad l1 t)/\e.cell? ⟨j,5,none⟩=some (.slice f l2 g)) (go_keep)
  (first
   |(go_at_call 77;refine (aC G _ (by first|exact ⟨0,rfl⟩|exact ⟨1,rfl⟩|exact ⟨_,rfl⟩)).mono ?_;rintro i r ⟨rfl,d⟩;have S:=aD d M;have U:=aD d N;have V:=aD d O;have X:=aD d P;have H:=aA d;clear d)
   |go_in)
 go_wp2;go_ret;exact ⟨rfl,H.o⟩
theorem aZ7(B sb hp:Nat)(v vs vk:Value)(L:List Cd)(n:Nat)(T:List (aK×Value))(ks:List Nat)(big:Bool)(ad:Option Addr)(c:Nat)(a:List Lt)(w:World)(g:bI B w sb hp v vs vk L n T ks big)(l:bN B w (.slice ad a.length c) a)(m:∀b∈ks,lM (aP T b) a)(p:∀b∈ks,b<T.length)(u:ks.length<=1000000):Calls zv 73 #[.pointer (some ⟨sb,0,none⟩),.slice ad a.length c] w λj z=>j=.returned (.bool (ks.any λb=>cH (aP T b) a))/\aB w z:=by
 obtain ⟨x,y,rfl⟩:=g.kp.shape;have e:aB w ((w.alloc (.cells #[.pointer (some ⟨sb,0,none⟩)] 72)).alloc (.cells #[.slice ad a.length c] 29)):=((Below.refl _ w).alloc (zy _) _).alloc (by simp) _;have q:Boxed ((w.alloc (.cells #[.pointer (some ⟨sb,0,none⟩)] 72)).alloc (.cells #[.slice ad a.length c] 29)) w.heap.size 72 (.pointer (some ⟨sb,0,none⟩)):=(Below.heap_alloc _ _ _ (by simp)).trans (zx w _);have r:Boxed ((w.alloc (.cells #[.pointer (some ⟨sb,0,none⟩)] 72)).alloc (.cells #[.slice ad a.length c] 29)) (w.heap.size+1) 29 (.slice ad a.length c):=by have:=zx (w.alloc (.cells #[.pointer (some ⟨sb,0,none⟩)] 72)) (.cells #[.slice ad a.length c] 29);rwa [World.size_alloc] at this
 have d:=g.below e;have s:=aA (aYc B w.heap.size (w.heap.size+1) (λb=>cH (aP T b) a) x y ks _ d.kp u (λb o A f=>aZ6 B sb hp v vs _ L n T ks big w.heap.size (w.heap.size+1) b (.slice ad a.length c) a A (d.below f) ((bR (S:=bO) f).boxed q (by decide)) ((bR (S:=bO) f).boxed r (by decide)) ((l.below e).below f) (m b o) (p b o)));obtain ⟨_,_,_,C,_⟩:=d.cells;have i:=aA e;clear g l d q r e p m;go_enter Tryz.func73,Tryz.ntmps73;go_wp2_with (first
  |(go_at_call 98;refine (aC s).mono ?_;rintro j D ⟨rfl,k⟩;have t:=aA (i.o.trans (k.mono (by have:=i.o.size;simpa using this)));clear k)
  |go_in)
 go_ret;exact ⟨rfl,t.o⟩
