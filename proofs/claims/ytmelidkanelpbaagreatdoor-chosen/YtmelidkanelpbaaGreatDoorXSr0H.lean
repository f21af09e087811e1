import Derived.Test.YtmelidkanelpbaaGreatDoorXHp0H
import Derived.Test.YtmelidkanelpbaaGreatDoorVRes1H
import Derived.Test.YtmelidkanelpbaaGreatDoorXIntsH
open Array renaming getElem?_eq_some_iff→zz,getElem?_eq_getElem→zt,getElem_modify_self→zs,size_modify→zq
open List renaming mem_or_eq_of_mem_set→zx,getElem_mem→zu
open Nat renaming le_refl→zy,le_trans→zp
namespace Go.Proofs.YtmelidkanelpbaaGreatDoor
open _root_.Go.Proofs.Tryz renaming prog→zv
open World renaming alloc_heap_new→zw,cell?→zr
set_option maxHeartbeats 8000000
set_option maxRecDepth 100000
open Go.RowKit Go.Shelf Go.WideMaps
variable{big:Bool}{x:Cd}{T:List (aK×Value)}{L:List Cd}{ks:List Nat}{B b hp n sb:Nat}{ad:Option Addr}{v vk vs:Value}{W w w':World}
structure bN(B:Nat)(W:World)(sb hp:Nat)(v vs vk:Value)(L:List Cd)(n:Nat)(T:List (aK×Value))(ks:List Nat)(big:Bool):Prop where
 box:W.heap[sb]?=some (.cells #[.pointer (some ⟨hp,0,none⟩),.int .i64 (n:Nat),vs,vk,.bool big] 76 (0,0))
 heap:cG B W hp v L
 st:gS B W vs T
 kp:dO B W vk ks
 cl:∀x∈L,bR B W (.slice x.ad x.ln x.cp) x.c/\x.ln=x.c.length
 base:B<=sb
theorem bN.cells(a:bN B W sb hp v vs vk L n T ks big):W.cell? ⟨sb,0,none⟩=some (.pointer (some ⟨hp,0,none⟩))/\W.cell? ⟨sb,1,none⟩=some (.int .i64 (n:Nat))/\W.cell? ⟨sb,2,none⟩=some vs/\W.cell? ⟨sb,3,none⟩=some vk/\W.cell? ⟨sb,4,none⟩=some (.bool big):=by
 refine ⟨?_,?_,?_,?_,?_⟩<;>simp [zr,a.box]
theorem bN.frz(a:bN B W sb hp v vs vk L n T ks big)(c:Nat):W.frozen? ⟨sb,c,none⟩=false:=by simp [World.frozen?,a.box]
theorem bN.below{d:World}(a:bN B W sb hp v vs vk L n T ks big)(c:aB W d):bN B d sb hp v vs vk L n T ks big:=
 ⟨(c.block _ (zz.1 a.box).1).trans a.box,a.heap.below c,a.st.kept (S:=[]) (bW c) (by simp) (by simp) (by simp),bG a.kp c (zy _),λx e=>⟨(a.cl x e).1.below c,(a.cl x e).2⟩,a.base⟩
def qI(a:aK)(ad:Option Addr)(c:Nat):Value:=.agg #[.int .i64 a.r,.int .i64 a.a,.int .i64 a.b,.int .i64 a.i,.int .i64 a.j,.slice ad a.c.length c]
def eD(a:aK)(ad:Option Addr)(c n:Nat):Cd:=⟨a.r,a.a,a.b,a.i,a.j,ad,a.c.length,c,(aR a.c+a.c.length:Nat),(n:Nat),a.c⟩
theorem bR.rows{g:Nat}{e:List Lt}(i:bR B w (.slice ad n g) e)(z:kU e):∃a:List (Lt×Value),a.map Prod.fst=e/\n=a.length/\a.length<=g/\(∀d (i:d<a.length),∃f,ad=some ⟨f,0,none⟩/\w.cell? ⟨f,d*2,none⟩=some (.bool a[d].1.1)/\w.cell? ⟨f,d*2+1,none⟩=some a[d].2)/\∀k∈a,lA w k.2 k.1.2:=by
 obtain ⟨p,m,o,C,_⟩:=i;obtain ⟨D,r,c,u⟩:=tY o;simp at c;obtain ⟨rfl,rfl,rfl⟩:=c;refine ⟨p,m,rfl,?_,u,λl j=>?_⟩
 ·obtain ⟨_,⟨c,F⟩|⟨G,r,E,c,_,_,J,_⟩⟩:=o
  ·omega
  ·simp at c;omega
 ·obtain ⟨H,I,t⟩:=z.nodes (x:=l.1) (by rw [<-m];simp;exact ⟨_,j⟩);obtain ⟨q,s,c,A⟩:=vL (C l j) (by omega) (λd y=>by have:=t d y;omega);exact ⟨q,s,c,A⟩
theorem aOs(B sb:Nat)(a:aK)(ad:Option Addr)(c:Nat)(w:World)(k:bR B w (.slice ad a.c.length c) a.c)(e:kU a.c)(l:dP a.c=true):Calls zv 30 #[.pointer (some ⟨sb,0,none⟩),qI a ad c] w λi w'=>(∃u,i=.returned u)/\aB w w':=by
 have d:aB w (w.alloc (.cells #[.int .i64 a.r,.int .i64 a.a,.int .i64 a.b,.int .i64 a.i,.int .i64 a.j,.slice ad a.c.length c] 53)):=(Below.refl _ w).alloc (zy _) _;obtain ⟨t,f,m,o,p,q⟩:=(k.below d).rows e;have g:=aA (aFj ad c t _ (by have:=e.len;have:=congrArg List.length f;simp at this;omega) o p q);rw [<-m,f,l] at g;have r:=aA d;clear k e l f m o p q d;unfold qI;go_enter Tryz.func30,Tryz.ntmps30;go_wp2_with (first
  |(go_at_call 43;refine (aD g).mono ?_;rintro i y ⟨rfl,j⟩;have s:=aA (r.o.trans (j.mono (by simp)));clear j)
  |go_in)
 refine bodyPost_ret (results_none rfl _ _ _) rfl ?_;exact ⟨⟨_,rfl⟩,s.o⟩
def zR(sb hp n a:Nat)(c:aK)(ad:Option Addr)(d e:Nat)(w':World):Prop:=w'.cell? ⟨sb,0,none⟩=some (.pointer (some ⟨hp,0,none⟩))/\w'.cell? ⟨sb,1,none⟩=some (.int .i64 n)/\w'.cell? ⟨a,0,none⟩=some (.int .i64 c.r)/\w'.cell? ⟨a,1,none⟩=some (.int .i64 c.a)/\w'.cell? ⟨a,2,none⟩=some (.int .i64 c.b)/\w'.cell? ⟨a,3,none⟩=some (.int .i64 c.i)/\w'.cell? ⟨a,4,none⟩=some (.int .i64 c.j)/\w'.cell? ⟨a,5,none⟩=some (.slice ad d e)
theorem zR.of{e:Nat}{a:aK}{c d:Nat}(i:bN B w sb hp v vs vk L n T ks big)(j:w.heap[e]?=some (.cells #[.int .i64 a.r,.int .i64 a.a,.int .i64 a.b,.int .i64 a.i,.int .i64 a.j,.slice ad c d] 53 (0,0))):zR sb hp n e a ad c d w:=by obtain ⟨f,g,_⟩:=i.cells;refine ⟨f,g,?_,?_,?_,?_,?_,?_⟩<;>simp [zr,j]
theorem bN.pushed{g:Value}(a:bN B w sb hp v vs vk L n T ks big)(c:Mv [73,100] B w w'){d:List Cd}(i:cG B w' hp g d)(e:∀x∈d,bR B w (.slice x.ad x.ln x.cp) x.c/\x.ln=x.c.length):bN B w' sb hp g vs vk d n T ks big:=
 ⟨c.cells a.box (by decide),i,a.st.kept c.kps (by decide) (by decide) (by decide),c.row a.kp (by decide),λx f=>⟨c.clause (e x f).1 (by decide) (by decide),(e x f).2⟩,a.base⟩
theorem bN.counted{m:Nat}(a:bN B w sb hp v vs vk L n T ks big):bN B (w.setCell ⟨sb,1,none⟩ (.int .i64 (m:Nat))) sb hp v vs vk L m T ks big/\Mv [76] B w (w.setCell ⟨sb,1,none⟩ (.int .i64 (m:Nat))):=by have f:=(zz.1 a.box).1;have c:Mv [76] B w (w.setCell ⟨sb,1,none⟩ (.int .i64 (m:Nat))):=Mv.of_grown (cN w ⟨sb,1,none⟩ _) (λg e=>by cases e;exact ⟨a.base,_,_,a.box,by simp⟩);refine ⟨⟨?_,⟨c.cells a.heap.box (by decide),c.row a.heap.row (by decide),a.heap.base⟩,a.st.kept c.kps (by decide) (by decide) (by decide),c.row a.kp (by decide),λx d=>⟨c.clause (a.cl x d).1 (by decide) (by decide),(a.cl x d).2⟩,a.base⟩,c⟩;show (w.heap.modify sb _)[sb]?=_;rw [zt (by rw [zq];exact f),zs,(zz.1 a.box).2];rfl
theorem aC5:∀(f:Nat) (L:List Cd) (a:Nat) (x:Cd),x∈iH f L a->x∈L
 |0,_,_,_,h=>h
 |f+1,L,a,x,h=>by
  unfold iH at h;split at h
  ·split at h
   ·have:=aC5 f _ _ x h;unfold oC at this;rcases zx this with c|rfl
    ·rcases zx c with d|rfl
     ·exact d
     ·exact zu _
    ·exact zu _
   ·exact h
  ·exact h
theorem aOt(B sb hp:Nat)(v vs vk:Value)(L:List Cd)(n:Nat)(T:List (aK×Value))(ks:List Nat)(big:Bool)(a:aK)(ad:Option Addr)(c:Nat)(w:World)(a0:bN B w sb hp v vs vk L n T ks big)(z:bR B w (.slice ad a.c.length c) a.c)(g:kU a.c)(a8:dP a.c=false)(c5:L.length<=1000000)(d9:n<=1000000)(c3:B<=w.heap.size):Calls zv 30 #[.pointer (some ⟨sb,0,none⟩),qI a ad c] w λe w'=>(∃D,e=.returned D)/\∃f,bN B w' sb hp f vs vk (iH L.length (L++[eD a ad c n]) L.length) (n+1) T ks big/\Mv bU B w w':=by
 have s:aB w (w.alloc (.cells #[.int .i64 a.r,.int .i64 a.a,.int .i64 a.b,.int .i64 a.i,.int .i64 a.j,.slice ad a.c.length c] 53)):=(Below.refl _ w).alloc (zy _) _;have a9:(w.alloc (.cells #[.int .i64 a.r,.int .i64 a.a,.int .i64 a.b,.int .i64 a.i,.int .i64 a.j,.slice ad a.c.length c] 53)).heap[w.heap.size]?=some (.cells #[.int .i64 a.r,.int .i64 a.a,.int .i64 a.b,.int .i64 a.i,.int .i64 a.j,.slice ad a.c.length c] 53 (0,0)):=zw w _;obtain ⟨c1,M,b1,b2,b3,b4⟩:=(z.below s).rows g;have F:=aA (aFj ad c c1 _ (by have:=g.len;have:=congrArg List.length M;simp at this;omega) b2 b3 b4);rw [<-b1,M,a8] at F;clear M b1 b2 b3 b4;have a1:=a0.below s;have a6:=z.below s;have d8:aR a.c<=100000:=by have:=zC (m:=60) (λx hx=>(g.term x hx).2);have:=g.len;omega
 have d7:=g.len;have V:=aA g;have b6:=aA s;have P:=aA a1;have S:=aA a6;have X:=aA a9;have b7:=aA z;clear a0 z a8 a1 a6 g;unfold qI;go_enter Tryz.func30,Tryz.ntmps30;go_upto_region 2 with (first
  |(go_at_call 43;refine (aD F).mono ?_;rintro e E ⟨rfl,a4⟩;have q:=aA a4;clear a4)
  |go_in)
 have J:E.heap[w.heap.size]?=some (.cells #[.int .i64 a.r,.int .i64 a.a,.int .i64 a.b,.int .i64 a.i,.int .i64 a.j,.slice ad a.c.length c] 53 (0,0)):=(q.o.block _ (by simp)).trans X.o;have a2:=P.o.below q.o;have I:=S.o.below q.o;have a5:=bK b6.o q.o;obtain ⟨d4,d5,c2,_,Z,_⟩:=I.lits V.o;cases c2;have R:=aA a5;have Q:=aA a2;have b8:=aA I;have G:=aA J;have b5:E.cell? ⟨w.heap.size,5,none⟩=some (.slice ad a.c.length c):=by simp [zr,J]
 have N:=aA (λ(t:World) (l:∃d,t=E.drewN d)=>(aEb ad c a.c t (by obtain ⟨d,rfl⟩:=l;exact Z.drewN d) (by omega)).mono (R':=λe o=>e=.returned (.int .i64 (aR a.c))/\aB E o) (λe o A=>by
  obtain ⟨d,rfl⟩:=l;exact ⟨A.1,(aU ⟨d,rfl⟩).trans A.2⟩))
 clear a5 a2 I J Z F q P S X a9 s;generalize hcc:aR a.c=cc at *;generalize hll:a.c.length=cl at *;have b9:=aA hcc;have U:=aA hll;clear hcc hll;have d1:IntKind.i64.wrap ((cc:Int)+(cl:Int))=((cc+cl:Nat):Int):=by rw [IntKind.wrap_i64];omega
 go_region_held3 (λw'=>w'.cell? ⟨w.heap.size,5,none⟩=some (.slice ad cl c)) (go_keep)
  (first
   |(go_at_call 44;refine (aD N _ (by first|exact ⟨0,rfl⟩|exact ⟨1,rfl⟩|exact ⟨_,rfl⟩)).mono ?_;rintro e o ⟨rfl,H⟩;have d2:=aC H b5;have u:=aA H;clear H)
   |go_in)
 have i:=Q.o.below u.o;have C:=(u.o.block w.heap.size (zz.1 G.o).1).trans G.o;have a3:=zR.of i C;have c6:=a3;obtain ⟨e8,e9,f0,f1,f2,f3,f4,f5⟩:=a3;have hx:(eD a ad c n).agg=.agg #[.int .i64 a.r,.int .i64 a.a,.int .i64 a.b,.int .i64 a.i,.int .i64 a.j,.slice ad cl c,.int .i64 ((cc+cl:Nat):Int),.int .i64 (n:Nat)]:=by unfold eD Cd.agg;rw [b9.o,U.o]
 have y:=bK R.o u.o;have O:=aA (λ(t:World) (l:∃d,t=o.drewN d)=>(bDk B hp v L (eD a ad c n) t (by obtain ⟨d,rfl⟩:=l;exact i.heap.below (aU ⟨d,rfl⟩)) c5 (by obtain ⟨d,rfl⟩:=l;exact zp c3 y.size)).mono (R':=λe p=>(∃D,e=.returned D)/\∃f,bN B p sb hp f vs vk (iH L.length (L++[eD a ad c n]) L.length) n T ks big/\Mv bU B w p/\zR sb hp n w.heap.size a ad cl c p) (λe p A=>by
  obtain ⟨d,rfl⟩:=l;obtain ⟨d0,f,c4,k⟩:=A;have j:aB o (o.drewN d):=aU ⟨d,rfl⟩;have r:bN B p sb hp f vs vk (iH L.length (L++[eD a ad c n]) L.length) n T ks big:=(i.below j).pushed k c4 (λx hx=>by
   rcases List.mem_append.1 (aC5 _ _ _ _ hx) with hx|hx
   ·exact ⟨((i.below j).cl x hx).1,((i.below j).cl x hx).2⟩
   ·simp at hx;subst hx;refine ⟨?_,rfl⟩;show bR B _ (.slice ad a.c.length c) a.c;rw [U.o];exact (b7.o.below y).below j)
  have c9:=k.cells ((j.block w.heap.size (zz.1 C).1).trans C) (by decide);have c7:=zR.of r c9;exact ⟨d0,f,r,(Mv.of_below y).trans ((Mv.of_below j).trans (k.mono (by decide) (zy _))),c7⟩))
 rw [hx] at O;have b0:wrap64 ((n:Int)+1)=((n+1:Nat):Int):=by unfold wrap64;omega
 have d3:=aA b0;clear hx i C c6 y d2 b5 N u Q G R b8 V d1 b0;go_wp2;go_region_held3 (λw'=>w'.cell? ⟨sb,0,none⟩=some (.pointer (some ⟨hp,0,none⟩))/\w'.cell? ⟨sb,1,none⟩=some (.int .i64 n)/\w'.cell? ⟨w.heap.size,0,none⟩=some (.int .i64 a.r)/\w'.cell? ⟨w.heap.size,1,none⟩=some (.int .i64 a.a)/\w'.cell? ⟨w.heap.size,2,none⟩=some (.int .i64 a.b)/\w'.cell? ⟨w.heap.size,3,none⟩=some (.int .i64 a.i)/\w'.cell? ⟨w.heap.size,4,none⟩=some (.int .i64 a.j)/\w'.cell? ⟨w.heap.size,5,none⟩=some (.slice ad cl c)) (go_keep)
  (first
   |(go_at_call 45;refine (aD O _ (by first|exact ⟨0,rfl⟩|exact ⟨1,rfl⟩|exact ⟨_,rfl⟩)).mono ?_;rintro e p ⟨⟨D,rfl⟩,f,r,k,c8⟩;obtain ⟨e0,e1,e2,e3,e4,e5,e6,e7⟩:=c8;have Y:=aA r;have c0:=aA k;clear r k)
   |go_in)
 have d6:=Y.o.frz;go_wp2;go_end0;have a7:=Y.o.counted (m:=n+1);exact ⟨⟨_,rfl⟩,f,a7.1,c0.o.trans (a7.2.mono (by decide) (zy _))⟩
open Classical in
noncomputable def bC(a c:List Lt):Bool:=decide (a.length<=c.length/\gN c a [])
open Classical in
theorem aOu{a c:List Lt}{e:Bool}(f:e=true↔a.length<=c.length/\gN c a []):e=bC a c:=by
 unfold bC;by_cases d:a.length<=c.length/\gN c a []
 ·rw [fC d];exact f.2 d
 ·rw [gB d];cases e
  ·rfl
  ·exact absurd (f.1 rfl) d
def kH(a c:List Lt):Prop:=∀(B:Nat) (d e:Option Addr) (f g:Nat) (w:World),bR B w (.slice d a.length f) a->bR B w (.slice e c.length g) c->
 Calls zv 51 #[.slice d a.length f,.slice e c.length g] w λi w'=>i=.returned (.bool (bC a c))/\aB w w'
def aC6(d e sb a n i j:Nat)(ad c:Option Addr)(k f l g:Nat)(w':World):Prop:=w'.cell? ⟨d,0,none⟩=some (.pointer (some ⟨sb,0,none⟩))/\w'.cell? ⟨sb,2,none⟩=some (.slice (some ⟨a,0,none⟩) n i)/\w'.cell? ⟨a,j*6+5,none⟩=some (.slice ad k f)/\w'.cell? ⟨e,0,none⟩=some (.slice c l g)
theorem aC6.below{d e j i k:Nat}{c:Option Addr}{l f m g:Nat}(o:aC6 d e sb j n i k ad c l f m g w)(a:aB w w'):aC6 d e sb j n i k ad c l f m g w':=by obtain ⟨p,q,r,s⟩:=o;exact ⟨aC a p,aC a q,aC a r,aC a s⟩
theorem bE7(B sb hp:Nat)(v vs vk:Value)(L:List Cd)(n:Nat)(T:List (aK×Value))(ks:List Nat)(big:Bool)(f g a:Nat)(F:Value)(c:List Lt)(w:World)(m:bN B w sb hp v vs vk L n T ks big)(H:Boxed w f 47 (.pointer (some ⟨sb,0,none⟩)))(I:Boxed w g 51 F)(p:bR B w F c)(D:kH (aE T a) c)(r:a<T.length):Calls zv 75 #[.int .i64 (a:Nat),.pointer (some ⟨f,0,none⟩),.pointer (some ⟨g,0,none⟩)] w λe w'=>e=.returned (.bool (bC (aE T a) c))/\aB w w':=by
 obtain ⟨l,A,ad,j,rfl,O,s,t⟩:=m.st.cell r;clear O;rw [<-jS r] at s t;obtain ⟨i,k,rfl⟩:=p.shape;obtain ⟨_,_,z,_,_⟩:=m.cells;have C:aC6 f g sb l T.length A a ad i (aE T a).length j c.length k w:=⟨H.cell,z,s,I.cell⟩;have J:=aA (λ(G:World) (u:∃d,G=w.drewN d)=>(D B ad i j k G (by obtain ⟨d,rfl⟩:=u;exact t.below (aU ⟨d,rfl⟩)) (by obtain ⟨d,rfl⟩:=u;exact p.below (aU ⟨d,rfl⟩))).mono (R':=λe y=>e=.returned (.bool (bC (aE T a) c))/\aB w y) (λe y E=>by
  obtain ⟨d,rfl⟩:=u;exact ⟨E.1,(aU ⟨d,rfl⟩).trans E.2⟩))
 have N:=aA C;obtain ⟨X,Y,Z,a0⟩:=C;have P:(a:Int)<(T.length:Int):=by omega
 have Q:(0:Int)<=(a:Int):=by omega
 clear m H I p s t z r D;generalize (aE T a).length=l1 at *;generalize c.length=l2 at *;generalize T.length=tn at *;generalize bC (aE T a) c=q at *;go_enter Tryz.func75,Tryz.ntmps75;go_wp2;go_region_held3 (λw'=>w'.cell? ⟨f,0,none⟩=some (.pointer (some ⟨sb,0,none⟩))/\w'.cell? ⟨sb,2,none⟩=some (.slice (some ⟨l,0,none⟩) tn A)/\w'.cell? ⟨l,a*6+5,none⟩=some (.slice ad l1 j)/\w'.cell? ⟨g,0,none⟩=some (.slice i l2 k)) (go_keep)
  (first
   |(go_at_call 51;refine (aD J _ (by first|exact ⟨0,rfl⟩|exact ⟨1,rfl⟩|exact ⟨_,rfl⟩)).mono ?_;rintro e y ⟨rfl,o⟩;obtain ⟨R,S,U,V⟩:=N.o.below o;have M:=aA o;clear o)
   |go_in)
 go_wp2;go_ret;exact ⟨rfl,M.o⟩
theorem aOv(B sb:Nat)(vs:Value)(T:List (aK×Value))(j k c:Nat)(a:aK)(f:Option Addr)(g:Nat)(w:World)(s:w.cell? ⟨sb,2,none⟩=some vs)(D:gS B w vs T)(F:w.heap[j]?=some (.cells #[.int .i64 a.r,.int .i64 a.a,.int .i64 a.b,.int .i64 a.i,.int .i64 a.j,.slice f a.c.length g] 53 (0,0)))(G:Boxed w k 47 (.pointer (some ⟨sb,0,none⟩)))(z:bR B w (.slice f a.c.length g) a.c)(A:kH a.c (aE T c))(l:c<T.length):Calls zv 50 #[.int .i64 (c:Nat),.pointer (some ⟨j,0,none⟩),.pointer (some ⟨k,0,none⟩)] w λi w'=>i=.returned (.bool (bC a.c (aE T c)))/\aB w w':=by
 obtain ⟨u,J,ad,t,rfl,M,m,o⟩:=D.cell l;clear M;rw [<-jS l] at m o;have y:w.cell? ⟨j,5,none⟩=some (.slice f a.c.length g):=by simp [zr,F]
 have H:=aA (λ(E:World) (p:∃d,E=w.drewN d)=>(A B f ad g t E (by obtain ⟨d,rfl⟩:=p;exact z.below (aU ⟨d,rfl⟩)) (by obtain ⟨d,rfl⟩:=p;exact o.below (aU ⟨d,rfl⟩))).mono (R':=λi r=>i=.returned (.bool (bC a.c (aE T c)))/\aB w r) (λi r C=>by
  obtain ⟨d,rfl⟩:=p;exact ⟨C.1,(aU ⟨d,rfl⟩).trans C.2⟩))
 have N:=G.cell;have O:=s;have P:=m;have Q:=y;have R:(c:Int)<(T.length:Int):=by omega
 have S:(0:Int)<=(c:Int):=by omega
 clear D F G z m o s l y A;generalize (aE T c).length=l1 at *;generalize a.c.length=l2 at *;generalize T.length=tn at *;generalize bC a.c (aE T c)=q at *;go_enter Tryz.func50,Tryz.ntmps50;go_wp2;go_region_held3 (λw'=>w'.cell? ⟨k,0,none⟩=some (.pointer (some ⟨sb,0,none⟩))/\w'.cell? ⟨sb,2,none⟩=some (.slice (some ⟨u,0,none⟩) tn J)/\w'.cell? ⟨u,c*6+5,none⟩=some (.slice ad l1 t)/\w'.cell? ⟨j,5,none⟩=some (.slice f l2 g)) (go_keep)
  (first
   |(go_at_call 51;refine (aD H _ (by first|exact ⟨0,rfl⟩|exact ⟨1,rfl⟩|exact ⟨_,rfl⟩)).mono ?_;rintro i r ⟨rfl,e⟩;have U:=aC e N;have V:=aC e O;have X:=aC e P;have Y:=aC e Q;have I:=aA e;clear e)
   |go_in)
 go_wp2;go_ret;exact ⟨rfl,I.o⟩
theorem bE8(B sb hp:Nat)(v vs vk:Value)(L:List Cd)(n:Nat)(T:List (aK×Value))(ks:List Nat)(big:Bool)(ad:Option Addr)(d:Nat)(a:List Lt)(w:World)(i:bN B w sb hp v vs vk L n T ks big)(m:bR B w (.slice ad a.length d) a)(o:∀c∈ks,kH (aE T c) a)(q:∀c∈ks,c<T.length)(y:ks.length<=1000000):Calls zv 47 #[.pointer (some ⟨sb,0,none⟩),.slice ad a.length d] w λk w'=>k=.returned (.bool (ks.any λc=>bC (aE T c) a))/\aB w w':=by
 obtain ⟨z,A,rfl⟩:=i.kp.shape;have f:aB w ((w.alloc (.cells #[.pointer (some ⟨sb,0,none⟩)] 47)).alloc (.cells #[.slice ad a.length d] 51)):=((Below.refl _ w).alloc (zy _) _).alloc (by simp) _;have r:Boxed ((w.alloc (.cells #[.pointer (some ⟨sb,0,none⟩)] 47)).alloc (.cells #[.slice ad a.length d] 51)) w.heap.size 47 (.pointer (some ⟨sb,0,none⟩)):=(Below.heap_alloc _ _ _ (by simp)).trans (zw w _);have s:Boxed ((w.alloc (.cells #[.pointer (some ⟨sb,0,none⟩)] 47)).alloc (.cells #[.slice ad a.length d] 51)) (w.heap.size+1) 51 (.slice ad a.length d):=by have:=zw (w.alloc (.cells #[.pointer (some ⟨sb,0,none⟩)] 47)) (.cells #[.slice ad a.length d] 51);rwa [World.size_alloc] at this
 have e:=i.below f;have t:=aA (bDq B w.heap.size (w.heap.size+1) (λc=>bC (aE T c) a) z A ks _ e.kp y (λc p C g=>bE7 B sb hp v vs _ L n T ks big w.heap.size (w.heap.size+1) c (.slice ad a.length d) a C (e.below g) ((bW (S:=bU) g).boxed r (by decide)) ((bW (S:=bU) g).boxed s (by decide)) ((m.below f).below g) (o c p) (q c p)));obtain ⟨_,_,_,D,_⟩:=e.cells;have j:=aA f;clear i m e r s f q o;go_enter Tryz.func47,Tryz.ntmps47;go_wp2_with (first
  |(go_at_call 74;refine (aD t).mono ?_;rintro k E ⟨rfl,l⟩;have u:=aA (j.o.trans (l.mono (by have:=j.o.size;simpa using this)));clear l)
  |go_in)
 go_ret;exact ⟨rfl,u.o⟩
theorem aOw:∀(f:Nat) (L:List Cd) (a:Nat) (x:Cd),x∈kY f L a->x∈L
 |0,_,_,_,h=>h
 |f+1,L,a,x,h=>by
  unfold kY at h;split at h
  ·have:=aOw f _ _ x h;unfold oC at this;rcases zx this with c|rfl
   ·rcases zx c with d|rfl
    ·exact d
    ·exact zu _
   ·exact zu _
  ·exact h
theorem zS(a:x∈jU L):x∈L:=by
 unfold jU at a;cases hl:L.getLast? with
 |none=>rw [hl] at a;simp at a
 |some y=>
  rw [hl] at a;have c:=List.mem_of_mem_take (aOw _ _ _ _ a);rcases zx c with d|rfl
  ·exact d
  ·exact List.mem_of_getLast? hl
theorem bE9(L:List Cd):(jU L).length=L.length-1:=by
 unfold jU;cases hl:L.getLast? with
 |none=>rw [List.getLast?_eq_none_iff.1 hl];rfl
 |some y=>simp only;rw [aOa];simp
def eH(a:List Lt->Bool):Nat->List Cd->Option (Cd×List Cd)
 |0,_=>none
 |f+1,L=>match L with
  |[]=>none
  |x::r=>if a x.c then eH a f (jU (x::r)) else some (x,jU (x::r))
def aC7(w:World)(hp:Nat):Nat:=match w.cell? ⟨hp,0,none⟩ with|some (.slice _ n _)=>n|_=>0
theorem cG.len(d:cG B w hp v L):aC7 w hp=L.length:=by obtain ⟨a,c,rfl⟩:=bA d.row;unfold aC7;rw [d.c0.1]
def tS(x:Cd):Value:=.agg #[.int .i64 x.r,.int .i64 x.a,.int .i64 x.b,.int .i64 x.i,.int .i64 x.j,.slice x.ad x.ln x.cp]
def bEa(B:Nat)(w:World)(sb hp:Nat)(vs vk:Value)(L:List Cd)(n:Nat)(T:List (aK×Value))(ks:List Nat)(big:Bool)(e:Ending)(w':World):Prop:=
 ∃f,Mv bU B w w'/\((eH (λa=>ks.any λc=>bC (aE T c) a) L.length L=none/\e=.returned (.tuple #[tS iJ,.bool false])/\bN B w' sb hp f vs vk [] n T ks big)\/
  ∃x d,eH (λa=>ks.any λc=>bC (aE T c) a) L.length L=some (x,d)/\e=.returned (.tuple #[tS x,.bool true])/\bN B w' sb hp f vs vk d n T ks big/\bR B w' (.slice x.ad x.ln x.cp) x.c/\x.ln=x.c.length)
def S6(w:World)(b:Nat)(x:Cd):Prop:=w.heap[b]?=some (.cells #[.int .i64 x.r,.int .i64 x.a,.int .i64 x.b,.int .i64 x.i,.int .i64 x.j,.slice x.ad x.ln x.cp] 53 (0,0))
def vJ(w:World)(b:Nat)(x:Cd):World:=((((((w.setCell ⟨b,0,none⟩ (.int .i64 x.r)).setCell ⟨b,1,none⟩ (.int .i64 x.a)).setCell ⟨b,2,none⟩ (.int .i64 x.b)).setCell ⟨b,3,none⟩ (.int .i64 x.i)).setCell ⟨b,4,none⟩ (.int .i64 x.j)).setCell ⟨b,5,none⟩ (.slice x.ad x.ln x.cp))
theorem S6.cells(a:S6 w b x):w.cell? ⟨b,0,none⟩=some (.int .i64 x.r)/\w.cell? ⟨b,1,none⟩=some (.int .i64 x.a)/\w.cell? ⟨b,2,none⟩=some (.int .i64 x.b)/\w.cell? ⟨b,3,none⟩=some (.int .i64 x.i)/\w.cell? ⟨b,4,none⟩=some (.int .i64 x.j)/\w.cell? ⟨b,5,none⟩=some (.slice x.ad x.ln x.cp):=by refine ⟨?_,?_,?_,?_,?_,?_⟩<;>simp [zr,show w.heap[b]?=_ from a]
theorem S6.frz(a:S6 w b x)(c:Nat):w.frozen? ⟨b,c,none⟩=false:=by simp [World.frozen?,show w.heap[b]?=_ from a]
theorem S6.below(a:S6 w b x)(c:aB w w'):S6 w' b x:=(c.block b (zz.1 a).1).trans a
theorem S6.put{y:Cd}(c:S6 w b x):S6 (vJ w b y) b y/\w.grownBy (vJ w b y) (some b):=by
 have d:∀(a:World) (f:Array Value) (k:Nat) (v:Value),a.heap[b]?=some (.cells f 53 (0,0))->(a.setCell ⟨b,k,none⟩ v).heap[b]?=some (.cells (f.setIfInBounds k v) 53 (0,0)):=λa f k v e=>by
  have g:=(zz.1 e).1;show (a.heap.modify b _)[b]?=_;rw [zt (by rw [zq];exact g),zs,(zz.1 e).2];rfl
 constructor
 ·unfold S6 vJ;rw [d _ _ 5 _ (d _ _ 4 _ (d _ _ 3 _ (d _ _ 2 _ (d _ _ 1 _ (d _ _ 0 _ c)))))];simp
 ·unfold vJ;have c:∀(a:World) (k:Nat) (v:Value),w.grownBy a (some b)->w.grownBy (a.setCell ⟨b,k,none⟩ v) (some b):=λa k v e=>lP e (cN a ⟨b,k,none⟩ v)
  exact c _ _ _ (c _ _ _ (c _ _ _ (c _ _ _ (c _ _ _ (c _ _ _ ⟨rfl,rfl,rfl,zy _,λ_ _ _=>rfl⟩)))))
theorem Mv.newput{d:List TypeId}{i j:World}{g:Nat}(a:Mv d B w i)(c:i.grownBy j (some g))(o:w.heap.size<=g):Mv d B w j:=
 ⟨c.os.trans a.os,c.tape.trans a.tape,c.output.trans a.output,zp a.size c.size,λf m e l=>by
  have k:=(zz.1 e).1;exact (c.block f (Nat.lt_of_lt_of_le k a.size) (by simp;omega)).trans (a.keep f m e l)⟩
theorem bN.other{d:Nat}(a:bN B w sb hp v vs vk L n T ks big)(e:w.grownBy w' (some d))(j:S6 w d x)(i:vs.ownBlock≠some d):bN B w' sb hp v vs vk L n T ks big:=by have c:Mv [53] 0 w w':=Mv.of_grown e (λl g=>by cases g;exact ⟨Nat.zero_le _,_,_,j,by simp⟩);exact ⟨c.cells a.box (by decide),⟨c.cells a.heap.box (by decide),c.row a.heap.row (by decide),a.heap.base⟩,⟨dQ a.st.row e (Or.inr i),λk hp=>c.clause (a.st.cl k hp) (by decide) (by decide)⟩,c.row a.kp (by decide),λx f=>⟨c.clause (a.cl x f).1 (by decide) (by decide),(a.cl x f).2⟩,a.base⟩
theorem bEb(B sb hp:Nat)(v vs vk:Value)(L:List Cd)(n:Nat)(T:List (aK×Value))(ks:List Nat)(big:Bool)(w:World)(b1:bN B w sb hp v vs vk L n T ks big)(b5:∀x∈L,∀d∈ks,kH (aE T d) x.c)(b6:∀d∈ks,d<T.length)(d8:ks.length<=1000000)(f2:L.length<=1000000)(d2:B<=w.heap.size):Calls zv 31 #[.pointer (some ⟨sb,0,none⟩)] w λe w'=>bEa B w sb hp vs vk L n T ks big e w':=by
 have b0:=aA b1;have c5:=aA b6;have c4:=aA b5;clear b1 b6 b5;go_enter Tryz.func31,Tryz.ntmps31;go_wp2;go_loopw [] (λwr=>∃(i:Nat) (o:List Cd) (E:Value),bN B wr sb hp E vs vk o n T ks big/\o.length<=i/\o.length<=L.length/\(∀x∈o,x∈L)/\eH (λl=>ks.any λd=>bC (aE T d) l) i o=eH (λl=>ks.any λd=>bC (aE T d) l) L.length L/\Mv bU B w wr/\w.heap.size<wr.heap.size/\S6 wr w.heap.size iJ) (λwr=>aC7 wr hp);case atStart=>
  have b3:aB w (w.alloc (.cells #[.int .i64 0,.int .i64 0,.int .i64 0,.int .i64 0,.int .i64 0,.slice none 0 0] 53)):=(Below.refl _ w).alloc (zy _) _;exact ⟨L.length,L,v,b0.o.below b3,zy _,zy _,λ_ V=>V,rfl,Mv.of_below b3,by simp,zw w _⟩
 case round=>
  obtain ⟨i,o,E,j,Z,d3,U,D,R,e3,Q⟩:=hrel;obtain ⟨f1,_,_,_,_⟩:=j.cells;have c1:vs.ownBlock≠some w.heap.size:=λe=>by have:=(cU b0.o.st.row _ e).2;omega
  cases o with
  |nil=>
   have p:=aA (bDm B hp E wr j.heap);unfold Cd.agg iJ at p;have c3:=aA j;have I:=aA R;have b8:eH (λl=>ks.any λd=>bC (aE T d) l) L.length L=none:=by rw [<-D];cases i<;>rfl
   have q:=aA b8;have c2:=aA Q;clear j R D U Q b8;simp only at p;go_wp2_with (first
    |(go_at_call 46;refine (aD p).mono ?_;rintro e a ⟨rfl,P⟩;have f:=aA (λc=>c2.o.below (P.alloc P.size c));obtain ⟨e4,e5,e6,e7,e8,e9⟩ : (∀c,(a.alloc c).cell? ⟨w.heap.size,0,none⟩=some (.int .i64 0))/\(∀c,(a.alloc c).cell? ⟨w.heap.size,1,none⟩=some (.int .i64 0))/\(∀c,(a.alloc c).cell? ⟨w.heap.size,2,none⟩=some (.int .i64 0))/\(∀c,(a.alloc c).cell? ⟨w.heap.size,3,none⟩=some (.int .i64 0))/\(∀c,(a.alloc c).cell? ⟨w.heap.size,4,none⟩=some (.int .i64 0))/\(∀c,(a.alloc c).cell? ⟨w.heap.size,5,none⟩=some (.slice none 0 0)):=⟨λc=>(f.o c).cells.1,λc=>(f.o c).cells.2.1,λc=>(f.o c).cells.2.2.1,λc=>(f.o c).cells.2.2.2.1,λc=>(f.o c).cells.2.2.2.2.1,λc=>(f.o c).cells.2.2.2.2.2⟩;have f0:∀c d,(a.alloc c).frozen? ⟨w.heap.size,d,none⟩=false:=(λc d=>(f.o c).frz d);have a9:=aA P;clear P)
    |go_in)
   have b2:=f.o (.cells #[.int .i64 0,.int .i64 0,.int .i64 0,.int .i64 0,.int .i64 0,.slice none 0 0,.int .i64 0,.int .i64 0] 73);have k:aB wr (a.alloc (.cells #[.int .i64 0,.int .i64 0,.int .i64 0,.int .i64 0,.int .i64 0,.slice none 0 0,.int .i64 0,.int .i64 0] 73)):=a9.o.alloc a9.o.size _;obtain ⟨a0,t⟩:=b2.put (y:=iJ);obtain ⟨a3,a4,a5,a6,a7,a8⟩:=a0.cells;refine bodyPost_ret (v:=.tuple #[tS iJ,.bool false]) (w:=vJ (a.alloc (.cells #[.int .i64 0,.int .i64 0,.int .i64 0,.int .i64 0,.int .i64 0,.slice none 0 0,.int .i64 0,.int .i64 0] 73)) w.heap.size iJ) (by simp [results,Tryz.results31,go_sem,a3,a4,a5,a6,a7,a8,tS];try rfl) rfl ?_;exact ⟨E,(I.o.trans (Mv.of_below k)).newput t (zy _),.inl ⟨q.o,rfl,(c3.o.below k).other t b2 c1⟩⟩
  |cons x r=>
   have V:∀d∈ks,kH (aE T d) x.c:=c4.o x (U x (by simp));have a1:=j.cl x (by simp);have S:=bE9 (x::r);have p:=aA ((bDn B hp E (x::r) wr j.heap (by simp) (by omega) (zp d2 (Nat.le_of_lt e3))).mono (R':=λe a=>e=.returned (.tuple #[.agg #[.int .i64 x.r,.int .i64 x.a,.int .i64 x.b,.int .i64 x.i,.int .i64 x.j,.slice x.ad x.ln x.cp,.int .i64 x.wt,.int .i64 x.nm],.bool true])/\∃g,bN B a sb hp g vs vk (jU (x::r)) n T ks big/\Mv bU B wr a/\bR B a (.slice x.ad x.ln x.cp) x.c/\S6 a w.heap.size iJ) (λe a d6=>by
    obtain ⟨d0,g,d1,N⟩:=d6;exact ⟨d0,g,j.pushed N d1 (λF a2=>j.cl F (zS a2)),N.mono (by decide) (zy _),N.clause a1.1 (by decide) (by decide),N.cells Q (by decide)⟩))
   obtain ⟨i,rfl⟩ : ∃c9,i=c9+1:=⟨i-1,by simp at Z;omega⟩;have b9:eH (λl=>ks.any λd=>bC (aE T d) l) (i+1) (x::r)=if (ks.any λd=>bC (aE T d) x.c) then eH (λl=>ks.any λd=>bC (aE T d) l) i (jU (x::r)) else some (x,jU (x::r)):=rfl
   rw [b9] at D;have b7:aC7 wr hp=(x::r).length:=j.heap.len;have c0:∀F∈jU (x::r),F∈L:=λF a2=>U F (zS a2)
   have d9:(jU (x::r)).length<=i:=by rw [S];simp at Z ⊢;exact Z
   have e0:(jU (x::r)).length<=L.length:=by rw [S];simp at d3 ⊢;omega
   have e1:(jU (x::r)).length<(x::r).length:=by rw [S];simp
   generalize hpp:jU (x::r)=M' at *;generalize hmm:(x::r).length=ml at *;have I:=aA R;have q:=aA D;have c7:=aA c0;have c6:=aA b7;have Y:=aA a1.2;have c8:=aA V;clear j R D U Q b9 S hpp hmm c0 V a1 b7;have G:=aA (λ(a:World) (g:Value) (d4:bN B a sb hp g vs vk M' n T ks big) (d5:bR B a (.slice x.ad x.ln x.cp) x.c) (c:Obj)=>(show Calls zv 47 #[.pointer (some ⟨sb,0,none⟩),.slice x.ad x.ln x.cp] (a.alloc c) λe w'=>e=.returned (.bool (ks.any λd=>bC (aE T d) x.c))/\Below (a.alloc c).heap.size (a.alloc c) w' from by
    have b4:aB a (a.alloc c):=(Below.refl _ a).alloc (zy _) c;have:=bE8 B sb hp g vs vk M' n T ks big x.ad x.cp x.c (a.alloc c) (d4.below b4) (by rw [<-Y.o];exact d5.below b4) c8.o c5.o d8;rw [<-Y.o] at this;exact this))
   cases hcov:(ks.any λd=>bC (aE T d) x.c)
   ·rw [hcov] at G q;clear hcov;go_wp2_with (first
     |(go_at_call 47;refine (aD G a g s.o H.o _).mono ?_;rintro e u ⟨rfl,k⟩;obtain ⟨f6,f7,f8,f9,g0,g1,_,_⟩:=((show jG (a.alloc (.cells #[.int .i64 x.r,.int .i64 x.a,.int .i64 x.b,.int .i64 x.i,.int .i64 x.j,.slice x.ad x.ln x.cp,.int .i64 x.wt,.int .i64 x.nm] 73)) a.heap.size x from zw a _).below k).cells;have O:=(M.o.below ((Below.refl _ a).alloc (zy _) (.cells #[.int .i64 x.r,.int .i64 x.a,.int .i64 x.b,.int .i64 x.i,.int .i64 x.j,.slice x.ad x.ln x.cp,.int .i64 x.wt,.int .i64 x.nm] 73))).below k;obtain ⟨e4,e5,e6,e7,e8,e9⟩:=O.cells;have f0:=O.frz;have f:=aA O;have X:=aA k;clear k O)
     |(go_at_call 46;refine (aD p).mono ?_;rintro e a ⟨rfl,g,z,C,A,y⟩;have s:=aA z;have H:=aA A;have M:=aA y;have J:=aA (I.o.trans C);clear z A y C)
     |go_in)
    have m:aB a u:=((Below.refl _ a).alloc (zy _) (.cells #[.int .i64 x.r,.int .i64 x.a,.int .i64 x.b,.int .i64 x.i,.int .i64 x.j,.slice x.ad x.ln x.cp,.int .i64 x.wt,.int .i64 x.nm] 73)).trans (X.o.mono (by simp));obtain ⟨a0,t⟩:=f.o.put (y:=x);obtain ⟨a3,a4,a5,a6,a7,a8⟩:=a0.cells;refine bodyPost_ret (v:=.tuple #[tS x,.bool true]) (w:=vJ u w.heap.size x) (by simp [results,Tryz.results31,go_sem,a3,a4,a5,a6,a7,a8,tS];try rfl) rfl ?_;have e2:Mv [53] 0 u (vJ u w.heap.size x):=Mv.of_grown t (λd d7=>by cases d7;exact ⟨Nat.zero_le _,_,_,f.o,by simp⟩);exact ⟨g,(J.o.trans (Mv.of_below m)).newput t (zy _),.inr ⟨x,M',by have:=q.o;simpa using this.symm,rfl,(s.o.below m).other t f.o c1,e2.clause (H.o.below m) (by decide) (by decide),Y.o⟩⟩
   ·rw [hcov] at G q;clear hcov;go_wp2_with (first
     |(go_at_call 47;refine (aD G a g s.o H.o _).mono ?_;rintro e u ⟨rfl,k⟩;have X:=aA k;clear k)
     |(go_at_call 46;refine (aD p).mono ?_;rintro e a ⟨rfl,g,z,C,A,y⟩;have s:=aA z;have H:=aA A;have M:=aA y;have J:=aA (I.o.trans C);clear z A y C)
     |go_in)
    have m:aB a u:=((Below.refl _ a).alloc (zy _) (.cells #[.int .i64 x.r,.int .i64 x.a,.int .i64 x.b,.int .i64 x.i,.int .i64 x.j,.slice x.ad x.ln x.cp,.int .i64 x.wt,.int .i64 x.nm] 73)).trans (X.o.mono (by simp));have f3:=m.size;have f4:=J.o.size;have f5:=(zz.1 M.o).1;exact ⟨⟨i,M',g,s.o.below m,d9,e0,c7.o,by have:=q.o;simpa using this,J.o.trans (Mv.of_below m),by omega,M.o.below m⟩,by rw [(s.o.below m).heap.len,c6.o];exact e1⟩
