import Derived.Test.YtenobhkjiebhaaaGreatDoorUNewS18
import Derived.Test.YtenobhkjiebhaaaGreatDoorSCl1S18
import Derived.Deep.Cut
open Array renaming getElem?_eq_getElem->zn,getElem_modify_self->zm,size_modify->zf,replicate_succ->yz,replicate_zero->yy
open Bool renaming true->zs,false->zp,noConfusion->zc
open List renaming length->Z,setIfInBounds_toArray->zo,set_cons_zero->zh,set_cons_succ->zg,length_filter_le->zd,mem_cons_of_mem->za,perm_append_singleton->z0,getElem?_append_left->z4,append_assoc->z5,getElem_mem->z7,append_toArray->yx,flatMap_append->yw,length_append->yv,size_toArray->yu,push_toArray->yt,length_cons->yn,cons_append->ym,take_length->yl
open Nat renaming le_trans->zr,le_refl->zq,zero_le->yj
open Option renaming some->V
open Or renaming inr->yo,inl->yk
namespace Go.Proofs.YtenobhkjiebhaaaGreatDoor
open CallsIn renaming inRound->z9
open Go renaming Value->Y,World->zv
open Oper renaming semAt_some->z8
open _root_.Go.Proofs.Tryz renaming prog->zj,underlying39->z6
open Value renaming ownBlock->zi,slice->ze
open World renaming cell?->U,setCell->zu,alloc_heap_new->zt,frozen?->zl,grownBy->zk,ownsRow->zb,size_alloc->yp
open Go.RowKit Go.Shelf Go.WideMaps
set_option maxHeartbeats 8000000
set_option maxRecDepth 100000
variable{big:Bool}{x:Cd}{c:List Lt}{ks:List Nat}{S:List TypeId}{B b cp hp n r sb:Nat}{ad:Option Addr}{row:Option Nat}{s:aJ}{W W' w w':zv}{v vk vs:Y}
section
structure cB(B:Nat)(W:zv)(sb hp:Nat)(v vs vk:Y)(L:List Cd)(n:Nat)(T:List (aJ×Y))(ks:List Nat)(big:Bool):Prop where
 box:W.heap[sb]?=V (.cells #[pQ hp,iQ (n:Nat),vs,vk,.bool big] 127 (0,0))
 heap:dR B W hp v L
 st:iW B W vs T
 kp:eQ B W vk ks
 cl:∀x∈L,bP B W (.slice x.ad x.ln x.cp) x.c/\x.ln=Z x.c
 base:B<=sb
 ap:Ap W (eD L T)
theorem cB.cls{a:List Cd}{d:List (aJ×Y)}(e:cB B W sb hp v vs vk a n d ks big):nG W (eD a d):=aRn e.cl e.st.cl
theorem cB.cells{a:List Cd}{d:List (aJ×Y)}(e:cB B W sb hp v vs vk a n d ks big):U W (aQ sb 0)=V (pQ hp)/\U W (aQ sb 1)=V (iQ (n:Nat))/\U W (aQ sb 2)=V vs/\U W (aQ sb 3)=V vk/\U W (aQ sb 4)=V (.bool big):=by
 refine⟨?_,?_,?_,?_,?_⟩<;>simp[U,e.box]
theorem cB.frz{a:List Cd}{d:List (aJ×Y)}(e:cB B W sb hp v vs vk a n d ks big)(f:Nat):zl W (aQ sb f)=false:=by simp[zl,e.box]
theorem cB.below{d:List Cd}{e:List (aJ×Y)}(a:cB B W sb hp v vs vk d n e ks big)(hb:aB W W'):cB B W' sb hp v vs vk d n e ks big:=
 ⟨(hb.block _ (bA a.box)).trans a.box,a.heap.below hb,a.st.kept (S:=[]) (cK hb) (by simp) (by simp) (by simp),bF a.kp hb (zq _),λx f=>⟨(a.cl x f).1.below hb,(a.cl x f).2⟩,a.base,a.ap.kps (S:=[]) a.cls (cK hb) (by simp)⟩
def tI(s:aJ)(ad:Option Addr)(cp:Nat):Y:=.agg #[iQ s.r,iQ s.a,iQ s.b,iQ s.i,iQ s.j,.slice ad (Z s.c) cp]
def gV(s:aJ)(ad:Option Addr)(cp n:Nat):Cd:=⟨s.r,s.a,s.b,s.i,s.j,ad,Z s.c,cp,(aY s.c+Z s.c:Nat),(n:Nat),s.c⟩
theorem bP.rows(g:bP B w (.slice ad n cp) c)(z:kB c):∃a:List (Lt×Y),a.map Prod.fst=c/\n=Z a/\Z a<=cp/\(∀e (g:e<Z a),∃f,ad=V (aQ f 0)/\cQ w f (e*2) (.bool a[e].1.1)/\cQ w f (e*2+1) a[e].2)/\∀p∈a,fN w p.2 p.1.2:=by
 obtain⟨j,m,i,D,_⟩:=g;obtain⟨o,k,d,l⟩:=tL i;simp at d;obtain⟨rfl,rfl,rfl⟩:=d;refine⟨j,m,rfl,?_,l,λC A=>?_⟩
 .obtain⟨_,⟨d,t⟩|⟨u,k,q,d,_,_,y,_⟩⟩:=i
  .omega
  simp at d;omega
 grind[kB.nodes,wC,fN,bP,jB,bH]
theorem aSn(B sb:Nat)(s:aJ)(ad:Option Addr)(cp:Nat)(w:zv)(j:bP B w (.slice ad (Z s.c) cp) s.c)(d:kB s.c)(k:dU s.c=zs):Calls zj 63 #[pQ sb,tI s ad cp] w λg w'=>(∃y,g=.returned y)/\aB w w':=by
 have a:aB w (w.alloc (.cells #[iQ s.r,iQ s.a,iQ s.b,iQ s.i,iQ s.j,.slice ad (Z s.c) cp] 48)):=aI w _;obtain⟨u,e,l,m,o,p⟩:=(j.below a).rows d;have f:=O (aJ5 ad cp u _ (by have:=d.len;have:=congrArg Z e;simp at this;omega) m o p);rw[<-l,e,k]at f;have q:=O a;clear j d k e l m o p a;unfold tI;go_enter Tryz.func63,Tryz.ntmps63;go_wp2_with(first
  |(go_at_call 99;refine(aD f).mono ?_;rintro g z ⟨rfl,i⟩;have t:=O (q.o.trans (i.mono (by simp)));clear i)
  |go_in)
 refine bodyPost_ret (results_none rfl _ _ _) rfl ?_;exact⟨⟨_,rfl⟩,t.o⟩
def aCd(sb hp n r:Nat)(s:aJ)(ad:Option Addr)(a cp:Nat)(w':zv):Prop:=U w' (aQ sb 0)=V (pQ hp)/\U w' (aQ sb 1)=V (iQ n)/\U w' (aQ r 0)=V (iQ s.r)/\U w' (aQ r 1)=V (iQ s.a)/\U w' (aQ r 2)=V (iQ s.b)/\U w' (aQ r 3)=V (iQ s.i)/\U w' (aQ r 4)=V (iQ s.j)/\U w' (aQ r 5)=V (.slice ad a cp)
theorem aCd.of{d:List Cd}{e:List (aJ×Y)}{a:Nat}(i:cB B w sb hp v vs vk d n e ks big)(j:w.heap[r]?=V (.cells #[iQ s.r,iQ s.a,iQ s.b,iQ s.i,iQ s.j,.slice ad a cp] 48 (0,0))):aCd sb hp n r s ad a cp w:=by obtain⟨f,g,_⟩:=i.cells;refine⟨f,g,?_,?_,?_,?_,?_,?_⟩<;>simp[U,j]
theorem cB.pushed{j:Y}{k:List Cd}{f:List (aJ×Y)}(a:cB B w sb hp v vs vk k n f ks big)(d:Mv [124,168] B w w'){e:List Cd}(l:dR B w' hp j e)(g:∀x∈e,bP B w (.slice x.ad x.ln x.cp) x.c/\x.ln=Z x.c)(m:Ap w (eD e f)):cB B w' sb hp j vs vk e n f ks big:=
 ⟨d.cells a.box (by decide),l,a.st.kept d.kps (by decide) (by decide) (by decide),d.row a.kp (by decide),λx i=>⟨d.clause (g x i).1 (by decide) (by decide),(g x i).2⟩,a.base,m.kps (aRn g a.st.cl) d.kps (by decide)⟩
theorem cB.counted{e:List Cd}{m:Nat}{f:List (aJ×Y)}(a:cB B w sb hp v vs vk e n f ks big):cB B (zu w (aQ sb 1) (iQ (m:Nat))) sb hp v vs vk e m f ks big/\Mv [127] B w (zu w (aQ sb 1) (iQ (m:Nat))):=by have j:=(bA a.box);have d:Mv [127] B w (zu w (aQ sb 1) (iQ (m:Nat))):=Mv.of_grown (cD w (aQ sb 1) _) (λk i=>by cases i;exact⟨a.base,_,_,a.box,by simp⟩);refine⟨⟨?_,⟨d.cells a.heap.box (by decide),d.row a.heap.row (by decide),a.heap.base⟩,a.st.kept d.kps (by decide) (by decide) (by decide),d.row a.kp (by decide),λx g=>⟨d.clause (a.cl x g).1 (by decide) (by decide),(a.cl x g).2⟩,a.base,a.ap.kps a.cls d.kps (by decide)⟩,d⟩;show (w.heap.modify sb _)[sb]?=_;rw[zn (by rw[zf];exact j),zm,(Array.getElem?_eq_some_iff.1 a.box).2];rfl
theorem aFb:∀(f:Nat) (a:List Cd) (d:Nat) (x:Cd),x∈fI f a d->x∈a
 |0,_,_,_,h=>h
 |f+1,a,d,x,h=>by
  unfold fI at h;split at h
  .split at h
   .have:=aFb f _ _ x h;unfold nM at this;grind
   exact h
  exact h
theorem aSo(B sb hp:Nat)(v vs vk:Y)(a:List Cd)(n:Nat)(f:List (aJ×Y))(ks:List Nat)(big:Bool)(s:aJ)(ad:Option Addr)(cp:Nat)(w:zv)(L:cB B w sb hp v vs vk a n f ks big)(C:bP B w (.slice ad (Z s.c) cp) s.c)(j:kB s.c)(b7:dU s.c=zp)(b2:Ap w (.slice ad (Z s.c) cp::eD a f))(d4:Z a<=1000000)(e7:n<=1000000)(d2:B<=w.heap.size):Calls zj 63 #[pQ sb,tI s ad cp] w λe w'=>(∃p,e=.returned p)/\∃g,cB B w' sb hp g vs vk (fI (Z a) (a++[gV s ad cp n]) (Z a)) (n+1) f ks big/\Mv cZ B w w':=by
 have z:aB w (w.alloc (.cells #[iQ s.r,iQ s.a,iQ s.b,iQ s.i,iQ s.j,.slice ad (Z s.c) cp] 48)):=aI w _;have b8:(w.alloc (.cells #[iQ s.r,iQ s.a,iQ s.b,iQ s.i,iQ s.j,.slice ad (Z s.c) cp] 48)).heap[w.heap.size]?=V (.cells #[iQ s.r,iQ s.a,iQ s.b,iQ s.i,iQ s.j,.slice ad (Z s.c) cp] 48 (0,0)):=zt w _;obtain⟨d0,Q,c0,c1,c2,c3⟩:=(C.below z).rows j;have I:=O (aJ5 ad cp d0 _ (by have:=j.len;have:=congrArg Z Q;simp at this;omega) c1 c2 c3);rw[<-c0,Q,b7]at I;clear Q c0 c1 c2 c3;have a9:=L.below z;have b5:=C.below z;have e6:aY s.c<=100000:=by have:=aAd (m:=60) (λx hx=>(j.term x hx).2);have:=j.len;omega
 have e5:=j.len;have a5:=O j;have c5:=O z;have X:=O a9;have a3:=O b5;have a6:=O b8;have c6:=O C;have a1:aE (Ap w (eD (fI (Z a) (a++[gV s ad cp n]) (Z a)) f)/\nG w (eD (fI (Z a) (a++[gV s ad cp n]) (Z a)) f)):=O (by
  have hp:(fI (Z a) (a++[gV s ad cp n]) (Z a)).Perm (gV s ad cp n::a):=(aF1 _ _ _).trans (z0 _ _);refine⟨b2.perm (aC7 f hp).symm,λp hu=>?_⟩;have hu:=(aC7 f hp).mem_iff.1 hu;rcases List.mem_cons.1 hu with rfl|hu
  .exact⟨B,_,C⟩
  exact L.cls p hu)
 clear L C b7 a9 b5 j b2;unfold tI;go_enter Tryz.func63,Tryz.ntmps63;go_upto_region 2 with(first
  |(go_at_call 99;refine(aD I).mono ?_;rintro e H ⟨rfl,b3⟩;have u:=O b3;clear b3)
  |go_in)
 have P:H.heap[w.heap.size]?=V (.cells #[iQ s.r,iQ s.a,iQ s.b,iQ s.i,iQ s.j,.slice ad (Z s.c) cp] 48 (0,0)):=(u.o.block _ (by simp)).trans a6.o;have b0:=X.o.below u.o;have N:=a3.o.below u.o;have b4:=bE c5.o u.o;obtain⟨e2,e3,d1,_,a8,_⟩:=N.lits a5.o;cases d1;have a2:=O b4;have a0:=O b0;have c7:=O N;have J:=O P;have c4:U H (aQ w.heap.size 5)=V (.slice ad (Z s.c) cp):=by simp[U,P]
 have R:=O (λ(D:zv) (o:∃d,D=H.drewN d)=>(aGt ad cp s.c D (by obtain⟨d,rfl⟩:=o;exact a8.drewN d) (by omega)).mono (R':=λe q=>e=.returned (iQ (aY s.c))/\aB H q) (λe q F=>by
  obtain⟨d,rfl⟩:=o;exact⟨F.1,(aN ⟨d,rfl⟩).trans F.2⟩))
 clear b4 b0 N P a8 I u X a3 a6 b8 z;generalize hcc:aY s.c=cc at *;generalize hll:Z s.c=cl at *;have c8:=O hcc;have a4:=O hll;clear hcc hll;have d9:IntKind.i64.wrap ((cc:Int)+(cl:Int))=((cc+cl:Nat):Int):=by rw[IntKind.wrap_i64];omega
 go_region_held3 (λw'=>U w' (aQ w.heap.size 5)=V (.slice ad cl cp)) (go_keep)
  (first
   |(go_at_call 57;refine(aD R _ (by first|exact⟨0,rfl⟩|exact⟨1,rfl⟩|exact⟨_,rfl⟩)).mono ?_;rintro e q ⟨rfl,M⟩;have e0:=aC M c4;have E:=O M;clear M)
   |go_in)
 have k:=a0.o.below E.o;have G:=(E.o.block w.heap.size (bA J.o)).trans J.o;have b1:=aCd.of k G;have d5:=b1;obtain⟨f6,f7,f8,f9,g0,g1,g2,g3⟩:=b1;have hx:(gV s ad cp n).agg=.agg #[iQ s.r,iQ s.a,iQ s.b,iQ s.i,iQ s.j,.slice ad cl cp,iQ ((cc+cl:Nat):Int),iQ (n:Nat)]:=by unfold gV Cd.agg;rw[c8.o,a4.o]
 have A:=bE a2.o E.o;have T:=O (λ(D:zv) (o:∃d,D=q.drewN d)=>(aZw B hp v a (gV s ad cp n) D (by obtain⟨d,rfl⟩:=o;exact k.heap.below (aN ⟨d,rfl⟩)) d4 (by obtain⟨d,rfl⟩:=o;exact zr d2 A.size)).mono (R':=λe t=>(∃p,e=.returned p)/\∃g,cB B t sb hp g vs vk (fI (Z a) (a++[gV s ad cp n]) (Z a)) n f ks big/\Mv cZ B w t/\aCd sb hp n w.heap.size s ad cl cp t) (λe t F=>by
  obtain⟨d,rfl⟩:=o;obtain⟨hu,g,d3,l⟩:=F;have i:aB q (q.drewN d):=aN ⟨d,rfl⟩;have y:cB B t sb hp g vs vk (fI (Z a) (a++[gV s ad cp n]) (Z a)) n f ks big:=(k.below i).pushed l d3 (λx hx=>by
   rcases List.mem_append.1 (aFb _ _ _ _ hx)with hx|hx
   .exact⟨((k.below i).cl x hx).1,((k.below i).cl x hx).2⟩
   simp at hx;subst hx;refine⟨?_,rfl⟩;show bP B _ (.slice ad (Z s.c) cp) s.c;rw[a4.o];exact(c6.o.below A).below i) (a1.o.1.kps (S:=[]) a1.o.2 (cK (bE A i)) (by simp))
  have d8:=l.cells ((i.block w.heap.size (bA G)).trans G) (by decide);have d6:=aCd.of y d8;exact⟨hu,g,y,(Mv.of_below A).trans ((Mv.of_below i).trans (l.mono (by decide) (zq _))),d6⟩))
 rw[hx]at T;have b9:wrap64 ((n:Int)+1)=((n+1:Nat):Int):=by unfold wrap64;omega
 have e1:=O b9;clear hx k G d5 A e0 c4 R E a0 J a2 c7 a5 d9 b9;go_wp2;go_region_held3 (λw'=>U w' (aQ sb 0)=V (pQ hp)/\U w' (aQ sb 1)=V (iQ n)/\U w' (aQ w.heap.size 0)=V (iQ s.r)/\U w' (aQ w.heap.size 1)=V (iQ s.a)/\U w' (aQ w.heap.size 2)=V (iQ s.b)/\U w' (aQ w.heap.size 3)=V (iQ s.i)/\U w' (aQ w.heap.size 4)=V (iQ s.j)/\U w' (aQ w.heap.size 5)=V (.slice ad cl cp)) (go_keep)
  (first
   |(go_at_call 100;refine(aD T _ (by first|exact⟨0,rfl⟩|exact⟨1,rfl⟩|exact⟨_,rfl⟩)).mono ?_;rintro e t ⟨⟨p,rfl⟩,g,y,l,d7⟩;obtain⟨e8,e9,f0,f1,f2,f3,f4,f5⟩:=d7;have a7:=O y;have c9:=O l;clear y l)
   |go_in)
 have e4:=a7.o.frz;go_wp2;go_end0;have b6:=a7.o.counted (m:=n+1);exact⟨⟨_,rfl⟩,g,b6.1,c9.o.trans (b6.2.mono (by decide) (zq _))⟩
open Classical in
noncomputable def bL(c a:List Lt):Bool:=decide (Z c<=Z a/\fW a c [])
open Classical in
theorem aSp{a:List Lt}{r:Bool}(d:r=zs↔Z c<=Z a/\fW a c []):r=bL c a:=by grind[fW,bL]
def mP(c a:List Lt):Prop:=∀(B:Nat) (d e:Option Addr) (f g:Nat) (w:zv),bP B w (.slice d (Z c) f) c->bP B w (.slice e (Z a) g) a->
 Calls zj 106 #[.slice d (Z c) f,.slice e (Z a) g] w λi w'=>i=.returned (.bool (bL c a))/\aB w w'
def aCe(e f sb a n j k:Nat)(ad d:Option Addr)(l g m i:Nat)(w':zv):Prop:=U w' (aQ e 0)=V (pQ sb)/\U w' (aQ sb 2)=V (sQ a n j)/\U w' (aQ a (k*6+5))=V (.slice ad l g)/\U w' (aQ f 0)=V (.slice d m i)
theorem aCe.below{d e j i k:Nat}{a:Option Addr}{l f m g:Nat}(o:aCe d e sb j n i k ad a l f m g w)(hb:aB w w'):aCe d e sb j n i k ad a l f m g w':=by grind[Below.at',aCe]
theorem bIz(B sb hp:Nat)(v vs vk:Y)(Q:List Cd)(n:Nat)(d:List (aJ×Y))(ks:List Nat)(big:Bool)(g i a:Nat)(H:Y)(c:List Lt)(w:zv)(m:cB B w sb hp v vs vk Q n d ks big)(J:Boxed w g 80 (pQ sb))(L:Boxed w i 36 H)(p:bP B w H c)(F:mP (aO d a) c)(t:a<Z d):Calls zj 135 #[iQ (a:Nat),pQ g,pQ i] w λf w'=>f=.returned (.bool (bL (aO d a) c))/\aB w w':=by
 obtain⟨l,D,ad,cp,rfl,R,u,y⟩:=m.st.cell t;clear R;rw[<-qB t]at u y;obtain⟨j,k,rfl⟩:=p.shape;obtain⟨_,_,C,_,_⟩:=m.cells;have E:aCe g i sb l (Z d) D a ad j (Z (aO d a)) cp (Z c) k w:=⟨J.cell,C,u,L.cell⟩;have M:=O (λ(I:zv) (z:∃e,I=w.drewN e)=>(F B ad j cp k I (by obtain⟨e,rfl⟩:=z;exact y.below (aN ⟨e,rfl⟩)) (by obtain⟨e,rfl⟩:=z;exact p.below (aN ⟨e,rfl⟩))).mono (R':=λf A=>f=.returned (.bool (bL (aO d a) c))/\aB w A) (λf A G=>by
  obtain⟨e,rfl⟩:=z;exact⟨G.1,(aN ⟨e,rfl⟩).trans G.2⟩))
 have P:=O E;obtain⟨a4,a5,a6,a7⟩:=E;have T:(a:Int)<(Z d:Int):=by omega
 have X:(0:Int)<=(a:Int):=by omega
 clear m J L p u y C t F;generalize Z (aO d a)=l1 at *;generalize Z c=l2 at *;generalize Z d=tn at *;generalize bL (aO d a) c=q at *;go_enter Tryz.func135,Tryz.ntmps135;go_wp2;go_region_held3 (λw'=>cQ w' g 0 (pQ sb)/\cQ w' sb 2 (sQ l tn D)/\cQ w' l (a*6+5) (.slice ad l1 cp)/\cQ w' i 0 (.slice j l2 k)) (go_keep)
  (first
   |(go_at_call 106;refine(aD M _ (by first|exact⟨0,rfl⟩|exact⟨1,rfl⟩|exact⟨_,rfl⟩)).mono ?_;rintro f A ⟨rfl,o⟩;obtain⟨a0,a1,a2,a3⟩:=P.o.below o;have N:=O o;clear o)
   |go_in)
 go_wp2;go_ret;exact⟨rfl,N.o⟩
theorem aSq(B sb:Nat)(vs:Y)(d:List (aJ×Y))(k l a:Nat)(s:aJ)(g:Option Addr)(i:Nat)(w:zv)(y:U w (aQ sb 2)=V vs)(F:iW B w vs d)(H:w.heap[k]?=V (.cells #[iQ s.r,iQ s.a,iQ s.b,iQ s.i,iQ s.j,.slice g (Z s.c) i] 48 (0,0)))(I:Boxed w l 80 (pQ sb))(C:bP B w (.slice g (Z s.c) i) s.c)(D:mP s.c (aO d a))(m:a<Z d):Calls zj 105 #[iQ (a:Nat),pQ k,pQ l] w λj w'=>j=.returned (.bool (bL s.c (aO d a)))/\aB w w':=by
 obtain⟨z,M,ad,cp,rfl,N,o,p⟩:=F.cell m;clear N;rw[<-qB m]at o p;have A:U w (aQ k 5)=V (.slice g (Z s.c) i):=by simp[U,H]
 have J:=O (λ(G:zv) (t:∃e,G=w.drewN e)=>(D B g ad i cp G (by obtain⟨e,rfl⟩:=t;exact C.below (aN ⟨e,rfl⟩)) (by obtain⟨e,rfl⟩:=t;exact p.below (aN ⟨e,rfl⟩))).mono (R':=λj u=>j=.returned (.bool (bL s.c (aO d a)))/\aB w u) (λj u E=>by
  obtain⟨e,rfl⟩:=t;exact⟨E.1,(aN ⟨e,rfl⟩).trans E.2⟩))
 have P:=I.cell;have Q:=y;have R:=o;have T:=A;have X:(a:Int)<(Z d:Int):=by omega
 have a0:(0:Int)<=(a:Int):=by omega
 clear F H I C o p y m A D;generalize Z (aO d a)=l1 at *;generalize Z s.c=l2 at *;generalize Z d=tn at *;generalize bL s.c (aO d a)=q at *;go_enter Tryz.func105,Tryz.ntmps105;go_wp2;go_region_held3 (λw'=>U w' (aQ l 0)=V (pQ sb)/\U w' (aQ sb 2)=V (sQ z tn M)/\U w' (aQ z (a*6+5))=V (.slice ad l1 cp)/\U w' (aQ k 5)=V (.slice g l2 i)) (go_keep)
  (first
   |(go_at_call 106;refine(aD J _ (by first|exact⟨0,rfl⟩|exact⟨1,rfl⟩|exact⟨_,rfl⟩)).mono ?_;rintro j u ⟨rfl,f⟩;have a1:=aC f P;have a2:=aC f Q;have a3:=aC f R;have a4:=aC f T;have L:=O f;clear f)
   |go_in)
 go_wp2;go_ret;exact⟨rfl,L.o⟩
theorem bJ0(B sb hp:Nat)(v vs vk:Y)(k:List Cd)(n:Nat)(d:List (aJ×Y))(ks:List Nat)(big:Bool)(ad:Option Addr)(cp:Nat)(c:List Lt)(w:zv)(i:cB B w sb hp v vs vk k n d ks big)(o:bP B w (.slice ad (Z c) cp) c)(p:∀a∈ks,mP (aO d a) c)(t:∀a∈ks,a<Z d)(C:Z ks<=1000000):Calls zj 102 #[pQ sb,.slice ad (Z c) cp] w λl w'=>l=.returned (.bool (ks.any λa=>bL (aO d a) c))/\aB w w':=by
 obtain⟨D,E,rfl⟩:=i.kp.shape;have f:aB w ((w.alloc (.cells #[pQ sb] 80)).alloc (.cells #[.slice ad (Z c) cp] 36)):=(aI w _).alloc (by simp) _;have u:Boxed ((w.alloc (.cells #[pQ sb] 80)).alloc (.cells #[.slice ad (Z c) cp] 36)) w.heap.size 80 (pQ sb):=(Below.heap_alloc _ _ _ (by simp)).trans (zt w _);have y:Boxed ((w.alloc (.cells #[pQ sb] 80)).alloc (.cells #[.slice ad (Z c) cp] 36)) (w.heap.size+1) 36 (.slice ad (Z c) cp):=by have:=zt (w.alloc (.cells #[pQ sb] 80)) (.cells #[.slice ad (Z c) cp] 36);rwa[yp]at this
 have e:=i.below f;have z:=O (bE1 B w.heap.size (w.heap.size+1) (λa=>bL (aO d a) c) D E ks _ e.kp C (λa q F g=>bIz B sb hp v vs _ k n d ks big w.heap.size (w.heap.size+1) a (.slice ad (Z c) cp) c F (e.below g) ((cK (S:=cZ) g).boxed u (by decide)) ((cK (S:=cZ) g).boxed y (by decide)) ((o.below f).below g) (p a q) (t a q)));obtain⟨_,_,_,G,_⟩:=e.cells;have j:=O f;clear i o e u y f t p;go_enter Tryz.func102,Tryz.ntmps102;go_wp2_with(first
  |(go_at_call 134;refine(aD z).mono ?_;rintro l H ⟨rfl,m⟩;have A:=O (j.o.trans (m.mono (by have:=j.o.size;simpa using this)));clear m)
  |go_in)
 go_ret;exact⟨rfl,A.o⟩
theorem aSr:∀(f:Nat) (a:List Cd) (d:Nat) (x:Cd),x∈kY f a d->x∈a
 |0,_,_,_,h=>h
 |f+1,a,d,x,h=>by
  unfold kY at h;split at h
  .have:=aSr f _ _ x h;unfold nM at this;grind
  exact h
theorem aCf{a:List Cd}(d:x∈iC a):x∈a:=by grind[aSr,iC,List.mem_of_getLast?,List.mem_of_mem_take,List.mem_or_eq_of_mem_set]
theorem bJ1(a:List Cd):Z (iC a)=Z a-1:=by grind[iC,aNp,List.getLast?_eq_none_iff]
def dW(a:List Lt->Bool):Nat->List Cd->Option (Cd×List Cd)
 |0,_=>none
 |f+1,L=>match L with
  |[]=>none
  |x::r=>if a x.c then dW a f (iC (x::r)) else some (x,iC (x::r))
theorem aSs{g:List Lt->Bool}:∀(f:Nat) {d a:List Cd}{x:Cd},dW g f d=V (x,a)->∃e,(x::a++e).Perm d
 |0,d,a,x,h=>by cases h
 |f+1,[],a,x,h=>by cases h
 |f+1,z::r,a,x,h=>by
  unfold dW at h;simp only at h;split at h
  .obtain⟨e,i⟩:=aSs f h;exact⟨e++[z],by rw[<-z5];exact(z0 z _).trans ((i.trans (vY z r)).cons z)⟩
  cases h;exact⟨[],by rw[List.append_nil];exact(vY _ _).cons _⟩
def aFc(w:zv)(hp:Nat):Nat:=match U w (aQ hp 0)with|some (.slice _ n _)=>n|_=>0
theorem dR.len{a:List Cd}(d:dR B w hp v a):aFc w hp=Z a:=by obtain⟨e,c,rfl⟩:=aZ d.row;unfold aFc;rw[d.c0.1]
def xR(x:Cd):Y:=.agg #[iQ x.r,iQ x.a,iQ x.b,iQ x.i,iQ x.j,.slice x.ad x.ln x.cp]
def bJ2(B:Nat)(w:zv)(sb hp:Nat)(vs vk:Y)(a:List Cd)(n:Nat)(d:List (aJ×Y))(ks:List Nat)(big:Bool)(g:Ending)(w':zv):Prop:=
 ∃i,Mv cZ B w w'/\((dW (λc=>ks.any λe=>bL (aO d e) c) (Z a) a=none/\g=.returned (.tuple #[xR kD,.bool zp])/\cB B w' sb hp i vs vk [] n d ks big)\/
  ∃x f,dW (λc=>ks.any λe=>bL (aO d e) c) (Z a) a=V (x,f)/\g=.returned (.tuple #[xR x,.bool zs])/\cB B w' sb hp i vs vk f n d ks big/\bP B w' (.slice x.ad x.ln x.cp) x.c/\x.ln=Z x.c)
def S6(w:zv)(b:Nat)(x:Cd):Prop:=w.heap[b]?=V (.cells #[iQ x.r,iQ x.a,iQ x.b,iQ x.i,iQ x.j,.slice x.ad x.ln x.cp] 48 (0,0))
def yU(w:zv)(b:Nat)(x:Cd):zv:=(zu (zu (zu (zu (zu (zu w (aQ b 0) (iQ x.r)) (aQ b 1) (iQ x.a)) (aQ b 2) (iQ x.b)) (aQ b 3) (iQ x.i)) (aQ b 4) (iQ x.j)) (aQ b 5) (.slice x.ad x.ln x.cp))
theorem S6.cells(a:S6 w b x):U w (aQ b 0)=V (iQ x.r)/\U w (aQ b 1)=V (iQ x.a)/\U w (aQ b 2)=V (iQ x.b)/\U w (aQ b 3)=V (iQ x.i)/\U w (aQ b 4)=V (iQ x.j)/\U w (aQ b 5)=V (.slice x.ad x.ln x.cp):=by refine⟨?_,?_,?_,?_,?_,?_⟩<;>simp[U,show w.heap[b]?=_ from a]
theorem S6.frz(a:S6 w b x)(d:Nat):zl w (aQ b d)=false:=by simp[zl,show w.heap[b]?=_ from a]
theorem S6.below(a:S6 w b x)(hb:aB w w'):S6 w' b x:=(hb.block b (bA a)).trans a
theorem S6.put{y:Cd}(d:S6 w b x):S6 (yU w b y) b y/\zk w (yU w b y) (V b):=by
 have e:∀(a:zv) (g:Array Y) (k:Nat) (v:Y),a.heap[b]?=V (.cells g 48 (0,0))->(zu a (aQ b k) v).heap[b]?=V (.cells (g.setIfInBounds k v) 48 (0,0)):=λa g k v f=>by
  have i:=(bA f);show (a.heap.modify b _)[b]?=_;rw[zn (by rw[zf];exact i),zm,(Array.getElem?_eq_some_iff.1 f).2];rfl
 constructor
 .unfold S6 yU;rw[e _ _ 5 _ (e _ _ 4 _ (e _ _ 3 _ (e _ _ 2 _ (e _ _ 1 _ (e _ _ 0 _ d)))))];simp
 unfold yU;have d:∀(a:zv) (k:Nat) (v:Y),zk w a (V b)->zk w (zu a (aQ b k) v) (V b):=λa k v f=>nL f (cD a (aQ b k) v)
 exact d _ _ _ (d _ _ _ (d _ _ _ (d _ _ _ (d _ _ _ (d _ _ _ ⟨rfl,rfl,rfl,zq _,λ_ _ _=>rfl⟩)))))
theorem Mv.newput{g i:zv}(a:Mv S B w g)(d:zk g i (V r))(m:w.heap.size<=r):Mv S B w i:=
 ⟨d.os.trans a.os,d.tape.trans a.tape,d.output.trans a.output,zr a.size d.size,λf l e k=>by
  have j:=(bA e);exact(d.block f (Nat.lt_of_lt_of_le j a.size) (by simp;omega)).trans (a.keep f l e k)⟩
theorem cB.other{e:List Cd}{f:List (aJ×Y)}(a:cB B w sb hp v vs vk e n f ks big)(g:zk w w' (V r))(l:S6 w r x)(k:zi vs≠V r):cB B w' sb hp v vs vk e n f ks big:=by have d:Mv [48] 0 w w':=Mv.of_grown g (λo j=>by cases j;exact⟨yj _,_,_,l,by simp⟩);exact⟨d.cells a.box (by decide),⟨d.cells a.heap.box (by decide),d.row a.heap.row (by decide),a.heap.base⟩,⟨eW a.st.row g (yo k),λm hp=>d.clause (a.st.cl m hp) (by decide) (by decide)⟩,d.row a.kp (by decide),λx i=>⟨d.clause (a.cl x i).1 (by decide) (by decide),(a.cl x i).2⟩,a.base,a.ap.kps a.cls d.kps (by decide)⟩
theorem cB.popped{d e:List Cd}{a:List (aJ×Y)}{i:List Lt->Bool}{f:Nat}(g:cB B w sb hp v vs vk d n a ks big)(l:dW i f d=V (x,e))(m:dH S w w')(j:55∉S):Ap w' (.slice x.ad x.ln x.cp::eD e a):=by
 obtain⟨o,k⟩:=aSs f l;refine(g.ap.kps g.cls m j).perm (aC7 a k).symm |>.sub ?_
 grind[eD,List.sublist_append_left]
theorem bJ3(B sb hp:Nat)(v vs vk:Y)(g:List Cd)(n:Nat)(f:List (aJ×Y))(ks:List Nat)(big:Bool)(w:zv)(b8:cB B w sb hp v vs vk g n f ks big)(c2:∀x∈g,∀e∈ks,mP (aO f e) x.c)(c3:∀e∈ks,e<Z f)(e5:Z ks<=1000000)(f9:Z g<=1000000)(d9:B<=w.heap.size):Calls zj 64 #[pQ sb] w λi w'=>bJ2 B w sb hp vs vk g n f ks big i w':=by
 have b7:=O b8;have d2:=O c3;have d1:=O c2;clear b8 c3 c2;go_enter Tryz.func64,Tryz.ntmps64;go_wp2;go_loopw[] (λwr=>∃(l:Nat) (q:List Cd) (H:Y),cB B wr sb hp H vs vk q n f ks big/\Z q<=l/\Z q<=Z g/\(∀x∈q,x∈g)/\dW (λc=>ks.any λe=>bL (aO f e) c) l q=dW (λc=>ks.any λe=>bL (aO f e) c) (Z g) g/\Mv cZ B w wr/\w.heap.size<wr.heap.size/\S6 wr w.heap.size kD) (λwr=>aFc wr hp);case atStart=>
  have c0:aB w (w.alloc (.cells #[iQ 0,iQ 0,iQ 0,iQ 0,iQ 0,nQ] 48)):=aI w _;exact⟨Z g,g,v,b7.o.below c0,zq _,zq _,λ_ a3=>a3,rfl,Mv.of_below c0,by simp,zt w _⟩
 case round=>
  obtain⟨l,q,H,m,a6,e0,a2,G,a0,f0,X⟩:=hrel;obtain⟨f8,_,_,_,_⟩:=m.cells;have c8:zi vs≠V w.heap.size:=λi=>by have:=(bS b7.o.st.row _ i).2;omega
  cases q with
  |nil=>
   have t:=O (aZy B hp H wr m.heap);unfold Cd.agg kD at t;have d0:=O m;have M:=O a0;have c5:dW (λc=>ks.any λe=>bL (aO f e) c) (Z g) g=none:=by rw[<-G];cases l<;>rfl
   have u:=O c5;have c9:=O X;clear m a0 G a2 X c5;simp only at t;go_wp2_with(first
    |(go_at_call 101;refine(aD t).mono ?_;rintro i a ⟨rfl,T⟩;have j:=O (λd=>c9.o.below (T.alloc T.size d));obtain⟨f1,f2,f3,f4,f5,f6⟩:(∀d,U (a.alloc d) (aQ w.heap.size 0)=some (iQ 0))/\(∀d,U (a.alloc d) (aQ w.heap.size 1)=some (iQ 0))/\(∀d,U (a.alloc d) (aQ w.heap.size 2)=some (iQ 0))/\(∀d,U (a.alloc d) (aQ w.heap.size 3)=some (iQ 0))/\(∀d,U (a.alloc d) (aQ w.heap.size 4)=some (iQ 0))/\(∀d,U (a.alloc d) (aQ w.heap.size 5)=some (nQ)):=⟨λd=>(j.o d).cells.1,λd=>(j.o d).cells.2.1,λd=>(j.o d).cells.2.2.1,λd=>(j.o d).cells.2.2.2.1,λd=>(j.o d).cells.2.2.2.2.1,λd=>(j.o d).cells.2.2.2.2.2⟩;have f7:∀d e,zl (a.alloc d) (aQ w.heap.size e)=false:=(λd e=>(j.o d).frz e);have b6:=O T;clear T)
    |go_in)
   have b9:=j.o (.cells #[iQ 0,iQ 0,iQ 0,iQ 0,iQ 0,nQ,iQ 0,iQ 0] 124);have o:aB wr (a.alloc (.cells #[iQ 0,iQ 0,iQ 0,iQ 0,iQ 0,nQ,iQ 0,iQ 0] 124)):=b6.o.alloc b6.o.size _;obtain⟨a7,z⟩:=b9.put (y:=kD);obtain⟨b0,b1,b2,b3,b4,b5⟩:=a7.cells;refine bodyPost_ret (v:=.tuple #[xR kD,.bool zp]) (w:=yU (a.alloc (.cells #[iQ 0,iQ 0,iQ 0,iQ 0,iQ 0,nQ,iQ 0,iQ 0] 124)) w.heap.size kD) (by simp[results,Tryz.results64,go_sem,b0,b1,b2,b3,b4,b5,xR];try rfl) rfl ?_;exact⟨H,(M.o.trans (Mv.of_below o)).newput z (zq _),.inl ⟨u.o,rfl,(d0.o.below o).other z b9 c8⟩⟩
  |cons x r=>
   have a3:∀e∈ks,mP (aO f e) x.c:=d1.o x (a2 x (by simp));have a8:=m.cl x (by simp);have a1:=bJ1 (x::r);have t:=O ((aZz B hp H (x::r) wr m.heap (by simp) (by omega) (zr d9 (Nat.le_of_lt f0))).mono (R':=λi a=>i=.returned (.tuple #[.agg #[iQ x.r,iQ x.a,iQ x.b,iQ x.i,iQ x.j,.slice x.ad x.ln x.cp,iQ x.wt,iQ x.nm],.bool zs])/\∃k,cB B a sb hp k vs vk (iC (x::r)) n f ks big/\Mv cZ B wr a/\bP B a (.slice x.ad x.ln x.cp) x.c/\S6 a w.heap.size kD) (λi a e3=>by
    obtain⟨d7,k,d8,Q⟩:=e3;exact⟨d7,k,m.pushed Q d8 (λI a9=>m.cl I (aCf a9)) ((m.ap.sub (List.sublist_cons_self _ _)).perm (aC7 f (vY x r)).symm),Q.mono (by decide) (zq _),Q.clause a8.1 (by decide) (by decide),Q.cells X (by decide)⟩))
   obtain⟨l,rfl⟩:∃d6,l=d6+1:=⟨l-1,by simp at a6;omega⟩;have c6:dW (λc=>ks.any λe=>bL (aO f e) c) (l+1) (x::r)=if (ks.any λe=>bL (aO f e) x.c) then dW (λc=>ks.any λe=>bL (aO f e) c) l (iC (x::r)) else V (x,iC (x::r)):=rfl
   rw[c6]at G;have c4:aFc wr hp=Z (x::r):=m.heap.len;have c7:∀I∈iC (x::r),I∈g:=λI a9=>a2 I (aCf a9)
   have e6:Z (iC (x::r))<=l:=by rw[a1];simp at a6 ⊢;exact a6
   have e7:Z (iC (x::r))<=Z g:=by rw[a1];simp at e0 ⊢;omega
   have e8:Z (iC (x::r))<Z (x::r):=by rw[a1];simp
   generalize hpp:iC (x::r)=M' at *;generalize hmm:Z (x::r)=ml at *;have M:=O a0;have u:=O G;have d4:=O c7;have d3:=O c4;have a5:=O a8.2;have d5:=O a3;clear m a0 G a2 X c6 a1 hpp hmm c7 a3 a8 c4;have J:=O (λ(a:zv) (k:Y) (e1:cB B a sb hp k vs vk M' n f ks big) (e2:bP B a (.slice x.ad x.ln x.cp) x.c) (d:Obj)=>(show Calls zj 102 #[pQ sb,.slice x.ad x.ln x.cp] (a.alloc d) λi w'=>i=.returned (.bool (ks.any λe=>bL (aO f e) x.c))/\Below (a.alloc d).heap.size (a.alloc d) w' from by
    have c1:aB a (a.alloc d):=aI a d;have:=bJ0 B sb hp k vs vk M' n f ks big x.ad x.cp x.c (a.alloc d) (e1.below c1) (by rw[<-a5.o];exact e2.below c1) d5.o d2.o e5;rw[<-a5.o]at this;exact this))
   cases hcov:(ks.any λe=>bL (aO f e) x.c)
   .rw[hcov]at J u;clear hcov;go_wp2_with(first
     |(go_at_call 102;refine(aD J a k y.o L.o _).mono ?_;rintro i A ⟨rfl,o⟩;obtain⟨g3,g4,g5,g6,g7,g8,_,_⟩:=((show kZ (a.alloc (.cells #[iQ x.r,iQ x.a,iQ x.b,iQ x.i,iQ x.j,.slice x.ad x.ln x.cp,iQ x.wt,iQ x.nm] 124)) a.heap.size x from zt a _).below o).cells;have R:=(P.o.below (aI a (.cells #[iQ x.r,iQ x.a,iQ x.b,iQ x.i,iQ x.j,.slice x.ad x.ln x.cp,iQ x.wt,iQ x.nm] 124))).below o;obtain⟨f1,f2,f3,f4,f5,f6⟩:=R.cells;have f7:=R.frz;have j:=O R;have a4:=O o;clear o R)
     |(go_at_call 101;refine(aD t).mono ?_;rintro i a ⟨rfl,k,D,F,E,C⟩;have y:=O D;have L:=O E;have P:=O C;have N:=O (M.o.trans F);clear D E C F)
     |go_in)
    have p:aB a A:=(aI a (.cells #[iQ x.r,iQ x.a,iQ x.b,iQ x.i,iQ x.j,.slice x.ad x.ln x.cp,iQ x.wt,iQ x.nm] 124)).trans (a4.o.mono (by simp));obtain⟨a7,z⟩:=j.o.put (y:=x);obtain⟨b0,b1,b2,b3,b4,b5⟩:=a7.cells;refine bodyPost_ret (v:=.tuple #[xR x,.bool zs]) (w:=yU A w.heap.size x) (by simp[results,Tryz.results64,go_sem,b0,b1,b2,b3,b4,b5,xR];try rfl) rfl ?_;have e9:Mv [48] 0 A (yU A w.heap.size x):=Mv.of_grown z (λe e4=>by cases e4;exact⟨yj _,_,_,j.o,by simp⟩);exact⟨k,(N.o.trans (Mv.of_below p)).newput z (zq _),.inr ⟨x,M',by have:=u.o;simpa using this.symm,rfl,(y.o.below p).other z j.o c8,e9.clause (L.o.below p) (by decide) (by decide),a5.o⟩⟩
   rw[hcov]at J u;clear hcov;go_wp2_with(first
    |(go_at_call 102;refine(aD J a k y.o L.o _).mono ?_;rintro i A ⟨rfl,o⟩;have a4:=O o;clear o)
    |(go_at_call 101;refine(aD t).mono ?_;rintro i a ⟨rfl,k,D,F,E,C⟩;have y:=O D;have L:=O E;have P:=O C;have N:=O (M.o.trans F);clear D E C F)
    |go_in)
   have p:aB a A:=(aI a (.cells #[iQ x.r,iQ x.a,iQ x.b,iQ x.i,iQ x.j,.slice x.ad x.ln x.cp,iQ x.wt,iQ x.nm] 124)).trans (a4.o.mono (by simp));have g0:=p.size;have g1:=N.o.size;have g2:=(bA P.o);exact⟨⟨l,M',k,y.o.below p,e6,e7,d4.o,by have:=u.o;simpa using this,N.o.trans (Mv.of_below p),by omega,P.o.below p⟩,by rw[(y.o.below p).heap.len,d3.o];exact e8⟩
attribute [local go_sem] z8
noncomputable def eV(d:List (aJ×Y))(a:Nat)(e:List Nat):List (aJ×Int):=nE (aO d a) a++e.flatMap λb=>gZ (aO d a) a (aO d b) b
def uJ(B:Nat)(W:zv)(a:Nat)(x:aJ)(ad:Option Addr)(cp:Nat):Prop:=W.heap[a]?=V (.cells #[iQ x.r,iQ x.a,iQ x.b,iQ x.i,iQ x.j,.slice ad (Z x.c) cp] 48 (0,0))/\bP B W (.slice ad (Z x.c) cp) x.c
theorem uJ.kept{a:Nat}{x:aJ}(d:uJ B W a x ad cp)(k:dH cZ W W'):uJ B W' a x ad cp:=⟨k.kc _ _ _ d.1 (by decide),k.clause d.2 (by decide) (by decide)⟩
theorem uJ.cells{a:Nat}{x:aJ}(d:uJ B W a x ad cp):U W (aQ a 0)=V (iQ x.r)/\U W (aQ a 1)=V (iQ x.a)/\U W (aQ a 2)=V (iQ x.b)/\U W (aQ a 3)=V (iQ x.i)/\U W (aQ a 4)=V (iQ x.j)/\U W (aQ a 5)=V (.slice ad (Z x.c) cp):=by refine⟨?_,?_,?_,?_,?_,?_⟩<;>simp[U,d.1]
theorem aFd{e:List Nat}{k d f:zv}(o:∀a∈e,k.heap[a]?=V (.deferred (V [])))(l:zk d f row)(p:∀r,row=V r->k.heap.size<=r/\∃j:Obj,d.heap[r]?=V j/\j.isCells=zp)(g:∀a∈e,d.heap[a]?=V (.deferred (V []))):∀a∈e,f.heap[a]?=V (.deferred (V [])):=λa i=>by
 refine(l.block a (bA (g a i)) (λm=>?_)).trans (g a i);grind[Array.getElem?_eq_some_iff]
theorem aSt(n T Q R B:Nat)(vs l3:Y)(a:List (aJ×Y))(d:Nat)(g:List Nat)(m5:6<=n)(g6:∀k9∈a,kB k9.1.c)(d6:d<Z a)(h4:∀b∈g,b<Z a)(m6:Z g<=1000000)(W:zv)(g3:B<=W.heap.size)(b5:uC B W T Q R vs l3 a d g):xF Fence.wide n zj 136 #[pQ T,pQ Q,pQ R] (vX B) cZ (eV a d g) W:=by
 intro a1 b4 c7 g5 d5 g8 h0;have g0:=O g8;have a5:=O g5;have f8:=O g6;have j1:=O h4;clear g8 g5 g6 h4;refine callsIn_of_wp_marks Tryz.func136 rfl trivial ?_ rfl;simp only[Tryz.ntmps136,yu,yn,List.length_nil,Nat.reduceAdd,Nat.reduceSub,yz,yy,yt,yx,List.nil_append,ym];obtain⟨a2,a3,rfl⟩:=aZ b5.st.row;obtain⟨e0,c6,rfl⟩:=aZ b5.ot;have g1:=b5.x1.cell;have g2:=b5.x2.cell;have j5:=λp=>aC (aI W p) g1
 have j6:=λp=>aC (aI W p) g2
 have f9:=O b5;clear b5 g1 g2;gi_wp2
 clear j5 j6;obtain⟨m2,g7,e8,h7,m7⟩:=aIw W (.func (.yield a1) #[] #[]) 200;simp only[g7]at *;have g4:=f9.o.kept (cK (S:=cZ) e8);refine⟨trivial,λ_=>by omega,(callsIn_wide.2 (bGb B _ a d _ g4.st d6)).mono ?_⟩;rintro z G ⟨b8,b9,v,rfl,h1,N⟩;have D:aB W G:=bE e8 N;have h8:Boxed G W.heap.size 200 (.func (.yield a1) #[] #[]):=(cK (S:=cZ) N).boxed h7 (by decide);have d2:=f9.o.kept (cK (S:=cZ) D);have d3:=rR a5.o h0 D;clear g7 h7 e8 N h0 g4;gi_wp2
 have h3:kB (aO a d):=by rw[qB d6];exact f8.o _ (z7 d6)
 refine aBo rfl (by omega) (gf:=154) (lb:=#[pQ b8,pQ b9]) rfl trivial (enters_of Tryz.func154 (by kernel_rfl) rfl)
  (Enc:=vX B) (S:=cZ) (L:=nE (aO a d) d)
  (λk7 k8=>bG9 (n-1) b8 b9 B v (aO a d) d (by omega) h3 _ (zr (zr g3 D.size) (by simp;omega)) (h1.kept (cK ((aI G _).alloc (by simp) _))))
  (λx e3 j3 W i=>by obtain⟨ad,cp,rfl,_⟩:=i;rfl)
  (λe W'=>b4 e W'/\(uC B W' T Q R (.slice a2 (Z a) a3) (.slice e0 (Z g) c6) a d g/\Boxed W' W.heap.size 200 (.func (.yield a1) #[] #[]))/\G.heap.size<=W'.heap.size)
  (λa6 _ W'=>a6=.ret/\∃e,c7 e W') ?hI ?hIx ?h0
  (λe x A W'=>∃C ad cp,A = {tmps:=#[.func (.yield a1) #[] #[],pQ T,pQ Q,pQ R,pQ W.heap.size,pQ C,iQ x.2,undef,undef,undef,undef,.slice a2 (Z a) a3,iQ d,.func (.func 154) #[] #[pQ b8,pQ b9],.agg #[iQ x.1.r,iQ x.1.a,iQ x.1.b,iQ x.1.i,iQ x.1.j,.slice ad (Z x.1.c) cp],iQ x.2,undef,undef,undef,undef,undef,undef,undef,undef,undef,undef,undef,undef,undef,undef,undef,undef,undef,undef,undef,undef,undef,undef,undef],defers:=[]}/\∃k,b4 e k/\gF G.heap.size k W'/\uJ k.heap.size W' C x.1 ad cp/\B<=k.heap.size) ?hAx ?assign ?body ?done ?stop
 case hI=>exact(xG a5.o D.size).and ((aC4 (λ_ _ _ i e=>⟨i.1.kept e,e.boxed i.2 (by decide)⟩)).and (λ_ _ _ _ i l _=>zr i l.size))
 case hIx=>
  rintro a6 s p y row ⟨J,e,M⟩ l o;exact⟨J,e,xG d5 D.size e p y row M l o⟩
 case h0=>exact⟨d3,⟨d2,h8⟩,zq _⟩
 case hAx=>
  rintro e x A _ p y row ⟨C,ad,cp,J,k,c0,e4,M,e5⟩ l o;exact⟨C,ad,cp,J,k,c0,e4.trans (gF.grown l o),M.kept (dH.grown l (λr z=>(o r z).2)),e5⟩
 case assign=>
  rintro f4 e x e3 k t K P ⟨a8,_⟩ b1 ⟨a9,⟨q,u⟩,E⟩ ⟨ad,cp,rfl,c2,a7⟩ hK;have e1:=O c2;clear c2;gi_wp2
  have m:aB t (t.alloc (.cells #[iQ x.1.r,iQ x.1.a,iQ x.1.b,iQ x.1.i,iQ x.1.j,.slice ad (Z x.1.c) cp] 48)):=aI t _;exact hK _ _ (Mv.of_below (S:=[]) (B:=0) m).keepsFrom (cK m) ⟨rR a5.o a9 m,⟨q.kept (cK m),(cK (S:=cZ) m).boxed u (by decide)⟩,zr E m.size⟩ ⟨t.heap.size,ad,cp,rfl,k,a8,b1.trans (gF.below m),⟨zt t _,e1.o.below m⟩,a7⟩
 case body=>
  rintro f4 e x A t j8 P ⟨a9,⟨q,u⟩,E⟩ ⟨C,ad,cp,rfl,k,a8,b1,b0,a7⟩;obtain⟨l4,l5,l6,l7,l8,l9⟩:=b0.cells;have f6:=u.cell;have e7:=g0.o e x #[.agg #[iQ x.1.r,iQ x.1.a,iQ x.1.b,iQ x.1.i,iQ x.1.j,.slice ad (Z x.1.c) cp],iQ x.2] k t (by unfold eV;rw[z4 (eE P)];exact P) a8 (b1.low D.size) ⟨ad,cp,rfl,b0.2,a7⟩;obtain⟨j7,l0,assign,body,k6,e6⟩:=e7;have b2:=O q;have b6:=O u;have e2:=O E;clear q u E b0 a9;gi_wp2
  refine⟨λ_=>by omega,(aAe e6).mono ?_⟩;rintro z j4 (⟨rfl,hJ4,hk4⟩|⟨rfl,hJx4,hk4⟩)
  .gi_wp2
   exact⟨nB hk4.2 D.size,hk4.1,hJ4,⟨b2.o.kept hk4.1,hk4.1.boxed b6.o (by decide)⟩,zr e2.o hk4.1.size⟩
  gi_wp2
  exact⟨nB hk4 D.size,rfl,_,hJx4⟩
 case stop=>
  rintro a6 e b7 ⟨rfl,f3,X⟩ hK;gi_wp2
  exact aC6 (N:=W.heap.size) (I:=λW'=>∃e,c7 e W') rfl (λ_ p y row ⟨e,i⟩ l o=>⟨e,d5 e p y row i l o⟩) (λv w i=>⟨⟨_,rfl⟩,.inr i⟩) [G.heap.size] b7 ⟨f3,X⟩ (λf hD=>by simp at hD;subst hD;exact⟨D.size,hK⟩) (by simp)
 case done=>
  rintro b7 ⟨X,⟨c1,d9⟩,d8⟩ hK;have m1:=c1.x3.cell;gi_wp2
  clear m1;refine wpIn_loop (λA w'=>∃(j:Nat) (F:List Nat) (i6 h9 i0 i1 i2 i3 i4 i5 f5:Y),A = {tmps:=#[.func (.yield a1) #[] #[],pQ T,pQ Q,pQ R,pQ W.heap.size,undef,undef,undef,i6,undef,undef,.slice a2 (Z a) a3,iQ d,.func (.func 154) #[] #[pQ b8,pQ b9],undef,undef,undef,undef,undef,undef,undef,.slice e0 (Z g) c6,iQ (Z g),iQ j,h9,i0,i1,i2,i3,i4,i5,undef,undef,undef,undef,undef,undef,undef,f5],defers:=F.map λf=>{target:=.collected f,args:=#[]}}/\j<=Z g/\b4 (Z (nE (aO a d) d++(g.take j).flatMap λb=>gZ (aO a d) d (aO a b) b)) w'/\
    (uC B w' T Q R (.slice a2 (Z a) a3) (.slice e0 (Z g) c6) a d g/\Boxed w' W.heap.size 200 (.func (.yield a1) #[] #[]))/\G.heap.size<=w'.heap.size/\(∀f∈F,W.heap.size<=f/\w'.heap[f]?=V (.deferred (V [])))/\F.Nodup)
   (λA _=>Z g-(intOf (A.tmps.getD 23 undef)).toNat) ?start ?round
  case start=>exact⟨0,[G.heap.size],_,_,_,_,_,_,_,_,_,rfl,yj _,by simpa using X,⟨c1,d9⟩,d8,λf hD=>by simp at hD;subst hD;exact⟨D.size,hK⟩,by simp⟩
  case round=>
   clear X c1 d9 d8 hK d2 d3 h8 h1;rintro _ w' ⟨j,F,i6,h9,i0,i1,i2,i3,i4,i5,f5,rfl,m8,d4,⟨q,u⟩,E,f1,f2⟩;by_cases c3:j<Z g
   .have j9:(j:Int)<(Z g:Int):=by omega
    obtain⟨b,d7⟩:∃b,g[j]=b:=⟨_,rfl⟩;have e9:b<Z a:=j1.o b (by rw[<-d7];exact z7 c3);obtain⟨H,rfl,k1⟩:∃H,e0=V (aQ H 0)/\U w' (aQ H j)=V (iQ b):=by
     obtain⟨_,⟨_,z⟩|⟨H,m3,m4,z,_⟩⟩:=q.ot
     .omega
     simp at z;refine⟨H,z.1,?_⟩;have:=q.ot;rw[z.1]at this;rw[this.cellAt j (by simpa using c3)];simp[c3,d7]
    have f6:=q.x1.cell;have m0:=q.x2.cell;have k0:kB (aO a b):=by rw[qB e9];exact f8.o _ (z7 e9)
    have h6:(g.take (j+1)).flatMap (λb=>gZ (aO a d) d (aO a b) b)=(g.take j).flatMap (λb=>gZ (aO a d) d (aO a b) b)++gZ (aO a d) d (aO a b) b:=by rw[rT (List.getElem?_eq_getElem c3),d7,yw];simp
    have h2:∀e x,(gZ (aO a d) d (aO a b) b)[e]?=V x->(eV a d g)[Z (nE (aO a d) d++(g.take j).flatMap λb=>gZ (aO a d) d (aO a b) b)+e]?=V x:=by
     intro e x P;have k2:g.flatMap (λb=>gZ (aO a d) d (aO a b) b)=(g.take j).flatMap (λb=>gZ (aO a d) d (aO a b) b)++(gZ (aO a d) d (aO a b) b++(g.drop (j+1)).flatMap λb=>gZ (aO a d) d (aO a b) b):=by
      conv=>lhs;rw[<-List.take_append_drop j g]
      rw[yw,List.drop_eq_getElem_cons c3,d7];simp
     unfold eV;rw[k2,<-z5,List.getElem?_append_right (by omega),Nat.add_sub_cancel_left,z4 (eE P)];exact P
    generalize hbase:Z (nE (aO a d) d++(g.take j).flatMap λb=>gZ (aO a d) d (aO a b) b)=base at *;have j2:=O h6;have i9:=O h2;have i7:=O hbase;have b2:=O q;have b6:=O u;have b3:=O f1;have j0:=O d4;clear h6 h2 hbase f1 d4 q u;gi_wp2
    refine⟨trivial,λ_=>by omega,(callsIn_wide.2 (bGc B _ a d b _ b2.o.st d6 e9)).mono ?_⟩;rintro z a4 ⟨d0,d1,c8,c9,l2,l1,rfl,k3,N⟩;have d2:=b2.o.kept (cK (S:=cZ) N);have k5:=(cK (S:=cZ) N).boxed b6.o (by decide);have d3:=rR a5.o j0.o N;have c4:∀f∈F,a4.heap[f]?=V (.deferred (V [])):=λf hD=>(N.block f (Array.getElem?_eq_some_iff.1 (b3.o f hD).2).1).trans (b3.o f hD).2
    have h5:G.heap.size<=a4.heap.size:=zr E N.size;have a0:W.heap.size<=a4.heap.size:=zr D.size h5;clear f6 m0 k1;gi_wp2
    refine aBo rfl (by omega) (gf:=157) (lb:=#[pQ d0,pQ d1,pQ c8,pQ c9]) rfl trivial (enters_of Tryz.func157 (by kernel_rfl) rfl)
     (Enc:=vX B) (S:=cZ) (L:=gZ (aO a d) d (aO a b) b)
     (λk7 k8=>bGa (n-1) d0 d1 c8 c9 B l2 l1 (aO a d) (aO a b) d b (by omega) h3 k0 _ (zr (zr g3 a0) (by simp;omega)) (k3.kept (cK ((aI a4 _).alloc (by simp) _))))
     (λx e3 j3 W i=>by obtain⟨ad,cp,rfl,_⟩:=i;rfl)
     (λe W'=>b4 (base+e) W'/\(uC B W' T Q R (.slice a2 (Z a) a3) (sQ H (Z g) c6) a d g/\Boxed W' W.heap.size 200 (.func (.yield a1) #[] #[]))/\(a4.heap.size<=W'.heap.size/\∀f∈F,W'.heap[f]?=V (.deferred (V []))))
     (λa6 _ W'=>a6=.ret/\(∃e,c7 e W')/\∀f∈F,W'.heap[f]?=V (.deferred (V []))) ?hI2 ?hIx2 ?h02
     (λe x A W'=>∃C ad cp,A = {tmps:=#[.func (.yield a1) #[] #[],pQ T,pQ Q,pQ R,pQ W.heap.size,undef,undef,undef,iQ b,pQ C,iQ x.2,.slice a2 (Z a) a3,iQ d,.func (.func 154) #[] #[pQ b8,pQ b9],undef,undef,undef,undef,undef,undef,undef,sQ H (Z g) c6,iQ (Z g),iQ j,.bool zs,jZ H j,iQ b,.slice a2 (Z a) a3,iQ d,iQ b,.func (.func 157) #[] #[pQ d0,pQ d1,pQ c8,pQ c9],.agg #[iQ x.1.r,iQ x.1.a,iQ x.1.b,iQ x.1.i,iQ x.1.j,.slice ad (Z x.1.c) cp],iQ x.2,undef,undef,undef,undef,undef,f5],defers:=[]}/\∃k,b4 (base+e) k/\gF a4.heap.size k W'/\uJ k.heap.size W' C x.1 ad cp/\B<=k.heap.size) ?hAx2 ?assign2 ?body2 ?done2 ?stop2
    case hI2=>
     refine(aIx a5.o a0 _).and ((aC4 (λ_ _ _ i e=>⟨i.1.kept e,e.boxed i.2 (by decide)⟩)).and ?_);rintro _ p y row ⟨J,M⟩ l o;exact⟨zr J l.size,aFd c4 l o M⟩
    case hIx2=>
     rintro a6 s p y row ⟨J,⟨e,M⟩,c0⟩ l o;exact⟨J,⟨e,xG d5 a0 e p y row M l o⟩,aFd c4 l o c0⟩
    case h02=>exact⟨d3,⟨d2,k5⟩,zq _,c4⟩
    case hAx2=>
     rintro e x A _ p y row ⟨C,ad,cp,J,k,c0,e4,M,e5⟩ l o;exact⟨C,ad,cp,J,k,c0,e4.trans (gF.grown l o),M.kept (dH.grown l (λr z=>(o r z).2)),e5⟩
    case assign2=>
     rintro f4 e x e3 k t K P ⟨a8,_⟩ b1 ⟨a9,⟨q,u⟩,E,c5⟩ ⟨ad,cp,rfl,c2,a7⟩ hK;have e1:=O c2;clear c2;gi_wp2
     have m:aB t (t.alloc (.cells #[iQ x.1.r,iQ x.1.a,iQ x.1.b,iQ x.1.i,iQ x.1.j,.slice ad (Z x.1.c) cp] 48)):=aI t _;exact hK _ _ (Mv.of_below (S:=[]) (B:=0) m).keepsFrom (cK m) ⟨rR a5.o a9 m,⟨q.kept (cK m),(cK (S:=cZ) m).boxed u (by decide)⟩,zr E m.size,λf hD=>(m.block f (bA (c5 f hD))).trans (c5 f hD)⟩ ⟨t.heap.size,ad,cp,rfl,k,a8,b1.trans (gF.below m),⟨zt t _,e1.o.below m⟩,a7⟩
    case body2=>
     rintro f4 e x A t j8 P ⟨a9,⟨q,u⟩,E,c5⟩ ⟨C,ad,cp,rfl,k,a8,b1,b0,a7⟩;obtain⟨l4,l5,l6,l7,l8,l9⟩:=b0.cells;have f6:=u.cell;have e7:=g0.o (base+e) x #[.agg #[iQ x.1.r,iQ x.1.a,iQ x.1.b,iQ x.1.i,iQ x.1.j,.slice ad (Z x.1.c) cp],iQ x.2] k t (i9.o e x P) a8 (b1.low a0) ⟨ad,cp,rfl,b0.2,a7⟩;obtain⟨j7,l0,assign,body,k6,e6⟩:=e7;have b2:=O q;have b6:=O u;have e2:=O E;have f7:=O c5;clear q u E b0 a9 c5;gi_wp2
     refine⟨λ_=>by omega,(aAe e6).mono ?_⟩;rintro z j4 (⟨rfl,hJ4,hk4⟩|⟨rfl,hJx4,hk4⟩)
     .gi_wp2
      exact⟨nB hk4.2 a0,hk4.1,hJ4,⟨b2.o.kept hk4.1,hk4.1.boxed b6.o (by decide)⟩,zr e2.o hk4.1.size,λf hD=>hk4.2.same f _ (b3.o f hD).1 (f7.o f hD) rfl⟩
     gi_wp2
     exact⟨nB hk4 a0,rfl,⟨_,hJx4⟩,λf hD=>hk4.same f _ (b3.o f hD).1 (f7.o f hD) rfl⟩
    case stop2=>
     rintro a6 e b7 ⟨rfl,⟨f3,X⟩,f0⟩ hK;gi_wp2
     refine aC6 (N:=W.heap.size) (I:=λW'=>∃e,c7 e W') rfl (λ_ p y row ⟨e,i⟩ l o=>⟨e,d5 e p y row i l o⟩) (λv w i=>⟨⟨_,rfl⟩,.inr i⟩) (a4.heap.size::F) b7 ⟨f3,X⟩ (λf hD=>?_) (List.nodup_cons.2 ⟨λi=>?_,f2⟩)
     .rcases List.mem_cons.1 hD with rfl|hD
      .exact⟨a0,hK⟩
      exact⟨(b3.o f hD).1,f0 f hD⟩
     have:=(bA (c4 _ i));omega
    case done2=>
     rintro b7 ⟨X,⟨c1,d9⟩,d8,f0⟩ hK;have g9:(j:Int)+1=((j+1:Nat):Int):=rfl;have i8:=O g9;clear g9;gi_wp2
     rw[i8.o];refine⟨⟨j+1,a4.heap.size::F,iQ b,.bool zs,jZ H j,iQ b,.slice a2 (Z a) a3,iQ d,iQ b,.func (.func 157) #[] #[pQ d0,pQ d1,pQ c8,pQ c9],iQ ((j+1:Nat):Int),rfl,by omega,?_,⟨c1,d9⟩,zr h5 d8,λf hD=>?_,List.nodup_cons.2 ⟨λi=>?_,f2⟩⟩,?_⟩
     .rw[j2.o,<-z5,yv,i7.o];exact X
     .rcases List.mem_cons.1 hD with rfl|hD
      .exact⟨a0,hK⟩
      exact⟨(b3.o f hD).1,f0 f hD⟩
     .have:=(bA (c4 _ i));omega
     simp[intOf];omega
   have j9:¬(j:Int)<(Z g:Int):=by omega
   have k4:j=Z g:=by omega
   gi_wp2
   refine aC6 (N:=W.heap.size) (I:=λW'=>b4 (Z (eV a d g)) W') rfl (λ_ p y row i l o=>a5.o _ p y row i l o) (λv w i=>⟨⟨_,rfl⟩,.inl i⟩) F w' ?_ f1 f2;rw[k4,yl]at d4;exact d4
end
section
attribute [local go_sem] z8
def bT:List (aJ×Int)->List Cd->Nat->Bool->List Cd->Nat->Bool->Prop
 |[],L,n,b,L',n',b'=>L'=L/\n'=n/\b'=b
 |x::r,L,n,b,L',n',b'=>
  if x.2≠0\/bN x.1.c=zp then bT r L n zs L' n' b'
  else if dU x.1.c=zs then bT r L n b L' n' b'
  else ∃ad cp,bT r (fI (Z L) (L++[gV x.1 ad cp n]) (Z L)) (n+1) b L' n' b'
theorem bT.snoc{x:aJ×Int}{j:List Cd}{p:Nat}{l:Bool}:∀(d:List (aJ×Int)) {e f:List Cd}{n i:Nat}{b g:Bool},bT d e n b f i g->bT [x] f i g j p l->bT (d++[x]) e n b j p l
 |[],e,f,n,i,b,g,a,k=>by
  obtain⟨rfl,rfl,rfl⟩:=a;exact k
 |y::d,e,f,n,i,b,g,a,k=>by
  show bT (y::(d++[x])) e n b j p l;unfold bT at a ⊢;split
  .rename_i m;rw[aT m]at a;exact bT.snoc d a k
  rename_i m;rw[aS m]at a;split
  .rename_i o;rw[aT o]at a;exact bT.snoc d a k
  rename_i o;rw[aS o]at a;obtain⟨ad,cp,a⟩:=a;exact⟨ad,cp,bT.snoc d a k⟩
theorem bT.len:∀(d:List (aJ×Int)) {e f:List Cd}{n g:Nat}{b i:Bool},bT d e n b f g i->Z f<=Z e+Z d/\g<=n+Z d
 |[],e,f,n,g,b,i,a=>by
  obtain⟨rfl,rfl,rfl⟩:=a;simp
 |y::d,e,f,n,g,b,i,a=>by
  unfold bT at a;split at a
  .have:=bT.len d a;simp;omega
  split at a
  .have:=bT.len d a;simp;omega
  obtain⟨ad,cp,a⟩:=a;have:=bT.len d a;rw[aH2]at this;simp at this ⊢;omega
theorem cB.bigged{e:List Cd}{f:List (aJ×Y)}(a:cB B w sb hp v vs vk e n f ks big)(b:Bool):cB B (zu w (aQ sb 4) (.bool b)) sb hp v vs vk e n f ks b/\Mv [127] B w (zu w (aQ sb 4) (.bool b)):=by have j:=(bA a.box);have d:Mv [127] B w (zu w (aQ sb 4) (.bool b)):=Mv.of_grown (cD w (aQ sb 4) _) (λk i=>by cases i;exact⟨a.base,_,_,a.box,by simp⟩);refine⟨⟨?_,⟨d.cells a.heap.box (by decide),d.row a.heap.row (by decide),a.heap.base⟩,a.st.kept d.kps (by decide) (by decide) (by decide),d.row a.kp (by decide),λx g=>⟨d.clause (a.cl x g).1 (by decide) (by decide),(a.cl x g).2⟩,a.base,a.ap.kps a.cls d.kps (by decide)⟩,d⟩;show (w.heap.modify sb _)[sb]?=_;rw[zn (by rw[zf];exact j),zm,(Array.getElem?_eq_some_iff.1 a.box).2];rfl
theorem cB.rekept{f:Y}{j:List Cd}{k:List (aJ×Y)}{m:List Nat}(a:cB B w sb hp v vs vk j n k ks big)(d:Mv [3] B w w')(i:eQ B w' f m):cB B (zu w' (aQ sb 3) f) sb hp v vs f j n k m big/\Mv [3,127] B w (zu w' (aQ sb 3) f)/\U w' (aQ sb 3)=V vk/\zl w' (aQ sb 3)=false:=by have g:=d.cells a.box (by decide);have o:=(bA g);have e:Mv [127] B w' (zu w' (aQ sb 3) f):=Mv.of_grown (cD w' (aQ sb 3) _) (λp i=>by cases i;exact⟨a.base,_,_,g,by simp⟩);refine⟨⟨?_,⟨e.cells (d.cells a.heap.box (by decide)) (by decide),e.row (d.row a.heap.row (by decide)) (by decide),a.heap.base⟩,(a.st.kept d.kps (by decide) (by decide) (by decide)).kept e.kps (by decide) (by decide) (by decide),e.row i (by decide),λx l=>⟨e.clause (d.clause (a.cl x l).1 (by decide) (by decide)) (by decide) (by decide),(a.cl x l).2⟩,a.base,a.ap.kps a.cls ((d.mono (S':=[3,127]) (by decide) (zq _)).trans (e.mono (by decide) (zq _))).kps (by decide)⟩,(d.mono (by decide) (zq _)).trans (e.mono (by decide) (zq _)),by simp[U,g],by simp[zl,g]⟩;show (w'.heap.modify sb _)[sb]?=_;grind
theorem bJ4(B sb hp:Nat)(v vs vk:Y)(G:List Cd)(n:Nat)(d:List (aJ×Y))(ks:List Nat)(big:Bool)(l m:Nat)(s:aJ)(ad:Option Addr)(cp:Nat)(w:zv)(e:cB B w sb hp v vs vk G n d ks big)(t:w.heap[l]?=V (.cells #[iQ s.r,iQ s.a,iQ s.b,iQ s.i,iQ s.j,.slice ad (Z s.c) cp] 48 (0,0)))(F:Boxed w m 80 (pQ sb))(y:bP B w (.slice ad (Z s.c) cp) s.c)(z:∀a∈ks,mP s.c (aO d a))(A:∀a∈ks,a<Z d)(C:Z ks<=1000000):Calls zj 104 #[vk,.func (.func 105) #[] #[pQ l,pQ m]] w λi w'=>∃p E k,i=.returned (.slice p E k)/\eQ B w' (.slice p E k) (ks.filter λa=>!bL s.c (aO d a))/\Mv [3] B w w':=by
 obtain⟨p,k,rfl⟩:=e.kp.shape;obtain⟨_,_,H,_,_⟩:=e.cells;cases hany:ks.any (λa=>bL s.c (aO d a))
 .have J:(ks.filter λa=>!bL s.c (aO d a))=ks:=by
   rw[List.filter_eq_self];intro a f;cases hp:bL s.c (aO d a)
   .rfl
   rw[List.any_eq_true.2 ⟨a,f,hp⟩]at hany;cases hany
  refine(bE3 B l m (λa=>bL s.c (aO d a)) p k ks w e.kp C (λa f j g=>aSq B sb vs d l m a s ad cp j (aC g H) (e.st.kept (S:=[]) (cK g) (by simp) (by simp) (by simp)) ((g.block _ (bA t)).trans t) ((cK (S:=cZ) g).boxed F (by decide)) (y.below g) (z a f) (A a f)) hany).mono ?_;rintro i w' ⟨rfl,q⟩;exact⟨p,_,k,rfl,by rw[J];exact bF e.kp q (zq _),Mv.of_below q⟩
 obtain⟨a0,P,_⟩:=List.any_eq_true.1 hany;obtain⟨X,N,_⟩:=List.getElem_of_mem P;obtain⟨u,rfl,_⟩:=e.kp.cell N;have D:∀j,zk w j (V u)->Mv [3] B w j:=λj g=>Mv.of_grown g (λa f=>by
  cases f;obtain⟨_,⟨i,_⟩|⟨T,R,I,i,q,M,_⟩⟩:=e.kp
  .cases i
  simp at i;obtain⟨rfl,_⟩:=i;exact⟨q,I,_,M,by simp⟩)
 refine(bE4 B l m (λa=>bL s.c (aO d a)) u k ks w e.kp C (λa f j g=>?_) hany).mono ?_
 .have o:=D j g;exact aSq B sb vs d l m a s ad cp j (by have:=o.cells e.box (by decide);simp[U,this]) (e.st.kept o.kps (by decide) (by decide) (by decide)) (o.cells t (by decide)) (o.boxed F (by decide)) (o.clause y (by decide) (by decide)) (z a f) (A a f)
 rintro i w' ⟨rfl,Q,L⟩;exact⟨_,_,k,rfl,Q,D w' L⟩
end
section
set_option linter.unusedSimpArgs false
attribute [local go_sem] z8
structure nI(c:List Lt):Prop where
 len:Z c<=100
 nodes:∀x∈c,Z x.2<=100000/\∀k (h:k<Z x.2),x.2[k].1.size<=80
theorem bP.wide(f:bP B w (.slice ad n cp) c)(a:nI c):bU w ad c:=by
 obtain⟨e,d,k,o,p⟩:=f;have g:n=Z c:=by grind[aZ]
 subst g;refine zT (P:=e) k d (λj i=>?_) (by have:=a.len;omega);obtain⟨l,m⟩:=a.nodes j.1 (by rw[<-d];simp;exact⟨_,i⟩);grind[wC,fN,bP,jB,bH]
structure qH(sb hp n:Nat)(vs vk:Y)(big:Bool)(r:Nat)(s:aJ)(ad:Option Addr)(cl cp:Nat)(W:zv):Prop where
 sr:W.heap[sb]?=V (.cells #[pQ hp,iQ n,vs,vk,.bool big] 127 (0,0))
 st:W.heap[r+1]?=V (.cells #[iQ s.r,iQ s.a,iQ s.b,iQ s.i,iQ s.j,.slice ad cl cp] 48 (0,0))
def mQ(sb r:Nat)(W:zv):Prop:=Boxed W r 80 (pQ sb)
theorem qH.cells{a:Nat}(d:qH sb hp n vs vk big r s ad a cp W):U W (aQ sb 2)=V vs/\U W (aQ sb 3)=V vk/\U W (aQ (r+1) 0)=V (iQ s.r)/\U W (aQ (r+1) 1)=V (iQ s.a)/\U W (aQ (r+1) 2)=V (iQ s.b)/\U W (aQ (r+1) 3)=V (iQ s.i)/\U W (aQ (r+1) 4)=V (iQ s.j)/\U W (aQ (r+1) 5)=V (.slice ad a cp):=by obtain⟨e,f⟩:=d;refine⟨?_,?_,?_,?_,?_,?_,?_,?_⟩<;>simp[U,e,f]
theorem qH.grown{e:Nat}(a:qH sb hp n vs vk big r s ad e cp W)(f:zk W W' row)(g:row≠V sb)(i:row≠V (r+1)):qH sb hp n vs vk big r s ad e cp W':=
 ⟨(f.block _ (bA a.sr) (λd=>g d.symm)).trans a.sr,(f.block _ (bA a.st) (λd=>i d.symm)).trans a.st⟩
theorem qH.below{d:Nat}(a:qH sb hp n vs vk big r s ad d cp W)(hb:aB W W'):qH sb hp n vs vk big r s ad d cp W':=
 ⟨(hb.block _ (bA a.sr)).trans a.sr,(hb.block _ (bA a.st)).trans a.st⟩
theorem mQ.below(a:mQ sb r W)(hb:aB W W'):mQ sb r W':=(hb.block _ (bA a)).trans a
theorem mQ.grown(a:mQ sb r W)(f:zk W W' row)(e:row≠V r):mQ sb r W':=(f.block _ (bA a) (λd=>e d.symm)).trans a
theorem aFe:(Tryz.prog.info? 48).map (λa=>(a.zero,a.size,a.bytes))=V (V (.agg #[iQ 0,iQ 0,iQ 0,iQ 0,iQ 0,nQ]),6,64):=by kernel_rfl
theorem bJ5:(Tryz.prog.info? 3).map (λa=>(a.zero,a.size,a.bytes))=V (V (iQ 0),1,8):=by kernel_rfl
structure uK(B:Nat)(wc:zv)(sb hp n:Nat)(vs vk:Y)(big:Bool)(r:Nat)(s:aJ)(ad:Option Addr)(cl cp:Nat)(ks:List Nat)(x:Y)(m:Nat)(xs:List Y)(W:zv):Prop where
 held:qH sb hp n vs vk big r s ad cl cp W
 bx:mQ sb r W
 rk:eQ B W vk ks
 rs:zb W B 48 6 x m xs
 mv:Mv [3,48] B wc W
 nb:zi vs≠V (r+1)
 base:B<=W.heap.size
section
variable {B:Nat}{wc:zv}{sb hp n:Nat}{vs vk:Y}{big:Bool}{r:Nat}{s:aJ}{ad:Option Addr}{cl cp:Nat}{ks:List Nat}{x:Y}{m:Nat}{xs:List Y}{W W':zv}
theorem uK.below(a:uK B wc sb hp n vs vk big r s ad cl cp ks x m xs W)(hb:aB W W'):uK B wc sb hp n vs vk big r s ad cl cp ks x m xs W':=
 ⟨a.held.below hb,a.bx.below hb,bF a.rk hb (zq _),bF a.rs hb (zq _),a.mv.trans (Mv.of_below hb),a.nb,zr a.base hb.size⟩
theorem aJj{a:Nat}{d:TypeId}{q:Nat}{f:Nat}{p:List Y}(o:zb W a d q v f p)(k:zk W W' (zi v))(j:d∈S):Mv S a W W':=Mv.of_grown k (λf e=>by
 obtain⟨_,⟨rfl,_⟩|⟨u,t,g,rfl,i,l,_⟩⟩:=o
 .cases e
 cases e;exact⟨i,g,_,l,j⟩)
theorem uK.app{g:Y}{f:Nat}{i:List Y}(a:uK B wc sb hp n vs vk big r s ad cl cp ks vs m xs W)(j:zb W' B 48 6 g f i)(d:zk W W' (zi vs)):uK B wc sb hp n vs vk big r s ad cl cp ks g f i W':=
 have e:Mv [48] B W W':=aJj a.rs d (by simp);⟨a.held.grown d (eX a.rs a.held.sr (by decide)) a.nb,a.bx.grown d (eX a.rs a.bx (by decide)),e.row a.rk (by decide),j,a.mv.trans (e.mono (by decide) (zq _)),a.nb,zr a.base d.size⟩
theorem uK.fin(a:uK B wc sb hp n vs vk big r s ad cl cp ks x m xs W)(d:zk W W' (zi vk)):qH sb hp n vs vk big r s ad cl cp W'/\mQ sb r W'/\zb W' B 48 6 x m xs/\Mv [3,48] B wc W':=
 have e:Mv [3] B W W':=aJj a.rk d (by simp);⟨a.held.grown d (eX a.rk a.held.sr (by decide)) (eX a.rk a.held.st (by decide)),a.bx.grown d (eX a.rk a.bx (by decide)),e.row a.rs (by decide),a.mv.trans (e.mono (by decide) (zq _))⟩
end
theorem qH.set2{j:Nat}(d:qH sb hp n vs vk big r s ad j cp W)(k:mQ sb r W)(i:r≠sb)(x:Y):U W (aQ sb 2)=V vs/\zl W (aQ sb 2)=zp/\U (zu W (aQ sb 2) x) (aQ sb 3)=V vk/\zl (zu W (aQ sb 2) x) (aQ sb 3)=zp/\mQ sb r (zu W (aQ sb 2) x)/\∀e,mQ sb r (zu (zu W (aQ sb 2) x) (aQ sb 3) e):=by
 have l:=(bA d.sr);have g:(zu W (aQ sb 2) x).heap[sb]?=V (.cells #[pQ hp,iQ (n:Nat),x,vk,.bool big] 127 (0,0)):=by show (W.heap.modify sb _)[sb]?=_;rw[zn (by rw[zf];exact l),zm,(Array.getElem?_eq_some_iff.1 d.sr).2];rfl
 have f:=k.grown (cD W (aQ sb 2) x) (λa=>by simp at a;exact i a.symm);exact⟨d.cells.1,by simp[zl,d.sr],by simp[U,g],by simp[zl,g],f,λe=>f.grown (cD _ (aQ sb 3) e) (λa=>by simp at a;exact i a.symm)⟩
theorem aSu{d:List Cd}{e:List (aJ×Y)}{a:aJ×Y}(f:nG w (eD d e))(hp:bP B w a.2 a.1.c):nG w (eD d (e++[a])):=λi g=>by
 grind[aJ0,bP,nG,eD]
theorem cB.two{d g:Y}{j:List Cd}{f:List (aJ×Y)}{ks':List Nat}{p:aJ×Y}(a:cB B w sb hp v vs vk j n f ks big)(o:Mv [3,48] B w w')(q:bP B w p.2 p.1.c)(E:zb w' B 48 6 d (Z f+1) (gN f++lH p))(i:eQ B w' g ks')(y:Ap w (p.2::eD j f)):cB B (zu (zu w' (aQ sb 2) d) (aQ sb 3) g) sb hp v d g j n (f++[p]) ks' big/\Mv [3,127,48] B w (zu (zu w' (aQ sb 2) d) (aQ sb 3) g):=by
 have k:=o.cells a.box (by decide);have z:=(bA k);have l:(zu w' (aQ sb 2) d).heap[sb]?=V (.cells #[pQ hp,iQ (n:Nat),d,vk,.bool big] 127 (0,0)):=by show (w'.heap.modify sb _)[sb]?=_;rw[zn (by rw[zf];exact z),zm,(Array.getElem?_eq_some_iff.1 k).2];rfl
 have A:=(bA l);have C:Mv [127] B w' (zu w' (aQ sb 2) d):=Mv.of_grown (cD w' (aQ sb 2) _) (λF i=>by cases i;exact⟨a.base,_,_,k,by simp⟩);have D:Mv [127] B (zu w' (aQ sb 2) d) (zu (zu w' (aQ sb 2) d) (aQ sb 3) g):=Mv.of_grown (cD _ (aQ sb 3) _) (λF i=>by cases i;exact⟨a.base,_,_,l,by simp⟩);have m:=C.trans D;have e:Mv [3,127,48] B w (zu (zu w' (aQ sb 2) d) (aQ sb 3) g):=(o.mono (by decide) (zq _)).trans (m.mono (by decide) (zq _));refine⟨⟨?_,⟨e.cells a.heap.box (by decide),e.row a.heap.row (by decide),a.heap.base⟩,⟨?_,λG hq=>?_⟩,m.row i (by decide),λu t=>⟨e.clause (a.cl u t).1 (by decide) (by decide),(a.cl u t).2⟩,a.base,(y.perm (aJ0 j f p)).kps (aSu a.cls q) e.kps (by decide)⟩,e⟩
 .show ((zu w' (aQ sb 2) d).heap.modify sb _)[sb]?=_;rw[zn (by rw[zf];exact A),zm,(Array.getElem?_eq_some_iff.1 l).2];rfl
 .have:=m.row E (by decide);simpa[gN]using this
 rcases List.mem_append.1 hq with hq|hq
 .exact e.clause (a.st.cl G hq) (by decide) (by decide)
 simp at hq;subst hq;exact e.clause q (by decide) (by decide)
def oZ:List TypeId:=[127,168,124,48,3]
noncomputable def dE(a:List (aJ×Y))(ks:List Nat)(c:List Lt):List Nat:=(ks.filter λd=>!bL c (aO a d))++[a.length]
theorem cB.kps{d:List Cd}{e:List (aJ×Y)}(a:cB B W sb hp v vs vk d n e ks big)(k:dH [] W W'):cB B W' sb hp v vs vk d n e ks big:=
 ⟨k.kc _ _ _ a.box (by simp),⟨k.kc _ _ _ a.heap.box (by simp),k.row a.heap.row (by simp),a.heap.base⟩,a.st.kept k (by simp) (by simp) (by simp),k.row a.kp (by simp),λx f=>⟨k.clause (a.cl x f).1 (by simp) (by simp),(a.cl x f).2⟩,a.base,a.ap.kps a.cls k (by simp)⟩
theorem aJk{β:Type}{f:Nat}{j:zv}(t:j.heap.size<=f):OwnFrom f (λ(_:β) W=>Mv S B j W):=λ_ p q row a d m=>
 ⟨d.os.trans a.os,d.tape.trans a.tape,d.output.trans a.output,zr a.size d.size,λe o i l=>by
  have g:=a.keep e o i l;refine(d.block e (bA g) (λk=>?_)).trans g;have:=(m e k.symm).1;have:=(bA i);omega⟩
def oM(B sb hp r:Nat)(vs vk:Y)(i:List (aJ×Y))(ks:List Nat)(f:List (aJ×Int))(g:List Cd)(n:Nat)(big:Bool)(l:zv)(j:Nat)(W:zv):Prop:=
 (∃k a e d,cB B W sb hp k vs vk a e i ks d/\bT (f.take j) g n big a e d)/\mQ sb r W/\Mv oZ B l W
theorem oM.own{T:List (aJ×Y)}{i:List (aJ×Int)}{j:List Cd}{g:zv}{N:Nat}(z:g.heap.size<=N):OwnFrom N (oM B sb hp r vs vk T ks i j n big g):=λk X a row p d f=>by
 obtain⟨⟨C,l,A,m,q,t⟩,u,y⟩:=p;have e:dH [] X a:=dH.grown d (λr o=>(f r o).2);exact⟨⟨C,l,A,m,q.kps e,t⟩,e.kc _ _ _ u (by simp),aJk z () X a row y d f⟩
theorem oM.next{g:List (aJ×Y)}{a:List (aJ×Int)}{d e f:List Cd}{l m:Nat}{i j:Bool}{o:zv}{k:Nat}{x:aJ×Int}{v':Y}(A:a[k]?=V x)(p:bT (a.take k) d n big e l i)(q:bT [x] e l i f m j)(u:mQ sb r W)(z:Mv oZ B o W)(t:cB B W' sb hp v' vs vk f m g ks j)(y:Mv cZ B W W'):oM B sb hp r vs vk g ks a d n big o (k+1) W':=by grind[Mv.boxed,Mv.mono,Mv.trans,bT.snoc,rT,mQ,oM,bT,cZ,oZ]
theorem bJ6(B sb hp:Nat)(v vs vk:Y)(q:List Cd)(n:Nat)(a:List (aJ×Y))(ks:List Nat)(big:Bool)(s:aJ)(ad:Option Addr)(cp:Nat)(w:zv)(l:cB B w sb hp v vs vk q n a ks big)(e6:bP B w (.slice ad (Z s.c) cp) s.c)(m0:Ap w (.slice ad (Z s.c) cp::eD q a))(o2:bD s.c=zs)(o1:∀e9∈a,bD e9.1.c=zs)(m8:∀e∈ks,mP s.c (aO a e))(h9:∀e∈ks,e<Z a)(s8:Z ks<=1000)(s4:Z a<=1000)(h5:B<=w.heap.size)
  (u:List (aJ×Int)) (l5:u=eV (a++[(s,.slice ad (Z s.c) cp)]) (Z a) (dE a ks s.c)) (l4:∀x∈u,nI x.1.c/\(x.2=0->bN x.1.c=zs->bD x.1.c=zs)) (s3:Z q+Z u<=1000000) (t2:n+Z u<=1000000):Calls zj 66 #[pQ sb,tI s ad cp] w λd w'=>(∃M,d=.returned M)/\∃d4 g6 g5 a5 b9 b3,cB B w' sb hp d4 g6 g5 a5 b9 (a++[(s,.slice ad (Z s.c) cp)]) (dE a ks s.c) b3/\bT u q n big a5 b9 b3/\Mv oZ B w w':=by
 obtain⟨t3,t4,rfl⟩:=l.kp.shape;obtain⟨N,r5,e1,c0,g7⟩:∃N,(w.alloc (.cells #[pQ sb] 80)).alloc (.cells #[iQ s.r,iQ s.a,iQ s.b,iQ s.i,iQ s.j,.slice ad (Z s.c) cp] 48)=N/\aB w N/\Boxed N w.heap.size 80 (pQ sb)/\N.heap[w.heap.size+1]?=V (.cells #[iQ s.r,iQ s.a,iQ s.b,iQ s.i,iQ s.j,.slice ad (Z s.c) cp] 48 (0,0)):=by refine⟨_,rfl,(aI w _).alloc (by simp) _,(Below.heap_alloc _ _ _ (by simp)).trans (zt w _),?_⟩;have:=zt (w.alloc (.cells #[pQ sb] 80)) (.cells #[iQ s.r,iQ s.a,iQ s.b,iQ s.i,iQ s.j,.slice ad (Z s.c) cp] 48);rwa[yp]at this
 have A:=l.below e1;have g0:=e6.below e1;have j1:aE (Ap N (.slice ad (Z s.c) cp::eD q a)/\nG N (.slice ad (Z s.c) cp::eD q a)):=O ⟨m0.kps (S:=[]) (λM hu=>by
  rcases List.mem_cons.1 hu with rfl|hu
  .exact⟨B,_,e6⟩
  .exact l.cls M hu) (cK e1) (by simp),λM hu=>by
  rcases List.mem_cons.1 hu with rfl|hu
  .exact⟨B,_,g0⟩
  exact A.cls M hu⟩
 clear m0;obtain⟨_,_,_,l0,_⟩:=A.cells;have u1:=c0.cell;have i8:=O (λ(F:zv) (b1:∃p,F=N.drewN p)=>(bJ4 B sb hp v vs _ q n a ks big (w.heap.size+1) w.heap.size s ad cp F (by obtain⟨p,rfl⟩:=b1;exact A.below (aN ⟨p,rfl⟩)) (by obtain⟨p,rfl⟩:=b1;exact g7) (by obtain⟨p,rfl⟩:=b1;exact c0) (by obtain⟨p,rfl⟩:=b1;exact g0.below (aN ⟨p,rfl⟩)) m8 h9 (by omega)).mono (R':=λd g=>∃H L J,d=.returned (.slice H L J)/\eQ B g (.slice H L J) (ks.filter λe=>!bL s.c (aO a e))/\Mv [3] B N g) (λd g b5=>by
  obtain⟨p,rfl⟩:=b1;obtain⟨H,L,J,R,c5,d9⟩:=b5;exact⟨H,L,J,R,c5,(Mv.of_below (aN ⟨p,rfl⟩)).trans d9⟩))
 have r4:w.heap.size≠sb:=λd=>by have:=(bA l.box);omega
 have j9:=O l;have j0:=O A;have o9:=O g0;have c2:=O c0;have k6:=O g7;have j3:=O e1;have p0:=O l4;have j8:=O l5;have p6:=O o1;have p5:=O o2;have p8:=O h9;clear l A e6 g0 c0 g7 e1 l4 l5 o1 o2 h9 m8;unfold tI;refine(callsIn_wide (n:=8)).1 ?_;refine callsIn_of_wp_marks Tryz.func66 rfl trivial ?_;simp only[Tryz.ntmps66,yu,yn,List.length_nil,Nat.reduceAdd,Nat.reduceSub,yz,yy,yt,yx,List.nil_append,ym];refine wpIn_wide.2 ?_;go_wp2;clear r5;have t1:Tryz.prog.follows .mixedOrders=true:=by kernel_rfl
 go_cut [] from 7 (λF=>∃H L J,cB B F sb hp v vs (.slice H L J) q n a (ks.filter λe=>!bL s.c (aO a e)) big/\Mv [3,127] B N F)
 case first=>
  refine tT ?_;go_region_law (refine aEs (by rfl) 104 _ _ (by rfl) (enters_of Tryz.func104 (by kernel_rfl) rfl) _ (by rfl) (aD i8 _ ⟨1,rfl⟩) ?_;rintro d g ⟨H,L,J,rfl,d0,i0⟩;refine⟨_,rfl,?_⟩;obtain⟨T,c6,q6,s2⟩:=j0.o.rekept i0 d0;have o5:=(i0.boxed c2.o (by decide)).cell;have f4:=O T;have m:=O c6;clear d0 i0 T c6);all_goals
   refine tU ?_;go_wp2_with fail;go_meet;case rel=>exact⟨_,_,_,f4.o,m.o⟩
 case rest=>
  obtain⟨H,L,J,b4,h6⟩:=hcut;obtain⟨f0,f1,rfl⟩:=aZ b4.st.row;have o5:=(h6.boxed c2.o (by decide)).cell;obtain⟨_,_,l1,_,_⟩:=b4.cells;have c1:=O b4;have a4:=O h6;have k2:=O (show zi (ze f0 (Z a) f1)≠V (w.heap.size+1) from by
   obtain⟨_,⟨d,_⟩|⟨h4,s0,s1,d,C,r2,_⟩⟩:=j9.o.st.row
   .rw[d];simp[zi]
   rw[d];have:=(bA r2);simp[zi];omega)
  clear b4 h6 i8 j0 j9;go_upto_region 3 with(fail);go_cut [] from 7 (λF=>∃g6 g5,cB B F sb hp v g6 g5 q n (a++[(s,.slice ad (Z s.c) cp)]) (dE a ks s.c) big/\Mv [3,127,48] B N F)
  case first=>
   refine tT ?_;refine bC2 18 (qH sb hp n (.slice f0 (Z a) f1) (.slice H L J) big w.heap.size s ad (Z s.c) cp) (mQ sb w.heap.size) (by kernel_rfl) ⟨c1.o.box,a4.o.cells k6.o (by decide)⟩ (a4.o.boxed c2.o (by decide)) (λh8=>?_);refine aP2 (fuel:=10) (by kernel_rfl) (λ_ _ _ _ _ l=>l) [(zp,0,21,pQ sb),(zp,1,22,pQ sb),(zp,2,23,pQ sb),(zp,3,24,pQ sb),(zp,4,25,jZ sb 2),(zs,5,26,.slice f0 (Z a) f1),(zs,6,27,.agg #[iQ s.r,iQ s.a,iQ s.b,iQ s.i,iQ s.j,.slice ad (Z s.c) cp]),(zp,9,30,pQ sb),(zp,10,31,pQ sb),(zp,11,32,jZ sb 3),(zs,12,33,.slice H L J),(zp,13,34,iQ (Z a:Nat))] _ _ h8 ?_ ?_
   .repeat (refine And.intro ⟨_,rfl,rfl,by kernel_rfl,by kernel_rfl,by kernel_rfl,yk ⟨by rfl,λF t=>(by have r:=Boxed.cell t.2;first|(obtain⟨u4,u5,u6,v0,v1,v2,v3,v4⟩:=(t.1 rfl).cells;go_simp)|go_simp)⟩⟩ ?_;simp only[Act.put,zo,zh,zg])
    trivial
   simp only[List.foldl,Act.put,zo,zh,zg];have m1:=(aN (w:=wc) ⟨1,rfl⟩);have l7:uK B wc sb hp n (.slice f0 (Z a) f1) (.slice H L J) big w.heap.size s ad (Z s.c) cp (ks.filter λe=>!bL s.c (aO a e)) (.slice f0 (Z a) f1) (Z a) (gN a) wc.drew:=by refine uK.below ⟨⟨c1.o.box,a4.o.cells k6.o (by decide)⟩,a4.o.boxed c2.o (by decide),c1.o.kp,c1.o.st.row,Mv.refl _ _ _,k2.o,zr h5 (zr j3.o.size a4.o.size)⟩ m1
   have g8:=O l7;have e7:Z (ks.filter λe=>!bL s.c (aO a e))<=10000000:=by have:=zd (λe=>!bL s.c (aO a e)) ks;omega
   clear l7 m1;generalize wc.drew=k at g8 h8 ⊢;clear h8;refine aHn (rs:=[7,14]) (by kernel_rfl) (by simp) (oS.cons rfl (λK hK=>?oa) (oS.cons rfl (λK hK=>?ob) oS.nil));case' oa=>
    go_simp;have E:=O (g8.o.below (aI k (.cells #[iQ s.r,iQ s.a,iQ s.b,iQ s.i,iQ s.j,.slice ad (Z s.c) cp] 48)));have b7:=zt k (.cells #[iQ s.r,iQ s.a,iQ s.b,iQ s.i,iQ s.j,.slice ad (Z s.c) cp] 48);refine hK.out _ _ ⟨λ_=>E.o.held,E.o.bx⟩ ?_;generalize k.alloc (.cells #[iQ s.r,iQ s.a,iQ s.b,iQ s.i,iQ s.j,.slice ad (Z s.c) cp] 48)=W1 at E b7  ⊢;clear hK;refine aHn (rs:=[8,14]) (by kernel_rfl) (by simp) (oS.cons rfl (λK hK=>?oc) (oS.cons rfl (λK hK=>?od) oS.nil));case' oc=>
     refine dG aFe z6 E.o.rs ?_ (news:=(lH (s,.slice ad (Z s.c) cp))) (hX:=b7) (hb:=E.o.base);intro c0 c3 G o;have j:=O (E.o.app G o);obtain⟨i6,i7,rfl⟩:=aZ G;refine hK.out _ _ ⟨λ_=>j.o.held,j.o.bx⟩ ?_;clear hK G o;simp only[Act.put,zo,zh,zg];refine sS 14 (by kernel_rfl) rfl λK hK=>?_
     go_simp;have m:=O (j.o.below (aI c3 (.cells #[iQ (Z a:Nat)] 3)));have i:=zt c3 (.cells #[iQ (Z a:Nat)] 3);refine hK.out _ _ ⟨λ_=>m.o.held,m.o.bx⟩ ?_;generalize c3.alloc (.cells #[iQ (Z a:Nat)] 3)=k9 at m i  ⊢;clear hK;generalize c3.heap.size=h4 at i ⊢
    case' od=>
     go_simp;have j:=O (E.o.below (aI W1 (.cells #[iQ (Z a:Nat)] 3)));have i:=zt W1 (.cells #[iQ (Z a:Nat)] 3);have k8:=((aI W1 (.cells #[iQ (Z a:Nat)] 3)).block _ (bA b7)).trans b7;refine hK.out _ _ ⟨λ_=>j.o.held,j.o.bx⟩ ?_;generalize W1.alloc (.cells #[iQ (Z a:Nat)] 3)=c3 at j i k8 ⊢;clear hK;refine sS 8 (by kernel_rfl) rfl λK hK=>?_
     refine dG aFe z6 j.o.rs ?_ (news:=(lH (s,.slice ad (Z s.c) cp))) (hX:=k8) (hb:=j.o.base);intro c0 k9 G o;have m:=O (j.o.app G o);replace i:=(o.block _ (bA i) (λh3=>eX j.o.rs i (by decide) h3.symm)).trans i
     obtain⟨i6,i7,rfl⟩:=aZ G;refine hK.out _ _ ⟨λ_=>m.o.held,m.o.bx⟩ ?_;clear hK G o;simp only[Act.put,zo,zh,zg];generalize W1.heap.size=h4 at i ⊢
   case' ob=>
    go_simp;have E:=O (g8.o.below (aI k (.cells #[iQ (Z a:Nat)] 3)));have i:=zt k (.cells #[iQ (Z a:Nat)] 3);refine hK.out _ _ ⟨λ_=>E.o.held,E.o.bx⟩ ?_;generalize k.alloc (.cells #[iQ (Z a:Nat)] 3)=W1 at E i  ⊢;clear hK;refine sS 7 (by kernel_rfl) rfl λK hK=>?_
    go_simp;have j:=O (E.o.below (aI W1 (.cells #[iQ s.r,iQ s.a,iQ s.b,iQ s.i,iQ s.j,.slice ad (Z s.c) cp] 48)));have b7:=zt W1 (.cells #[iQ s.r,iQ s.a,iQ s.b,iQ s.i,iQ s.j,.slice ad (Z s.c) cp] 48);replace i:=((aI W1 (.cells #[iQ s.r,iQ s.a,iQ s.b,iQ s.i,iQ s.j,.slice ad (Z s.c) cp] 48)).block _ (bA i)).trans i
    refine hK.out _ _ ⟨λ_=>j.o.held,j.o.bx⟩ ?_;generalize W1.alloc (.cells #[iQ s.r,iQ s.a,iQ s.b,iQ s.i,iQ s.j,.slice ad (Z s.c) cp] 48)=c3 at j b7 i ⊢;clear hK;refine sS 8 (by kernel_rfl) rfl λK hK=>?_
    refine dG aFe z6 j.o.rs ?_ (news:=(lH (s,.slice ad (Z s.c) cp))) (hX:=b7) (hb:=j.o.base);intro c0 k9 G o;have m:=O (j.o.app G o);replace i:=(o.block _ (bA i) (λh3=>eX j.o.rs i (by decide) h3.symm)).trans i
    obtain⟨i6,i7,rfl⟩:=aZ G;refine hK.out _ _ ⟨λ_=>m.o.held,m.o.bx⟩ ?_;clear hK G o;simp only[Act.put,zo,zh,zg];generalize k.heap.size=h4 at i ⊢
   all_goals
    refine sS 15 (by kernel_rfl) rfl λK hK=>?_
    refine dG bJ5 Tryz.underlying24 m.o.rk ?_ (hX:=i) (hb:=m.o.base);intro g7 r9 d0 n2;have P:=O (m.o.fin n2);obtain⟨v5,v6,rfl⟩:=aZ d0;have p9:=O d0;refine hK.out _ _ ⟨λ_=>P.o.1,P.o.2.1⟩ ?_;clear hK d0 n2;simp only[Act.put,zo,zh,zg];refine sS 16 (by kernel_rfl) rfl λK hK=>?_
    go_simp;refine hK.out _ _ ⟨λ_=>P.o.1,P.o.2.1⟩ ?_;clear hK;refine sS 17 (by kernel_rfl) rfl λK hK=>?_
    go_simp;refine hK.out _ _ ⟨λ_=>P.o.1,P.o.2.1⟩ ?_;clear hK;obtain⟨i2,i3,i4,i5,d3,o4⟩:=P.o.1.set2 P.o.2.1 r4 (.slice i6 (Z a+1) i7);have q1:=O o4;clear o4;refine sS 18 (by kernel_rfl) rfl λK hK=>?_
    go_simp;refine hK.out _ _ ⟨λt=>zc (show zs=zp from t),d3⟩ ?_;clear hK;refine sS 19 (by kernel_rfl) rfl λK hK=>?_
    go_simp;refine hK.out _ _ ⟨λt=>zc (show zs=zp from t),d3⟩ ?_;clear hK;refine sS 20 (by kernel_rfl) rfl λK hK=>?_
    go_simp;refine hK.out _ _ ⟨λt=>zc (show zs=zp from t),d3⟩ ?_;clear hK;refine sS 21 (by kernel_rfl) rfl λK hK=>?_
    go_simp;refine hK.out _ _ ⟨λt=>zc (show zs=zp from t),q1.o _⟩ ?_;clear hK;refine bC1 (by kernel_rfl) ?_ _;refine tU ?_;have k4:=O (cB.two (p:=(s,.slice ad (Z s.c) cp)) c1.o P.o.2.2.2 (a4.o.clause o9.o (by decide) (by decide)) P.o.2.2.1 (ks':=dE a ks s.c) (by unfold dE eQ;rw[yv,List.map_append];exact p9.o) (j1.o.1.kps j1.o.2 a4.o.kps (by decide)));go_wp2_with fail;go_meet;case rel=>exact⟨_,_,k4.o.1,(a4.o.mono (by decide) (zq _)).trans k4.o.2⟩
  case rest=>
   obtain⟨g6,g5,T,c6⟩:=hcut;obtain⟨a1,a2,rfl⟩:=aZ T.st.row;obtain⟨X,a0,rfl⟩:=T.kp.shape;have o6:=(c6.boxed c2.o (by decide)).cell;obtain⟨_,_,h1,h2,_⟩:=T.cells;have c8:Z (a++[(s,ze ad (Z s.c) cp)])=Z a+1:=by simp
   have f4:=O T;have m:=O c6;have f2:=O (λ(F:zv) (b1:∃p,F=wc.drewN p)=>(aRf B a1 X _ _ a2 a0 _ (Z a) (dE a ks s.c) F (by obtain⟨p,rfl⟩:=b1;exact T.st.kept (S:=[]) (cK (aN ⟨p,rfl⟩)) (by simp) (by simp) (by simp)) (by obtain⟨p,rfl⟩:=b1;exact bF T.kp (aN ⟨p,rfl⟩) (zq _))).mono (R':=λd g=>∃a9 a7 a8,d=.returned (.func (.func 136) #[] #[pQ a9,pQ a7,pQ a8])/\uC B g a9 a7 a8 (.slice a1 (Z (a++[(s,ze ad (Z s.c) cp)])) a2) (.slice X (Z (dE a ks s.c)) a0) (a++[(s,.slice ad (Z s.c) cp)]) (Z a) (dE a ks s.c)/\aB wc g) (λd g b5=>by
    obtain⟨p,rfl⟩:=b1;obtain⟨a9,a7,a8,A,R,c5⟩:=b5;exact⟨a9,a7,a8,A,R,(aN ⟨p,rfl⟩).trans c5⟩))
   generalize htn:Z (a++[(s,ze ad (Z s.c) cp)])=tn at f2 h1;generalize hkn:Z (dE a ks s.c)=kn' at f2 h2;have q0:=O htn;have p7:=O hkn;clear T c6 c8 htn hkn c1 a4 k2 l1 o5;go_upto_region 4 with(fail);refine tT ?_;go_region_held3 (λw'=>cQ w' w.heap.size 0 (pQ sb)/\cQ w' sb 2 (.slice a1 tn a2)/\cQ w' sb 3 (.slice X kn' a0)) (go_keep)
    (first
     |(refine aEs (by rfl) 103 _ _ (by rfl) (enters_of Tryz.func103 (by kernel_rfl) rfl) _ (by rfl) (aD f2 _ ⟨1,rfl⟩) ?_;rintro d g ⟨a9,a7,a8,rfl,m9,e2⟩;refine⟨_,rfl,?_⟩;have q4:=aC e2 o6;have l0:=aC e2 h1;have q5:=aC e2 h2;have j7:=O m9;have f3:=O e2;clear m9 e2))
   refine tU ?_;go_wp2_with fail;have n1:=j7.o;have b4:=f4.o.below f3.o;have m6:mQ sb w.heap.size g:=mQ.below (m.o.boxed c2.o (by decide)) f3.o;have i1:Mv oZ B w g:=(Mv.of_below j3.o).trans ((m.o.mono (by decide) (zq _)).trans (Mv.of_below f3.o));have l9:∀e9∈a++[(s,ze ad (Z s.c) cp)],kB e9.1.c:=λe9 hp=>by
    rcases List.mem_append.1 hp with hp|hp
    .exact mB (p6.o e9 hp)
    simp at hp;subst hp;exact mB p5.o
   have n6:∀b∈dE a ks s.c,b<Z (a++[(s,ze ad (Z s.c) cp)]):=λb C=>by
    simp[dE]at C;simp;rcases C with⟨C,_⟩|rfl
    .have:=p8.o b C;omega
    omega
   have n5:Z (dE a ks s.c)<=1000000:=by have:=zd (λe=>!bL s.c (aO a e)) ks;simp[dE];omega
   have e8:w.heap.size<=g.heap.size:=i1.size;rw[q0.o,p7.o]at b4;clear j7 f4 m f3 q4 l0 q5 f2 o6 h1 h2;have n3:∀d1 d2,xF Fence.wide (8-1) zj 136 #[pQ a9,pQ a7,pQ a8] (vX B) cZ (eV (a++[(s,.slice ad (Z s.c) cp)]) (Z a) (dE a ks s.c)) ((g.alloc d1).alloc d2):=by
    intro d1 d2;have m3:aB g ((g.alloc d1).alloc d2):=(aI g d1).alloc (by simp) d2;have n4:=n1.kept (cK (S:=cZ) m3);have l2:B<=((g.alloc d1).alloc d2).heap.size:=zr (zr h5 e8) m3.size;have r3:Z a<Z (a++[(s,ze ad (Z s.c) cp)]):=by simp
    generalize (g.alloc d1).alloc d2=wy at n4 l2 ⊢;exact aSt (8-1) a9 a7 a8 B _ _ _ (Z a) _ (by omega) l9 r3 n6 n5 wy l2 n4
   refine(wpIn_wide (n:=8)).1 ?_;refine aBo (F:=Fence.wide) (n:=8) (w:=g) rfl (by omega) (gf:=136) (lb:=#[pQ a9,pQ a7,pQ a8]) rfl trivial (enters_of Tryz.func136 (by kernel_rfl) rfl)
    (Enc:=vX B) (S:=cZ) (L:=eV (a++[(s,.slice ad (Z s.c) cp)]) (Z a) (dE a ks s.c))
    ?hseq
    (λx q3 r8 W l=>by obtain⟨ad,cp,rfl,_⟩:=l;rfl)
    (oM B sb hp w.heap.size (.slice a1 tn a2) (.slice X kn' a0) (a++[(s,.slice ad (Z s.c) cp)]) (dE a ks s.c) u q n big w)
    (λ_ _ _=>False) (oM.own e8) (λc e f5 f6 row l _ _=>l) ⟨⟨v,q,n,big,b4,by simp[bT]⟩,m6,i1⟩
    (λe x h0 W'=>∃c4 y z,h0 = {tmps:=#[pQ sb,.agg #[iQ s.r,iQ s.a,iQ s.b,iQ s.i,iQ s.j,.slice ad (Z s.c) cp],pQ w.heap.size,pQ (w.heap.size+1),iQ (Z a:Nat),pQ c4,iQ x.2,u7,u8,u9,u10,u11,u12,u13,u14,u15,u16,u17,u18,u19,u20,u21,u22,u23,u24,u25,u26,u27,u28,u29,u30,u31,u32,u33,u34,u35,u36,u37,u38,u39,u40,pQ sb,pQ sb,jZ sb 2,.slice a1 tn a2,iQ (Z a:Nat),pQ sb,pQ sb,jZ sb 3,.slice X kn' a0,.func (.func 136) #[] #[pQ a9,pQ a7,pQ a8],.agg #[iQ x.1.r,iQ x.1.a,iQ x.1.b,iQ x.1.i,iQ x.1.j,.slice y (Z x.1.c) z],iQ x.2,u53,u54,u55,u56,u57,u58,u59,u60,u61,u62,u63,u64,u65,u66],defers:=[]}/\∃k,oM B sb hp w.heap.size (.slice a1 tn a2) (.slice X kn' a0) (a++[(s,.slice ad (Z s.c) cp)]) (dE a ks s.c) u q n big w e k/\gF g.heap.size k W'/\uJ k.heap.size W' c4 x.1 y z/\B<=k.heap.size) ?hAx ?assign ?body ?done ?stop
   case hseq=>exact n3
   case stop=>
    rintro c e W l _;exact l.elim
   case hAx=>
    rintro e x h0 _ f5 f6 row ⟨c4,ad,cp,A,k,c5,d9,R,r0⟩ o b8;exact⟨c4,ad,cp,A,k,c5,d9.trans (gF.grown o b8),R.kept (dH.grown o (λr d=>(b8 r d).2)),r0⟩
   case assign=>
    rintro g4 e x q3 k f K t l6 c9 e0 ⟨y,z,rfl,m7,f7⟩ hK;have o8:=O m7;have p4:=O l6;have p2:=O c9;have p3:=O e0;clear m7 e0 l6 c9;gi_wp2
    have e3:aB f (f.alloc (.cells #[iQ x.1.r,iQ x.1.a,iQ x.1.b,iQ x.1.i,iQ x.1.j,.slice y (Z x.1.c) z] 48)):=aI f _;exact hK _ _ (Mv.of_below (S:=[]) (B:=0) e3).keepsFrom (cK e3) (rR (oM.own (N:=g.heap.size) e8) p3.o e3) ⟨f.heap.size,y,z,rfl,k,p4.o,p2.o.trans (gF.below e3),⟨zt f _,o8.o.below e3⟩,f7⟩
   case done=>
    rintro q2 e0 hK;rw[<-j8.o]at e0;obtain⟨⟨d4,a5,b9,b3,A,R⟩,c5,d9⟩:=e0;rw[yl]at R;refine aC6 (N:=g.heap.size) (I:=λW'=>cB B W' sb hp d4 (.slice a1 tn a2) (.slice X kn' a0) a5 b9 (a++[(s,.slice ad (Z s.c) cp)]) (dE a ks s.c) b3/\Mv oZ B w W') rfl ?_ (λ_ w' l=>⟨⟨_,rfl⟩,d4,_,_,a5,b9,b3,l.1,R,l.2⟩) [g.heap.size] q2 ⟨A,d9⟩ (λr7 l3=>by simp at l3;subst l3;exact⟨zq _,hK⟩) (by simp);rintro M f5 f6 row ⟨q8,q9⟩ o b8;exact⟨q8.kps (dH.grown o (λr d=>(b8 r d).2)),aJk e8 M f5 f6 row q9 o b8⟩
   case body=>
    rintro g4 e ⟨a3,d⟩ h0 f s9 t _ ⟨c4,y,z,rfl,k,⟨⟨d4,a5,b9,b3,f8,c8⟩,m5,n8⟩,c9,f9,f7⟩;have g1:dH [] k f:=c9 (λW=>dH [] k W) (λ_ f5 f6 row l o b8=>l.trans (dH.grown o (λr d=>(b8 r d).2))) (dH.refl _ _);have c7:=f8.kps g1;have e4:mQ sb w.heap.size f:=g1.kc _ _ _ m5 (by simp);have g2:Mv oZ B w f:=c9.own (aJk (β:=Unit) e8) (s:=()) n8;have e5:uJ B f c4 a3 y z:=⟨f9.1,f9.2.low f7⟩;have j2:aE (Ap f (.slice y (Z a3.c) z::eD a5 (a++[(s,.slice ad (Z s.c) cp)]))/\nG f (.slice y (Z a3.c) z::eD a5 (a++[(s,.slice ad (Z s.c) cp)]))):=O ⟨Ap.add f8.ap f8.cls g1 (by simp) f9.2,λM hu=>by
     rcases List.mem_cons.1 hu with rfl|hu
     .exact⟨B,_,e5.2⟩
     exact c7.cls M hu⟩
    clear f8 m5 n8 c9 f9 f7 g1;have g3:u[e]?=V (a3,d):=by rw[j8.o];exact t
    obtain⟨o0,n0⟩:=p0.o _ (List.mem_of_getElem? g3);have t0:=bT.len _ c8;have s7:Z (u.take e)<=Z u:=List.length_take_le' _ _;have r1:B<=f.heap.size:=zr h5 g2.size;obtain⟨o3,i2,i3,i4,i5,d3⟩:=e5.cells;have o7:=Boxed.cell e4;obtain⟨_,_,_,_,r6⟩:=c7.cells;have q7:=c7.frz 4;have m4:∀a6,aB f a6->(d≠0\/bN a3.c=zp)->cQ a6 w.heap.size 0 (pQ sb)/\cQ a6 sb 4 (.bool b3)/\zl a6 (aQ sb 4)=zp/\KeepsFrom g.heap.size f (zu a6 (aQ sb 4) (.bool zs))/\dH cZ f (zu a6 (aQ sb 4) (.bool zs))/\oM B sb hp w.heap.size (.slice a1 tn a2) (.slice X kn' a0) (a++[(s,.slice ad (Z s.c) cp)]) (dE a ks s.c) u q n big w (e+1) (zu a6 (aQ sb 4) (.bool zs)):=by intro a6 C e6;have h7:=c7.below C;obtain⟨A,R⟩:=h7.bigged zs;have D:Mv cZ B f (zu a6 (aQ sb 4) (.bool zs)):=(Mv.of_below C).trans (R.mono (by decide) (zq _));refine⟨(e4.below C).cell,h7.cells.2.2.2.2,h7.frz 4,D.keepsFrom,D.kps,oM.next g3 c8 ?_ e4 g2 A D⟩;unfold bT;rw[aT e6];exact⟨rfl,rfl,rfl⟩
    have j4:=O m4;have k3:=O c7;have j6:=O e5;have k5:=O c8;have j5:=O e4;have k0:=O g2;have k7:=O g3;have p1:=O n0;have i9:=O (aBa y z a3.c f (e5.2.wide o0));clear m4 c7 e5 c8 e4 g2 t g3 n0 o0 n1 b4 m6 i1 l9 n6 n5 n3;by_cases b5:d=0
    .subst b5;clear r6 q7;gi_wp2
     refine⟨trivial,(z9 g4 (callsIn_wide.2 (aD i9))).mono ?_⟩;rintro d g9 ⟨rfl,b0⟩;have u2:=aC b0 o7;have t5:=aC b0 o3;have t6:=aC b0 i2;have t7:=aC b0 i3;have t8:=aC b0 i4;have t9:=aC b0 i5;have u0:=aC b0 d3;have b2:=O b0;clear b0 o3 i2 i3 i4 i5 d3 o7 i9;cases e7:bN a3.c
     .obtain⟨_,l1,q6,d6,d7,d8⟩:=j4.o g9 b2.o (yo e7);have b6:=O (show _/\_/\_ from⟨d6,d7,d8⟩);clear d6 d7 d8;gi_wp2
      exact b6.o
     have n9:=mB (p1.o (by first|exact rfl|trivial) e7);have k1:=O n9;clear n9;cases hid:dU a3.c
     .have d5:=O (aSo B sb hp d4 _ _ a5 b9 _ _ b3 a3 y z g9 (k3.o.below b2.o) (j6.o.2.below b2.o) k1.o hid (j2.o.1.kps (S:=[]) j2.o.2 (cK b2.o) (by simp)) (by omega) (by omega) (zr r1 b2.o.size));unfold tI at d5;gi_wp2
      refine⟨trivial,(z9 g4 (callsIn_wide.2 (aD d5))).mono ?_⟩;rintro d Q ⟨⟨M,rfl⟩,u3,l8,n7⟩;have D:Mv cZ B f Q:=(Mv.of_below b2.o).trans n7;have b6:=O (show KeepsFrom g.heap.size f Q/\dH cZ f Q/\oM B sb hp w.heap.size (.slice a1 tn a2) (.slice X kn' a0) (a++[(s,.slice ad (Z s.c) cp)]) (dE a ks s.c) u q n big w (e+1) Q from⟨D.keepsFrom,D.kps,oM.next k7.o k5.o (by
       unfold bT;rw[aS (by simp[e7]),aS (by simp[hid])];exact⟨y,z,rfl,rfl,rfl⟩) j5.o k0.o l8 D⟩)
      clear D l8 n7;gi_wp2
      exact b6.o
     have d5:=O (aSn B sb a3 y z g9 (j6.o.2.below b2.o) k1.o hid);unfold tI at d5;gi_wp2
     refine⟨trivial,(z9 g4 (callsIn_wide.2 (aD d5))).mono ?_⟩;rintro d Q ⟨⟨M,rfl⟩,m2⟩;have C:aB f Q:=bE b2.o m2;have D:Mv cZ B f Q:=Mv.of_below C;have b6:=O (show KeepsFrom g.heap.size f Q/\dH cZ f Q/\oM B sb hp w.heap.size (.slice a1 tn a2) (.slice X kn' a0) (a++[(s,.slice ad (Z s.c) cp)]) (dE a ks s.c) u q n big w (e+1) Q from⟨D.keepsFrom,D.kps,oM.next k7.o k5.o (by
      unfold bT;rw[aS (by simp[e7]),aT hid];exact⟨rfl,rfl,rfl⟩) j5.o k0.o (k3.o.below C) D⟩)
     clear D C m2;gi_wp2
     exact b6.o
    have s5:(d==0)=false:=by simpa using b5
    have s6:(d != 0)=true:=by simpa using b5
    obtain⟨_,_,_,d6,d7,d8⟩:=j4.o f (dP) (yk b5);have b6:=O (show _/\_/\_ from⟨d6,d7,d8⟩);clear d6 d7 d8;gi_wp2
    refine⟨trivial,?_⟩;gi_wp2
    exact b6.o
end
theorem bJ7(B:Nat)(w:zv)(d:B<=w.heap.size):Calls zj 61 #[.func (.func 62) #[] #[]] w λa w'=>a=.returned (pQ w.heap.size)/\dR B w' w.heap.size (nQ) []/\aB w w':=by
 go_enter Tryz.func61,Tryz.ntmps61;go_wp2;go_ret;exact⟨rfl,⟨zt w _,World.ownsRow_nil _ _ _ _,d⟩,aI w _⟩
theorem bJ8(B sb hp:Nat)(v vs vk:Y)(d:List Cd)(n:Nat)(e:List (aJ×Y))(ks:List Nat)(w:zv)(a:cB B w sb hp v vs vk d n e ks zp):Calls zj 65 #[pQ sb] w λi w'=>i=.returned (.bool zs)/\aB w w':=by
 obtain⟨_,_,_,_,g⟩:=a.cells;have j:=λf=>aC (aI w f) g
 clear a;go_enter Tryz.func65,Tryz.ntmps65;go_wp2;go_returns;exact⟨rfl,aI w _⟩
theorem bJ9(B sb hp:Nat)(v vk:Y)(i:List Cd)(n:Nat)(j:List (aJ×Y))(ks:List Nat)(big:Bool)(e:Option Addr)(a f:Nat)(w:zv)(g:cB B w sb hp v (.slice e a f) vk i n j ks big)(q:1<=a)(t:a<=1000000):Calls zj 35 #[pQ sb,iQ 1] w λm w'=>m=.returned (.agg #[iQ 1,.slice e a f,nQ,iQ ((a-1:Nat):Int),.bool big])/\aB w w':=by
 obtain⟨_,_,k,_,l⟩:=g.cells;have o:=λd=>aC (aI w d) k
 have p:=λd=>aC (aI w d) l
 have u:IntKind.i64.wrap ((a:Int)-1)=(a:Int)-1:=by rw[IntKind.wrap_i64];omega
 clear g;go_enter Tryz.func35,Tryz.ntmps35;go_wp2_with fail;go_region_held3 (λw'=>cQ w' sb 2 (.slice e a f)/\cQ w' sb 4 (.bool big)) (go_keep) (fail);all_goals
  go_wp2_with fail;go_returns;refine⟨by rw[show ((a-1:Nat):Int)=(a:Int)-1 by omega],?_⟩;exact((aI w _).alloc (by simp) _).trans (Below.mono (aN ⟨1,rfl⟩) (by simp;omega))
theorem bJa(B sb hp:Nat)(v:Y)(l:List Cd)(n:Nat)(m:List (aJ×Y))(ks:List Nat)(big:Bool)(i e:Option Addr)(d j g f:Nat)(w:zv)(k:cB B w sb hp v (.slice i d j) (.slice e g f) l n m ks big):Calls zj 35 #[pQ sb,iQ 2] w λt w'=>t=.returned (.agg #[iQ 2,.slice i d j,.slice e g f,iQ d,.bool big])/\aB w w':=by
 obtain⟨_,_,o,p,q⟩:=k.cells;have u:=λa=>aC (aI w a) o
 have y:=λa=>aC (aI w a) p
 have z:=λa=>aC (aI w a) q
 clear k;go_enter Tryz.func35,Tryz.ntmps35;go_wp2_with fail;go_region_held3 (λw'=>cQ w' sb 2 (.slice i d j)/\cQ w' sb 3 (.slice e g f)/\cQ w' sb 4 (.bool big)) (go_keep) (fail);all_goals
  go_wp2_with fail;go_returns;refine⟨rfl,?_⟩;exact((aI w _).alloc (by simp) _).trans (Below.mono (aN ⟨1,rfl⟩) (by simp;omega))
def xS(x:Cd)(r a b d e:Nat):Prop:=x.r=r/\x.a=a/\x.b=b/\x.i=d/\x.j=e
def oN(d:List (aJ×Y))(ks:List Nat):Prop:=∀n (e:n<Z ks),∀a∈eV d ks[n] (ks.take (n+1)),a.2=0/\(bN a.1.c=zs\/dU a.1.c=zs)
inductive eA(lim:Nat)(Q:Nat->List (aJ×Y)->List Nat->Bool->Prop):List Cd->Nat->List (aJ×Y)->List Nat->Bool->Prop
 |sat {L:List Cd}{n:Nat}{T:List (aJ×Y)}{ks:List Nat} (hcv:∀x∈L,∀k∈ks,mP (aO T k) x.c) (h:dW (λc=>ks.any λk=>bL (aO T k) c) (Z L) L=none) (hq:Q 2 T ks false):eA lim Q L n T ks false
 |big {L:List Cd}{n:Nat}{T:List (aJ×Y)}{ks:List Nat} (hcv:∀x∈L,∀k∈ks,mP (aO T k) x.c) (h:dW (λc=>ks.any λk=>bL (aO T k) c) (Z L) L=none) (hF:∀n (h:n<Z ks),∀y∈eV T ks[n] (ks.take (n+1)),nI y.1.c) (hq2:oN T ks->Q 2 T ks true) (hq3:¬oN T ks->Q 3 T ks true):eA lim Q L n T ks true
 |unsat {L L':List Cd}{n:Nat}{T:List (aJ×Y)}{ks:List Nat}{b:Bool}{x:Cd} (s:aJ) (hs:xS x s.r s.a s.b s.i s.j/\x.c=s.c) (hcv:∀x∈L,∀k∈ks,mP (aO T k) x.c) (h:dW (λc=>ks.any λk=>bL (aO T k) c) (Z L) L=some (x,L')) (hc:s.c=[]) (hq:Q 1 (T++[(s,.slice x.ad x.ln x.cp)]) ks b):eA lim Q L n T ks b
 |out {L L':List Cd}{n:Nat}{T:List (aJ×Y)}{ks:List Nat}{b:Bool}{x:Cd} (hcv:∀x∈L,∀k∈ks,mP (aO T k) x.c) (h:dW (λc=>ks.any λk=>bL (aO T k) c) (Z L) L=some (x,L')) (hc:x.c≠[]) (hl:Z T=lim) (hq:Q 3 T ks b):eA lim Q L n T ks b
 |take {L L':List Cd}{n:Nat}{T:List (aJ×Y)}{ks:List Nat}{b:Bool}{x:Cd} (s:aJ) (hs:xS x s.r s.a s.b s.i s.j/\x.c=s.c) (hcv:∀x∈L,∀k∈ks,mP (aO T k) x.c) (h:dW (λc=>ks.any λk=>bL (aO T k) c) (Z L) L=some (x,L')) (hc:s.c≠[]) (hl:Z T≠lim) (hdv:∀k∈ks,mP s.c (aO T k))
  (hF:∀y∈eV (T++[(s,.slice x.ad x.ln x.cp)]) (Z T) (dE T ks s.c),nI y.1.c/\(y.2=0->bN y.1.c=zs->bD y.1.c=zs))
  (hLF:Z L'+Z (eV (T++[(s,.slice x.ad x.ln x.cp)]) (Z T) (dE T ks s.c))<=1000000) (hnF:n+Z (eV (T++[(s,.slice x.ad x.ln x.cp)]) (Z T) (dE T ks s.c))<=1000000)
  (next:∀L2 n2 b2,bT (eV (T++[(s,.slice x.ad x.ln x.cp)]) (Z T) (dE T ks s.c)) L' n b L2 n2 b2->eA lim Q L2 n2 (T++[(s,.slice x.ad x.ln x.cp)]) (dE T ks s.c) b2):eA lim Q L n T ks b
theorem bT.mem:∀(f:List (aJ×Int)) {j k:List Cd}{n m:Nat}{b l:Bool},bT f j n b k m l->∀e∈k,e∈j\/∃x∈f,x.2=0/\bN x.1.c=zs/\e.c=x.1.c
 |[],j,k,n,m,b,l,d,e,hy=>by
  obtain⟨rfl,rfl,rfl⟩:=d;exact yk hy
 |x::f,j,k,n,m,b,l,d,e,hy=>by
  unfold bT at d;split at d
  .rcases bT.mem f d e hy with a|⟨i,a,g⟩
   .exact yk a
   exact yo ⟨i,za _ a,g⟩
  rename_i o;have q:x.2=0:=Classical.byContradiction λp=>o (yk p)
  have t:bN x.1.c=true:=by
   cases hf:bN x.1.c
   .exact absurd (yo hf) o
   rfl
  split at d
  .rcases bT.mem f d e hy with a|⟨i,a,g⟩
   .exact yk a
   exact yo ⟨i,za _ a,g⟩
  obtain⟨ad,cp,d⟩:=d;rcases bT.mem f d e hy with a|⟨i,a,g⟩
  .rcases List.mem_append.1 (aFb _ _ _ _ a)with h3|h3
   .exact yk h3
   simp at h3;subst h3;exact yo ⟨x,by simp,q,t,rfl⟩
  exact yo ⟨i,za _ a,g⟩
theorem aAl{i:List Lt->Bool}:∀(f:Nat) {d a:List Cd}{x:Cd},dW i f d=V (x,a)->x∈d/\(∀e∈a,e∈d)/\i x.c=zp
 |0,d,a,x,h=>by cases h
 |f+1,[],a,x,h=>by cases h
 |f+1,z::r,a,x,h=>by
  unfold dW at h;simp only at h;split at h
  .obtain⟨j,k,l⟩:=aAl f h;exact⟨aCf j,λe g=>aCf (k e g),l⟩
  rename_i m;cases h;exact⟨by simp,λe g=>aCf g,by simpa using m⟩
theorem bJb{d:List (aJ×Y)}(f:∀a∈ks,a<Z d)(e:aJ×Y):∀a∈dE d ks c,a<Z (d++[e]):=λa g=>by
 grind[dE]
theorem aJl(a:List (aJ×Y))(ks:List Nat)(c:List Lt):Z (dE a ks c)<=Z ks+1:=by grind[aO,bL,dE,zd]
structure aAm(L:List Cd)(n:Nat)(T:List (aJ×Y))(ks:List Nat):Prop where
 l:∀x∈L,bD x.c=zs
 t:∀p∈T,bD p.1.c=zs
 k:∀k∈ks,k<Z T
 kl:Z ks<=Z T
 ll:Z L<=1000000
 nn:n<=1000000
theorem aAm.take{L L' g:List Cd}{n j:Nat}{d:List (aJ×Y)}{ks:List Nat}{b k:Bool}{x:Cd}{l:List Lt->Bool}{f:Nat}(a:aAm L n d ks)(s:aJ)(v:Y)(C:x.c=s.c)(A:dW l f L=V (x,L')){F:List (aJ×Int)}(z:∀y∈F,nI y.1.c/\(y.2=0->bN y.1.c=zs->bD y.1.c=zs))(G:Z L'+Z F<=1000000)(I:n+Z F<=1000000)(i:bT F L' n b g j k):aAm g j (d++[(s,v)]) (dE d ks s.c):=by
 obtain⟨m,o,_⟩:=aAl _ A;have H:=i.len;refine⟨λy D=>?_,λp hp=>?_,bJb a.k _,?_,by omega,by omega⟩
 .rcases i.mem _ y D with e|⟨E,e,q,t,u⟩
  .exact a.l y (o y e)
  rw[u];exact(z E e).2 q t
 .rcases List.mem_append.1 hp with hp|hp
  .exact a.t p hp
  simp at hp;subst hp;show bD s.c=zs;rw[<-C];exact a.l x m
 have:=aJl d ks s.c;have:=a.kl;simp;omega
