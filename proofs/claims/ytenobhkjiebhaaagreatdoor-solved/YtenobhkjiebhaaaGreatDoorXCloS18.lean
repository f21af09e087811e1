import Derived.Test.YtenobhkjiebhaaaGreatDoorXSr0S18
import Derived.Test.YtenobhkjiebhaaaGreatDoorGClS18
open Array renaming getElem?_eq_getElem->z4,getElem_modify_self->z5,size_modify->yr
open Bool renaming false->U,true->zv,noConfusion->yn
open List renaming length->Z,append_assoc->zr,map_append->zn,take_succ_eq_append_getElem->zm,getElem?_eq_getElem->zl,length_cons->zk,getElem_mem->zj,getElem_map->zh,sublist_append_right->zg,map_singleton->ze,length_append->zd,flatMap_singleton->zb,take_length->za,getElem?_append_right->z3,getElem?_append_left->z6,getElem?_eq_some_iff->z7,nodup_append->z9,cons_append->yy,length_nil->yx,nil_append->yw,getElem?_eq_none->yv,mem_of_getElem?->yu,reverse_reverse->ys,flatMap_cons->yp,length_take->yo
open Nat renaming le_refl->zu,le_trans->zp,zero_le->z8
open Option renaming some->zy
open Or renaming inr->z0,inl->z2
open Prod renaming fst->zo,snd->z1
namespace Go.Proofs.YtenobhkjiebhaaaGreatDoor
open Go renaming Value->V,World->zt
open _root_.Go.Proofs.Tryz renaming prog->zc
open World renaming cell?->zs,setCell->zq,alloc_heap_new->zi,frozen?->zf,ownsRow->yz,ownsRow_nil->yq
open Go.RowKit Go.Shelf Go.WideMaps
set_option maxHeartbeats 8000000
set_option maxRecDepth 100000
variable{b:Bool}{s:ByteArray}{L:List Cd}{c:List Lt}{ks:List Nat}{B hp k n sb:Nat}{w:zt}{v vk:V}
section
set_option linter.unusedSimpArgs false
attribute [local go_sem] Oper.semAt_some
theorem bP.rowsW{f:Option Addr}{g:Nat}(i:bP B w (.slice f n g) c)(r:nI c):∃a:List (Lt×V),a.map zo=c/\n=Z a/\Z a<=g/\(∀k (i:k<Z a),∃e,f=zy (aQ e 0)/\cQ w e (k*2) (.bool a[k].1.1)/\cQ w e (k*2+1) a[k].2)/\∀j∈a,fN w j.2 j.1.2:=by
 obtain⟨o,l,m,F,_⟩:=i;obtain⟨x,p,d,q⟩:=tL m;simp at d;obtain⟨rfl,rfl,rfl⟩:=d;refine⟨o,l,rfl,?_,q,λu t=>?_⟩
 .obtain⟨_,⟨d,z⟩|⟨A,p,y,d,_,_,E,_⟩⟩:=m
  .omega
  simp at d;omega
 obtain⟨C,D⟩:=r.nodes u.1 (by rw[<-l];simp;exact⟨_,t⟩);grind[wC,fN,bP,jB,bH]
theorem bHu(B:Nat)(a:Option Addr)(d:Nat)(c:List Lt)(w:zt)(i:bP B w (.slice a (Z c) d) c)(e:nI c):Calls zc 99 #[.slice a (Z c) d] w λg q=>g=.returned (.bool (dU c))/\aB w q:=by
 obtain⟨f,j,l,m,o,p⟩:=i.rowsW e;have:=aJ5 a d f w (by have:=e.len;omega) m o p;rw[<-l,j]at this;exact this
theorem aJe{q:Fence}{n:Nat}{g:Program}{j:Func}{p:Array V}{i:Ending->zt->Prop}{N:Nat}{I:zt->Prop}(m:OwnFrom N (λ(_:Unit) W=>I W))(o:∀w,I w->∃v,(results j p).run g w=.ok v w/\i (.returned v) w):∀(a:List Nat) (w:zt),I w->(∀D∈a,N<=D/\w.heap[D]?=zy (.deferred (zy [])))->a.Nodup->LeavesInM q n g j p i (a.map λD=>{target:=.collected D,args:=#[]}) .returning w
 |[],w,h,_,_=>by
  obtain⟨v,e,d⟩:=o w h;exact⟨v,e,d⟩
 |D::a,w,h,hd,hn=>by
  obtain⟨e,d⟩:=hd D (by simp);refine⟨by simp,.inl ⟨D,_,rfl,run_takeDeferred d,?_⟩⟩;refine aJe m o a _ (m.putObj (s:=()) _ h e d rfl) (λf l=>?_) (List.nodup_cons.1 hn).2;have x:f≠D:=λr=>(List.nodup_cons.1 hn).1 (by rw[<-r];exact l)
  obtain⟨t,u⟩:=hd f (by simp[l]);exact⟨t,(World.putObj_heap_other x).trans u⟩
structure rW(B sb hp:Nat)(v vs vk:V)(L:List Cd)(n:Nat)(T:List (aJ×V))(ks:List Nat)(w W:zt)(b:Bool):Prop where
 sr:cB B W sb hp v vs vk L n T ks zv
 box:Boxed W w.heap.size 4 (.bool b)
 bel:aB w W
theorem rW.kept{f:V}{d:List (aJ×V)}{W e:zt}(a:rW B sb hp v f vk L n d ks w W b)(hb:aB W e):rW B sb hp v f vk L n d ks w e b:=
 ⟨a.sr.below hb,(cK (S:=[]) hb).boxed a.box (by simp),a.bel.trans (hb.mono a.bel.size)⟩
theorem rW.own{β:Type}{o:V}{T:List (aJ×V)}{N:Nat}(j:w.heap.size<=N):OwnFrom N (λ(_:β) W=>rW B sb hp v o vk L n T ks w W b):=λ_ X i p a e g=>by
 have f:dH [] X i:=dH.grown e (λm d=>(g m d).2);exact⟨a.sr.kps f,f.boxed a.box (by simp),a.bel.grown e a.bel.size (λl d=>zp j (g l d).1)⟩
theorem rW.set{p:V}{l:List (aJ×V)}{a:zt}(f:rW B sb hp v p vk L n l ks w a b)(e:Bool):(Boxed (zq a (aQ w.heap.size 0) (.bool e)) w.heap.size 4 (.bool e)/\aB w (zq a (aQ w.heap.size 0) (.bool e)))/\∀d:Nat,a.heap[d]?=zy (Obj.deferred (zy []))->(zq a (aQ w.heap.size 0) (.bool e)).heap[d]?=zy (Obj.deferred (zy [])):=by
 have o:=(bA f.box);refine⟨⟨?_,f.bel.grown (cD a (aQ w.heap.size 0) _) f.bel.size (λj g=>by cases g;exact zu _)⟩,λd i=>?_⟩
 .show (a.heap.modify w.heap.size _)[w.heap.size]?=_;rw[z4 (by rw[yr];exact o),z5,(Array.getElem?_eq_some_iff.1 f.box).2];rfl
 exact((cD a (aQ w.heap.size 0) (.bool e)).block d (bA i) (λg=>by
  have m:d=w.heap.size:=Option.some.inj g;have:=f.box;unfold Boxed at this;rw[<-m,i]at this;cases this)).trans i
theorem bHv(B sb hp:Nat)(v o0 vk:V)(L:List Cd)(n:Nat)(f:List (aJ×V))(ks:List Nat)(w:zt)(h:cB B w sb hp v o0 vk L n f ks zv)(m6:B<=w.heap.size)(g7:∀c0∈f,bD c0.1.c=zv)(i4:∀k∈ks,k<Z f)(p1:Z ks<=1000)(g6:∀n (h:n<Z ks),∀j∈eV f ks[n] (ks.take (n+1)),nI j.1.c):Calls zc 65 #[pQ sb] w λe E=>∃b,e=.returned (.bool b)/\(b=zv↔oN f ks)/\aB w E:=by
 obtain⟨P,Q,rfl⟩:=aZ h.st.row;obtain⟨b9,q,rfl⟩:=h.kp.shape;obtain⟨c2,n7,e0,k6⟩:∃c2,w.alloc (.cells #[.bool U] 4)=c2/\aB w c2/\Boxed c2 w.heap.size 4 (.bool U):=⟨_,rfl,aI w _,zi w _⟩;have d8:rW B sb hp v (.slice P (Z f) Q) (.slice b9 (Z ks) q) L n f ks w c2 false:=⟨h.below e0,k6,e0⟩;obtain⟨_,_,_,c5,l8⟩:=d8.sr.cells;have f7:=O d8;have l6:=O g7;have f9:=O i4;have l3:=O g6;clear h d8 k6 e0 g7 i4 g6;refine(callsIn_wide (n:=8)).1 ?_;refine callsIn_of_wp_marks Tryz.func65 rfl trivial ?_;simp only[Tryz.ntmps65,List.size_toArray,zk,yx,Nat.reduceAdd,Nat.reduceSub,Array.replicate_succ,Array.replicate_zero,List.push_toArray,List.append_toArray,yw,yy];refine wpIn_wide.2 ?_;go_wp2;clear n7;refine(wpIn_wide (n:=8)).1 ?_;refine wpIn_loop (λX E=>∃(a:Nat) (z:List Nat) (j9 k5 i7 i8 i9 j0 j1 j2 j3 j4 j5 j6 j7 j8 k0 k1 k2 k3 k4 e9:V),X = {tmps:=#[pQ sb,undef,pQ w.heap.size,j9,k5,undef,undef,pQ sb,pQ sb,jZ sb 4,.bool zv,.bool U,pQ sb,pQ sb,jZ sb 3,.slice b9 (Z ks) q,iQ (Z ks),iQ a,i7,i8,i9,j0,j1,j2,j3,j4,j5,j6,j7,j8,k0,k1,k2,k3,k4,undef,undef,undef,undef,undef,undef,undef,undef,undef,undef,undef,undef,undef,undef,undef,undef,e9],defers:=z.map λd=>{target:=.collected d,args:=#[]}}/\a<=Z ks/\(∀D (h:D<Z ks),D<a->∀j∈eV f ks[D] (ks.take (D+1)),j.2=0/\(bN j.1.c=zv\/dU j.1.c=zv))/\rW B sb hp v (.slice P (Z f) Q) (.slice b9 (Z ks) q) L n f ks w E U/\(∀d∈z,w.heap.size<=d/\E.heap[d]?=zy (.deferred (zy [])))/\z.Nodup)
  (λX _=>Z ks-(intOf (X.tmps.getD 17 undef)).toNat) ?start ?round
 case start=>exact⟨0,[],_,_,_,_,_,_,_,_,_,_,_,_,_,_,_,_,_,_,_,_,rfl,z8 _,λD h o4=>by omega,f7.o,λd hD=>by simp at hD,by simp⟩
 case round=>
  clear f7 c5 l8;rintro _ E ⟨a,z,j9,k5,i7,i8,i9,j0,j1,j2,j3,j4,j5,j6,j7,j8,k0,k1,k2,k3,k4,e9,rfl,p4,c7,hI,d0,e5⟩;by_cases b7:a<Z ks
  .have n1:(a:Int)<(Z ks:Int):=by omega
   obtain⟨k,c9⟩:∃k,ks[a]=k:=⟨_,rfl⟩;have n0:k<Z f:=f9.o k (by rw[<-c9];exact zj b7);obtain⟨i,rfl,p0,o5,h9⟩:∃i,b9=zy (aQ i 0)/\zs E (aQ i a)=zy (iQ k)/\a+1<=q/\eQ B E (sQ i (a+1) q) (ks.take (a+1)):=by
    have b6:=hI.sr.kp;obtain⟨i,e⟩:∃i,b9=zy (aQ i 0):=by
     obtain⟨_,⟨_,e⟩|⟨i,l9,m0,e,_⟩⟩:=b6
     .omega
     simp at e;exact⟨i,e.1⟩
    rw[e]at b6;have m:=b6;obtain⟨_,⟨_,g4⟩|⟨o3,l9,m0,g4,_,_,o9,_⟩⟩:=m
    .omega
    refine⟨i,e,?_,by simp at g4;omega,?_⟩
    .rw[b6.cellAt a (by simpa using b7)];simp[b7,c9]
    have:=aNx b6 (m:=a+1) (by omega);unfold eQ;rw[yo,Nat.min_eq_left (by omega),List.map_take];exact this
   obtain⟨_,_,g3,c5,_⟩:=hI.sr.cells;have d5:=O hI;have c4:=O d0;have k9:=O c7;clear hI d0 c7;have f0:=O (λ(c3:zt) (e7:∃a0,c3=E.drewN a0)=>(aRf B P (zy (aQ i 0)) (Z f) (a+1) Q q f k (ks.take (a+1)) c3 (by obtain⟨a0,rfl⟩:=e7;exact d5.o.sr.st.kept (S:=[]) (cK (aN ⟨a0,rfl⟩)) (by simp) (by simp) (by simp)) (by obtain⟨a0,rfl⟩:=e7;exact bF h9 (aN ⟨a0,rfl⟩) (zu _))).mono (R':=λe p=>∃J G H,e=.returned (.func (.func 136) #[] #[pQ J,pQ G,pQ H])/\uC B p J G H (.slice P (Z f) Q) (sQ i (a+1) q) f k (ks.take (a+1))/\aB E p) (λe p a3=>by
    obtain⟨a0,rfl⟩:=e7;obtain⟨J,G,H,m,o,b2⟩:=a3;exact⟨J,G,H,m,o,(aN ⟨a0,rfl⟩).trans b2⟩))
   have n6:(a:Int)+1<=(q:Int):=by omega
   have n5:(0:Int)<=(a:Int)+1:=by omega
   have p5:(a:Int)<=1000:=by omega
   have i5:IntKind.i64.wrap ((a:Int)+1)=(a:Int)+1:=by rw[IntKind.wrap_i64];omega
   clear h9;refine wpIn_wide.2 ?_;go_upto_region 6 with(fail);refine tT ?_;go_region_held3 (λc3=>zs c3 (aQ sb 2)=zy (.slice P (Z f) Q)/\zs c3 (aQ sb 3)=zy (sQ i (Z ks) q)) (go_keep)
    (first
     |(refine aEs (by rfl) 103 _ _ (by rfl) (enters_of Tryz.func103 (by kernel_rfl) rfl) _ (by rfl) (aD f0 _ ⟨1,rfl⟩) ?_;rintro e p ⟨J,G,H,rfl,h7,c6⟩;refine⟨_,rfl,?_⟩;have m1:=aC c6 g3;have m2:=aC c6 c5;have f5:=O h7;have f2:=O c6;clear h7 c6))
   refine tU ?_;go_wp2_with fail;have h8:=f5.o;have d9:=d5.o.kept f2.o;have a5:∀d∈z,p.heap[d]?=zy (.deferred (zy [])):=λd hD=>(f2.o.block d (Array.getElem?_eq_some_iff.1 (c4.o d hD).2).1).trans (c4.o d hD).2
   have b8:w.heap.size<=p.heap.size:=d9.bel.size;have g8:∀c0∈f,kB c0.1.c:=λc0 hp=>mB (l6.o c0 hp)
   have i3:∀b∈ks.take (a+1),b<Z f:=λb u=>f9.o b (List.mem_of_mem_take u)
   have i2:Z (ks.take (a+1))<=1000000:=by rw[yo];omega
   clear f5 d5 f0 g3 c5 m1 m2;have i1:∀a6 a7,xF Fence.wide (8-1) zc 136 #[pQ J,pQ G,pQ H] (vX B) cZ (eV f k (ks.take (a+1))) ((p.alloc a6).alloc a7):=by intro a6 a7;have h1:aB p ((p.alloc a6).alloc a7):=(aI p a6).alloc (by simp) a7;have c8:=h8.kept (cK (S:=cZ) h1);have g5:B<=((p.alloc a6).alloc a7).heap.size:=zp (zp m6 b8) h1.size;generalize (p.alloc a6).alloc a7=wy at c8 g5 ⊢;exact aSt (8-1) J G H B _ _ _ k _ (by omega) g8 n0 i3 i2 wy g5 c8
   refine(wpIn_wide (n:=8)).1 ?_;refine aBo (F:=Fence.wide) (n:=8) (w:=p) rfl (by omega) (gf:=136) (lb:=#[pQ J,pQ G,pQ H]) rfl trivial (enters_of Tryz.func136 (by kernel_rfl) rfl)
    (Enc:=vX B) (S:=cZ) (L:=eV f k (ks.take (a+1)))
    ?hseq
    (λl l7 o1 N h=>by obtain⟨A,C,rfl,_⟩:=h;rfl)
    (λt N=>(∀j∈(eV f k (ks.take (a+1))).take t,j.2=0/\(bN j.1.c=zv\/dU j.1.c=zv))/\rW B sb hp v (.slice P (Z f) Q) (sQ i (Z ks) q) L n f ks w N U/\∀d∈z,N.heap[d]?=zy (.deferred (zy [])))
    (λd6 _ N=>d6=.ret/\¬oN f ks/\(Boxed N w.heap.size 4 (.bool U)/\aB w N)/\∀d∈z,N.heap[d]?=zy (.deferred (zy []))) ?hI ?hIx ⟨by simp,d9,a5⟩
    (λ_ l X W=>∃b0 A C,X = {tmps:=#[pQ sb,undef,pQ w.heap.size,iQ a,iQ k,pQ b0,iQ l.2,pQ sb,pQ sb,jZ sb 4,.bool zv,.bool U,pQ sb,pQ sb,jZ sb 3,sQ i (Z ks) q,iQ (Z ks),iQ a,.bool zv,iQ a,jZ i a,iQ k,pQ sb,pQ sb,jZ sb 2,.slice P (Z f) Q,iQ k,pQ sb,pQ sb,jZ sb 3,sQ i (Z ks) q,iQ a,iQ ((a:Int)+1),sQ i (a+1) q,.func (.func 136) #[] #[pQ J,pQ G,pQ H],.agg #[iQ l.1.r,iQ l.1.a,iQ l.1.b,iQ l.1.i,iQ l.1.j,.slice A (Z l.1.c) C],iQ l.2,undef,undef,undef,undef,undef,undef,undef,undef,undef,undef,undef,undef,undef,undef,e9],defers:=[]}/\uJ B W b0 l.1 A C) ?hAx ?assign ?body ?done ?stop
   case hseq=>exact i1
   case hI=>
    rintro t a8 a9 d2 ⟨m,o,b2⟩ x y;exact⟨m,rW.own (β:=Unit) b8 () a8 a9 d2 o x y,aFd a5 x y b2⟩
   case hIx=>
    rintro d6 t a8 a9 d2 ⟨m,o,⟨b2,a1⟩,d7⟩ x y;exact⟨m,o,⟨(dH.grown (S:=[]) x (λc1 e=>(y c1 e).2)).boxed b2 (by simp),a1.grown x a1.size (λt e=>zp b8 (y t e).1)⟩,aFd a5 x y d7⟩
   case hAx=>
    intro _ l X;refine aC4 ?_;rintro _ a8 a9 ⟨b0,A,C,m,o⟩ k;exact⟨b0,A,C,m,o.kept k⟩
   case assign=>
    rintro e8 t l l7 o2 r K d1 _ _ ⟨b3,a2,T⟩ ⟨A,C,rfl,h2,m7⟩ hK;have d4:=O (h2.low m7);have l4:=O b3;have l5:=O a2;have f8:=O T;clear h2 b3 a2 T;gi_wp2
    have b4:aB r (r.alloc (.cells #[iQ l.1.r,iQ l.1.a,iQ l.1.b,iQ l.1.i,iQ l.1.j,.slice A (Z l.1.c) C] 48)):=aI r _;exact hK _ _ (Mv.of_below (S:=[]) (B:=0) b4).keepsFrom (cK b4) ⟨l4.o,l5.o.kept b4,λd hD=>(b4.block d (bA (f8.o d hD))).trans (f8.o d hD)⟩ ⟨r.heap.size,A,C,rfl,zi r _,d4.o.below b4⟩
   case stop=>
    rintro d6 t g2 ⟨rfl,n4,m9,n2⟩ hK;gi_wp2
    refine aJe (N:=w.heap.size) (I:=λW=>Boxed W w.heap.size 4 (.bool U)/\aB w W) ?_ ?_ (p.heap.size::z) g2 m9 (λd hD=>?_) (List.nodup_cons.2 ⟨λh=>?_,e5⟩)
    .rintro _ a8 a9 d2 ⟨m,o⟩ x y;exact⟨(dH.grown (S:=[]) x (λc1 e=>(y c1 e).2)).boxed m (by simp),o.grown x o.size (λt e=>(y t e).1)⟩
    .rintro N ⟨m,o⟩;have e2:=m.cell;exact⟨.bool U,by simp[results,Tryz.results65,go_sem,e2],U,rfl,⟨λh=>yn h,λh=>absurd h n4⟩,o⟩
    .rcases List.mem_cons.1 hD with rfl|hD
     .exact⟨b8,hK⟩
     exact⟨(c4.o d hD).1,n2 d hD⟩
    have:=(bA (a5 _ h));omega
   case done=>
    rintro g2 ⟨h4,h5,h6⟩ hK;have h3:(a:Int)+1=((a+1:Nat):Int):=rfl;have k8:=O h3;have l0:=O h4;have l1:=O h5;have l2:=O h6;clear h3 i5 h4 h5 h6 n6 n5;gi_wp2
    go_wp2;refine⟨⟨a+1,p.heap.size::z,iQ a,iQ k,.bool zv,iQ a,jZ i a,iQ k,pQ sb,pQ sb,jZ sb 2,.slice P (Z f) Q,iQ k,pQ sb,pQ sb,jZ sb 3,sQ i (Z ks) q,iQ a,iQ ((a:Int)+1),sQ i (a+1) q,.func (.func 136) #[] #[pQ J,pQ G,pQ H],iQ ((a:Int)+1),?_,by omega,?_,l1.o,λd hD=>?_,List.nodup_cons.2 ⟨λh=>?_,e5⟩⟩,?_⟩
    .rw[<-k8.o];rfl
    .intro D a4 p3 j hy;by_cases n3:D<a
     .exact k9.o D a4 n3 j hy
     obtain rfl:D=a:=by omega
     rw[c9]at hy;exact l0.o j (by rw[za];exact hy)
    .rcases List.mem_cons.1 hD with rfl|hD
     .exact⟨b8,hK⟩
     exact⟨(c4.o d hD).1,l2.o d hD⟩
    .have:=(bA (a5 _ h));omega
    simp[intOf];omega
   case body=>
    rintro e8 t ⟨R,e⟩ X r p2 d1 ⟨b3,a2,T⟩ ⟨b0,A,C,rfl,b5⟩;have e4:(R,e)∈eV f ks[a] (ks.take (a+1)):=by rw[c9];exact yu d1
    have e6:=l3.o a b7 _ e4;obtain⟨_,_,_,_,_,i6⟩:=b5.cells;have i0:∀g,aB r g->(e=0/\(bN R.c=zv\/dU R.c=zv))->KeepsFrom p.heap.size r g/\dH cZ r g/\((∀j∈(eV f k (ks.take (a+1))).take (t+1),j.2=0/\(bN j.1.c=zv\/dU j.1.c=zv))/\rW B sb hp v (.slice P (Z f) Q) (sQ i (Z ks) q) L n f ks w g U/\∀d∈z,g.heap[d]?=zy (.deferred (zy []))):=by
     intro g u e3;refine⟨(Mv.of_below (S:=[]) (B:=0) u).keepsFrom,cK u,?_,a2.kept u,λd hD=>(u.block d (bA (T d hD))).trans (T d hD)⟩;rw[rT d1];intro j hy;rcases List.mem_append.1 hy with hy|hy
     .exact b3 j hy
     simp at hy;subst hy;exact e3
    have h0:∀g,aB r g->¬(e=0/\(bN R.c=zv\/dU R.c=zv))->zs g (aQ w.heap.size 0)=zy (.bool U)/\zf g (aQ w.heap.size 0)=U/\KeepsFrom p.heap.size r (zq g (aQ w.heap.size 0) (.bool U))/\(¬oN f ks/\(Boxed (zq g (aQ w.heap.size 0) (.bool U)) w.heap.size 4 (.bool U)/\aB w (zq g (aQ w.heap.size 0) (.bool U)))/\∀d∈z,(zq g (aQ w.heap.size 0) (.bool U)).heap[d]?=zy (.deferred (zy []))):=by intro g u e3;have a1:=a2.kept u;obtain⟨d7,m5⟩:=a1.set U;have a4:Mv [4] 0 r (zq g (aQ w.heap.size 0) (.bool U)):=(Mv.of_below u).trans (Mv.of_grown (cD g (aQ w.heap.size 0) _) (λk c8=>by cases c8;exact⟨z8 _,_,_,a1.box,by simp⟩));exact⟨a1.box.cell,by simp[zf,show g.heap[w.heap.size]?=_ from a1.box],a4.keepsFrom,λm8=>e3 (m8 a b7 _ e4),d7,λd hD=>m5 d ((u.block d (bA (T d hD))).trans (T d hD))⟩
    have f1:=O (aBa A C R.c r (b5.2.wide e6));have k7:=O (λg (u:aB r g)=>bHu B A C R.c g (b5.2.below u) e6);have f6:=O i0;have f4:=O h0;clear i0 h0 b3 a2 T b5 e6 e4 d1 h8 d9 a5 g8 i3 i2 i1 i5;by_cases a3:e=0
    .subst a3;gi_wp2
     refine⟨trivial,(CallsIn.inRound e8 (callsIn_wide.2 (aD f1))).mono ?_⟩;rintro e g ⟨rfl,e1⟩;have n8:=aC e1 i6;have d3:=O e1;clear e1 i6 f1;cases hfl:bN R.c
     .gi_wp2
      refine⟨trivial,(CallsIn.inRound e8 (callsIn_wide.2 (aD k7 g d3.o))).mono ?_⟩;rintro e g1 ⟨rfl,g9⟩;have f3:=O (bE d3.o g9);clear g9 n8;cases hid:dU R.c
      .obtain⟨m3,m4,b1⟩:=f4.o g1 f3.o (λh=>by rcases h.2 with h|h;rw[hfl]at h;cases h;rw[hid]at h;cases h);have M:=O b1;clear b1;gi_wp2
       exact⟨M.o.1,rfl,M.o.2⟩
      have M:=O (f6.o g1 f3.o ⟨by first|exact rfl|trivial,z0 hid⟩);gi_wp2
      exact M.o
     have M:=O (f6.o g d3.o ⟨by first|exact rfl|trivial,z2 hfl⟩);gi_wp2
     refine⟨trivial,?_⟩;gi_wp2
     exact M.o
    have o6:(e==0)=false:=by simpa using a3
    have o7:(e != 0)=true:=by simpa using a3
    obtain⟨m3,m4,b1⟩:=f4.o r (dP) (λh=>a3 h.1);have M:=O b1;clear b1;gi_wp2
    refine⟨trivial,?_⟩;gi_wp2
    all_goals try (rename_i n9 p6;exact absurd n9 (λh=>by unfold undef at h;cases h))
    refine⟨trivial,?_⟩;gi_wp2
    exact⟨M.o.1,rfl,M.o.2⟩
  have n1:¬(a:Int)<(Z ks:Int):=by omega
  obtain rfl:a=Z ks:=by omega
  have b5:=hI.box.cell;have o8:zf E (aQ w.heap.size 0)=false:=by simp[zf,show E.heap[w.heap.size]?=_ from hI.box]
  have g0:=O (hI.set zv);have d4:aE (oN f ks):=O λD a4 j hy=>c7 D a4 a4 j hy
  clear hI c7;gi_wp2
  go_wp2;refine aJe (N:=w.heap.size) (I:=λW=>Boxed W w.heap.size 4 (.bool zv)/\aB w W) ?_ ?_ z _ g0.o.1 ?_ e5
  .rintro _ a8 a9 d2 ⟨m,o⟩ x y;exact⟨(dH.grown (S:=[]) x (λc1 e=>(y c1 e).2)).boxed m (by simp),o.grown x o.size (λt e=>(y t e).1)⟩
  .rintro N ⟨m,o⟩;have e2:=m.cell;exact⟨.bool zv,by simp[results,Tryz.results65,go_sem,e2],zv,rfl,⟨λ_=>d4.o,λ_=>rfl⟩,o⟩
  exact λd hD=>⟨(d0 d hD).1,g0.o.2 d (d0 d hD).2⟩
end
def aCb(w:zt)(sb:Nat):Nat:=match zs w (aQ sb 2)with|some (.slice _ n _)=>n|_=>0
theorem cB.steps{d:zt}{g:V}{a:List (aJ×V)}{f:Bool}(e:cB B d sb hp v g vk L n a ks f):aCb d sb=Z a:=by obtain⟨i,c,rfl⟩:=aZ e.st.row;unfold aCb;rw[e.cells.2.2.1]
def bHw(B sb hp m:Nat)(j:Nat->List (aJ×V)->List Nat->Bool->Prop)(w:zt)(l:Ending)(g:zt):Prop:=
 ∃(f:Nat) (p r q:V) (i:List Cd) (o:Nat) (a:List (aJ×V)) (e:List Nat) (d:Bool),l=.returned (iQ f)/\cB B g sb hp p r q i o a e d/\j f a e d/\Z a<=m+1/\Mv oZ B w g
def aF9(B sb hp d:Nat)(e:Nat->List (aJ×V)->List Nat->Bool->Prop)(w wr:zt):Prop:=
 ∃(v f vk:V) (L:List Cd) (n:Nat) (a:List (aJ×V)) (ks:List Nat) (b:Bool),cB B wr sb hp v f vk L n a ks b/\eA d e L n a ks b/\aAm L n a ks/\Z a<=d/\Mv oZ B w wr/\B<=wr.heap.size
theorem cB.onest{d:zt}{j g:V}{f:List (aJ×V)}{l:Bool}{p:aJ×V}(a:cB B w sb hp v j vk L n f ks l)(x:World.grownBy w d (Value.ownBlock j))(q:bP B w p.2 p.1.c)(A:yz d B 48 6 g (Z f+1) (gN f++lH p))(u:Ap w (p.2::eD L f)):zs d (aQ sb 2)=zy j/\zf d (aQ sb 2)=U/\cB B (zq d (aQ sb 2) g) sb hp v g vk L n (f++[p]) ks l/\Mv [127,48] B w (zq d (aQ sb 2) g):=by
 have m:Mv [48] B w d:=aJj a.st.row x (by simp);have i:=m.cells a.box (by decide);have z:=(bA i);have o:Mv [127] B d (zq d (aQ sb 2) g):=Mv.of_grown (cD d (aQ sb 2) _) (λk y=>by cases y;exact⟨a.base,_,_,i,by simp⟩);have e:Mv [127,48] B w (zq d (aQ sb 2) g):=(m.mono (by decide) (zu _)).trans (o.mono (by decide) (zu _));refine⟨by simp[zs,i],by simp[zf,i],⟨?_,⟨e.cells a.heap.box (by decide),e.row a.heap.row (by decide),a.heap.base⟩,⟨?_,λC hq=>?_⟩,e.row a.kp (by decide),λt r=>⟨e.clause (a.cl t r).1 (by decide) (by decide),(a.cl t r).2⟩,a.base,(u.perm (aJ0 L f p)).kps (aSu a.cls q) e.kps (by decide)⟩,e⟩
 .show (d.heap.modify sb _)[sb]?=_;rw[z4 (by rw[yr];exact z),z5,(Array.getElem?_eq_some_iff.1 i).2];rfl
 .have:=o.row A (by decide);simpa[gN]using this
 rcases List.mem_append.1 hq with hq|hq
 .exact e.clause (a.st.cl C hq) (by decide) (by decide)
 simp at hq;subst hq;exact e.clause q (by decide) (by decide)
theorem eA.cv{f:Nat}{d:Nat->List (aJ×V)->List Nat->Bool->Prop}{a:List (aJ×V)}(e:eA f d L n a ks b):∀g∈L,∀k∈ks,mP (aO a k) g.c:=by cases e<;>assumption
theorem bHx(B sb hp E:Nat)(G:Nat->List (aJ×V)->List Nat->Bool->Prop)(w:zt)(a:aF9 B sb hp E G w w)(h6:E<=100):Calls zc 36 #[pQ sb,iQ (E:Nat)] w λt a8=>bHw B sb hp E G w t a8:=by
 have d5:=O a;clear a;go_enter Tryz.func36,Tryz.ntmps36;go_wp2;go_loopw[] (λwr=>aF9 B sb hp E G w wr) (λwr=>E-aCb wr sb);exact d5.o;obtain⟨v,c8,vk,L,n,e,ks,b,I,c2,a7,h3,f0,c0⟩:=hrel;have h5:=a7.kl;have d0:=O (bJ3 B sb hp v c8 vk L n e ks b wr I c2.cv a7.k (by omega) a7.ll c0);have f3:=I.steps;have a5:=O f3;have b9:=O I;have R:=O c2;have C:=O a7;have a9:=O f0;clear I c2 a7 f0 f3 d5;go_wp2_with(first
  |(go_at_call 64;refine(aD d0).mono ?_)
  |go_in)
 clear d0;rintro t d ⟨c6,M,⟨j,rfl,r⟩|⟨h0,W,j,rfl,r,D,e7⟩⟩
 .have a2:(b=U/\G 2 e ks U)\/(b=zv/\(∀n (a:n<Z ks),∀h1∈eV e ks[n] (ks.take (n+1)),nI h1.1.c)/\(oN e ks->G 2 e ks zv)/\(¬oN e ks->G 3 e ks zv)):=by
   cases R.o with
   |sat _ a m=>exact z2 ⟨rfl,m⟩
   |big _ a H a0 a1=>exact z0 ⟨rfl,H,a0,a1⟩
   |unsat s hs _ a=>rw[j]at a;cases a
   |out _ a=>rw[j]at a;cases a
   |take s hs _ a=>rw[j]at a;cases a
  have i:aB d (d.alloc (.cells #[iQ 0,iQ 0,iQ 0,iQ 0,iQ 0,nQ] 48)):=aI d _;have b3:=r.below i;have f7:aE (Calls zc 65 #[pQ sb] (d.alloc (.cells #[iQ 0,iQ 0,iQ 0,iQ 0,iQ 0,nQ] 48)) λt a8=>∃c:Bool,t=.returned (.bool c)/\G (if c then 2 else 3) e ks b/\Below (d.alloc (.cells #[iQ 0,iQ 0,iQ 0,iQ 0,iQ 0,nQ] 48)).heap.size (d.alloc (.cells #[iQ 0,iQ 0,iQ 0,iQ 0,iQ 0,nQ] 48)) a8):=O (by
   rcases a2 with⟨rfl,m⟩|⟨rfl,H,a0,a1⟩
   .exact(bJ8 B sb hp c6 c8 vk [] n e ks _ b3).mono λt a8 ⟨c3,a2⟩=>⟨zv,c3,m,a2⟩
   refine(bHv B sb hp c6 c8 vk [] n e ks _ b3 (zp (zp c0 M.size) i.size) C.o.t C.o.k (by omega) H).mono ?_;rintro t a8 ⟨c,c3,D,a2⟩;refine⟨c,c3,?_,a2⟩;cases c with
   |true=>exact a0 (D.1 rfl)
   |false=>exact a1 (λa=>yn (D.2 a)))
  have d9:=O b3;have a3:=O i;have d7:=O M;unfold xR kD;clear b3 i M r j R C a5 a2 b9;go_wp2_with(first
   |(go_at_call 65;refine(aD f7).mono ?_;rintro t g ⟨c,rfl,m,J⟩;have F:=O J;have T:=O m;clear J m;cases c)
   |go_in)
  .go_ret;exact⟨3,_,_,_,_,_,_,_,_,rfl,d9.o.below F.o,T.o,by omega,((a9.o.trans (d7.o.mono (by decide) (zu _))).trans (Mv.of_below a3.o)).trans (Mv.of_below F.o)⟩
  go_ret;exact⟨2,_,_,_,_,_,_,_,_,rfl,d9.o.below F.o,T.o,by omega,((a9.o.trans (d7.o.mono (by decide) (zu _))).trans (Mv.of_below a3.o)).trans (Mv.of_below F.o)⟩
 obtain⟨j4,j0,j1,j2,j3,o,h9,q,i9,i1,l⟩:=h0;simp only at D e7;subst e7;obtain⟨b6,b7,rfl⟩:=aZ r.st.row;have a4:=O (a9.o.trans (M.mono (S':=oZ) (by decide) (zu _)));have e2:B<=d.heap.size:=zp c0 M.size;have Q:aE (Ap d (.slice o (Z l) q::eD W e)/\nG d (.slice o (Z l) q::eD W e)):=O ⟨b9.o.popped j M.kps (by decide),λb5 hu=>by
  rcases List.mem_cons.1 hu with rfl|hu
  .exact⟨B,_,D⟩
  exact r.cls b5 hu⟩
 clear b9;unfold xR;clear M a9;cases R.o with
 |sat _ a m=>rw[j]at a;cases a
 |big _ a=>rw[j]at a;cases a
 |out _ a hc0 hl m=>
  rw[j]at a;cases a;have i:∀f,aB d (d.alloc f):=λf=>aI d _
  have a6:∀f,zs (d.alloc f) (aQ sb 2)=zy (.slice b6 (Z e) b7):=λf=>(r.below (i f)).cells.2.2.1
  have g9:((Z l:Int)==0)=false:=by
   have:Z l≠0:=λt=>hc0 (List.length_eq_zero_iff.1 t)
   simpa using this
  have b0:=O r;have T:=O m;have a3:=O i;clear r j m R C a5 i D hc0;rw[hl]at a6;go_wp2;go_ret;exact⟨3,_,_,_,_,_,_,_,_,rfl,b0.o.below (a3.o _),T.o,by omega,a4.o.trans (Mv.of_below (a3.o _))⟩
 |unsat s hs _ a hc0 m=>
  rw[j]at a;cases a;obtain⟨A,u,x,y,z,c⟩:=s;simp only[xS]at hs;obtain⟨⟨rfl,rfl,rfl,rfl,rfl⟩,rfl⟩:=hs;simp only at hc0 m;subst hc0;have h4:Z e<=1000:=by omega
  have d3:=O D;have b0:=O r;have T:=O m;simp only[yx]at *;clear r j R C a5 D m;go_upto_region 7 with(fail);obtain⟨g,f5,J,N⟩:∃g,d.alloc (.cells #[iQ A,iQ u,iQ x,iQ y,iQ z,.slice o 0 q] 48)=g/\aB d g/\g.heap[d.heap.size]?=zy (.cells #[iQ A,iQ u,iQ x,iQ y,iQ z,.slice o 0 q] 48 (0,0)):=⟨_,rfl,aI d _,zi d _⟩;simp only[f5];clear f5;have I:=b0.o.below J;have a6:=I.cells.2.2.1;have g6:∀f,zs (g.alloc f) (aQ sb 2)=zy (.slice b6 (Z e) b7):=λf=>aC (aI g f) a6
  have g1:zs g (aQ d.heap.size 0)=zy (iQ A):=by simp[zs,N]
  have g2:zs g (aQ d.heap.size 1)=zy (iQ u):=by simp[zs,N]
  have X:zs g (aQ d.heap.size 2)=zy (iQ x):=by simp[zs,N]
  have g3:zs g (aQ d.heap.size 3)=zy (iQ y):=by simp[zs,N]
  have g4:zs g (aQ d.heap.size 4)=zy (iQ z):=by simp[zs,N]
  have e0:zs g (aQ d.heap.size 5)=zy (.slice o 0 q):=by simp[zs,N]
  have f2:=J.size;have c1:=I.below (aN ⟨1,rfl⟩);have f1:yz g.drew B 48 6 (.slice b6 (Z e) b7) (Z e) (gN e):=c1.st.row;have d6:=O c1;have F:=O J;have h8:Tryz.prog.follows .mixedOrders=true:=by kernel_rfl
  have d4:=O ((d3.o.below J).below (aN ⟨1,rfl⟩));have d2:aE (Ap g.drew (.slice o 0 q::eD W e)/\nG g.drew (.slice o 0 q::eD W e)):=O (by
   have e6:dH [] d g.drew:=cK (F.o.trans ((aN (w1:=g.drew) ⟨1,rfl⟩).mono f2));refine⟨Q.o.1.kps Q.o.2 e6 (by simp),λb5 hu=>?_⟩;obtain⟨f6,g5,b2⟩:=Q.o.2 b5 hu;exact⟨f6,g5,e6.clause b2 (by simp) (by simp)⟩)
  clear I N c1 J d3 b0 Q;refine tT ?_;go_region_law (refine dG aFe Tryz.underlying39 (f1.alloc _) ?_ (news:=(lH (⟨A,u,x,y,z,[]⟩,.slice o 0 q)));intro i2 i8 c4 e4;obtain⟨g7,g8,e3,e8⟩:=cB.onest (p:=(⟨A,u,x,y,z,[]⟩,.slice o 0 q)) (d6.o.below ((Below.refl _ g.drew).alloc (zu _) _)) e4 (d4.o.below ((Below.refl _ g.drew).alloc (zu _) _)) c4 (d2.o.1.kps (S:=[]) d2.o.2 (cK ((Below.refl _ g.drew).alloc (zu _) _)) (by simp));have f8:=O e3;have d8:=O e8;obtain⟨i4,i5,rfl⟩:=aZ c4;clear c4 e4 e3 e8);all_goals
   refine tU ?_;have f9:=O ((a4.o.trans (Mv.of_below (F.o.trans (((aN (w1:=g.drew) ⟨1,rfl⟩).alloc (zu _) (.cells #[iQ A,iQ u,iQ x,iQ y,iQ z,.slice o 0 q] 48)).mono f2)))).trans (d8.o.mono (S':=oZ) (by decide) (zu _)));clear g7 g8 d8 d6 F g1 g2 X g3 g4 e0 a6 g6 f1 d4 a4;go_wp2_with fail;go_ret;exact⟨1,_,_,_,_,_,_,_,_,rfl,f8.o,T.o,by simp;omega,f9.o⟩
 |take s hs _ a hc0 hl hdv H hLF hnF next=>
  rw[j]at a;cases a;obtain⟨A,u,x,y,z,c⟩:=s;simp only[xS]at hs;obtain⟨⟨rfl,rfl,rfl,rfl,rfl⟩,rfl⟩:=hs;simp only at hc0 hdv H hLF hnF next
  have i:∀f,aB d (d.alloc f):=λf=>aI d _
  have a6:∀f,zs (d.alloc f) (aQ sb 2)=zy (.slice b6 (Z e) b7):=λf=>(r.below (i f)).cells.2.2.1
  have g9:((Z l:Int)==0)=false:=by
   have:Z l≠0:=λt=>hc0 (List.length_eq_zero_iff.1 t)
   simpa using this
  have h7:((Z e:Int)==(E:Int))=false:=by simp;omega
  have e5:bD l=true:=C.o.l _ (aAl _ j).1;have b8:=O (λf=>bJ6 B sb hp c6 _ vk W n e ks b ⟨A,u,x,y,z,l⟩ o q (d.alloc f) (r.below (i f)) (D.below (i f)) (Q.o.1.kps (S:=[]) Q.o.2 (cK (i f)) (by simp)) e5 C.o.t hdv C.o.k (by omega) (by omega) (zp e2 (i f).size) _ rfl H hLF hnF);have g0:aE (∀P,(∃c5 c9 c7 b1 b4 X,cB B P sb hp c5 c9 c7 b1 b4 (e++[(⟨A,u,x,y,z,l⟩,.slice o (Z l) q)]) (dE e ks l) X/\bT (eV (e++[(⟨A,u,x,y,z,l⟩,.slice o (Z l) q)]) (Z e) (dE e ks l)) W n b b1 b4 X/\∃f,Mv oZ B (d.alloc f) P)->aF9 B sb hp E G w P/\E-aCb P sb<E-aCb wr sb):=O λP ⟨c5,c9,c7,b1,b4,X,b2,a0,f,a1⟩=>by
   refine⟨⟨c5,c9,c7,b1,b4,_,_,X,b2,next _ _ _ a0,C.o.take ⟨A,u,x,y,z,l⟩ _ rfl j H hLF hnF a0,by simp;omega,(a4.o.trans (Mv.of_below (i f))).trans a1,zp (zp e2 (i f).size) a1.size⟩,?_⟩;rw[b2.steps,a5.o];simp;omega
  unfold tI at b8;simp only at b8;clear r j R C a5 i D hc0 H hLF hnF next e5 hl a4 hdv
  generalize Z l=cl at *;go_wp2_with(first
   |(go_at_call 66;refine(aD b8 _).mono ?_;rintro t P ⟨⟨b5,rfl⟩,i3,i7,i6,h2,i0,e0,e1,f4,e9⟩;have d1:=O (g0.o P ⟨_,_,_,_,_,_,e1,f4,_,e9⟩);clear e1 f4 e9)
   |go_in)
  go_roundw;·exact d1.o.1
  exact d1.o.2
structure uI(B:Nat)(w:zt)(v:V)(P:List (List Lt×V)):Prop where
 row:yz w B 36 1 v (Z P) (P.map z1)
 cl:∀p∈P,bP B w p.2 p.1
theorem uI.kps{S:List TypeId}{d:zt}{P:List (List Lt×V)}(a:uI B w v P)(k:dH S w d)(e:36∉S)(f:55∉S)(g:52∉S):uI B d v P:=
 ⟨k.row a.row e,λp hp=>k.clause (a.cl p hp) f g⟩
theorem uI.cell{P:List (List Lt×V)}(f:uI B w v P){k:Nat}(j:k<Z P):∃g cap a d,v=sQ g (Z P) cap/\P[k].2=.slice a P[k].1.length d/\zs w (aQ g k)=zy (.slice a P[k].1.length d)/\bP B w (.slice a P[k].1.length d) P[k].1:=by
 have i:=f.cl P[k] (zj j);obtain⟨a,d,e⟩:=i.shape;obtain⟨o,⟨_,m⟩|⟨g,cap,l,rfl,p,q,r⟩⟩:=f.row
 .omega
 refine⟨g,cap,a,d,rfl,e,?_,by rw[<-e];exact i⟩;rw[f.row.cellAt k (by omega),List.getElem?_map,zl j,<-e];rfl
def iX(P:List (List Lt)):List (aJ×Int):=P.mapIdx λa c=>(⟨1,a,0,0,0,c⟩,0)
theorem bHy(a:List (List Lt))(k:Nat)(d:k<Z a):(iX a).take (k+1)=(iX a).take k++[(⟨1,k,0,0,0,a[k]⟩,0)]:=by rw[List.take_add_one];simp[iX,d]
def aJf(B:Nat)(i:zt)(sb hp:Nat)(f:List (List Lt))(k:Nat)(d:zt):Prop:=
 ∃g a e,cB B d sb hp g (nQ) (nQ) a e [] [] U/\bT ((iX f).take k) [] 0 U a e U/\Mv cZ B i d
def aJg(B:Nat)(j:zt)(sb hp:Nat)(d:List (List Lt×V))(k:Nat)(e:zt):Prop:=
 ∃i a f,cB B e sb hp i (nQ) (nQ) a f [] [] U/\bT ((iX (d.map zo)).take k) [] 0 U a f U/\Mv cZ B j e/\∀g∈eD a [],g∈(d.map z1).take k
def bHz(B:Nat)(f:zt)(a:List (List Lt))(e:Ending)(d:zt):Prop:=
 ∃sb hp,e=.returned (pQ sb)/\aJf B f sb hp a (Z a) d
theorem bI0(B:Nat)(v:V)(a:List (List Lt×V))(w:zt)(l:uI B w v a)(b0:∀H∈a,bD H.1=zv)(d5:Z a<=1000)(P:B<=w.heap.size)(a8:Ap w (a.map z1)):Calls zc 34 #[v] w λz c4=>bHz B w (a.map zo) z c4:=by
 obtain⟨d7,d8,rfl⟩:=aZ l.row;have a1:=O (bJ7 B w P);have b7:=O l;have b8:=O b0;have a2:aE (Ap w (a.map z1)/\nG w (a.map z1)):=O ⟨a8,λf q=>by
  obtain⟨H,hp,rfl⟩:=List.mem_map.1 q;exact⟨B,_,l.cl H hp⟩⟩
 clear l b0 a8;go_enter Tryz.func34,Tryz.ntmps34;go_wp2_with(first
  |(go_at_call 61;refine(aD a1).mono ?_;rintro z e ⟨rfl,b4,a9⟩;have a5:=O b4;have a3:=O a9;clear b4 a9)
  |go_in)
 have R:aB e (e.alloc (.cells #[pQ w.heap.size,iQ 0,nQ,nQ,.bool U] 127)):=aI e _;have a6:cB B (e.alloc (.cells #[pQ w.heap.size,iQ 0,nQ,nQ,.bool U] 127)) e.heap.size w.heap.size (nQ) (nQ) (nQ) [] 0 [] [] false:=
  ⟨zi e _,a5.o.below R,⟨yq _ _ _ _,λH hp=>by simp at hp⟩,yq _ _ _ _,λd9 c2=>by simp at c2,zp P a3.o.size,Ap.nil _⟩
 have b2:Mv cZ B w (e.alloc (.cells #[pQ w.heap.size,iQ 0,nQ,nQ,.bool U] 127)):=(Mv.of_below a3.o).trans (Mv.of_below R);have M:aE (aJg B w e.heap.size w.heap.size a 0 (e.alloc (.cells #[pQ w.heap.size,iQ 0,nQ,nQ,.bool U] 127))):=O ⟨_,_,_,a6,by simp[bT],b2,λf q=>by simp[eD]at q⟩;clear a6 b2 R a1 a5;go_loopw[11] (λX wr=>∃k:Nat,X=iQ k/\k<=Z a/\aJg B w e.heap.size w.heap.size a k wr) (λX _=>Z a-(intOf X).toNat);exact⟨0,rfl,z8 _,M.o⟩;obtain⟨k,rfl,d3,c3,d,j,p,r,m,y⟩:=hrel;by_cases x:k<Z a
 .obtain⟨d1,d0,g,i,b5,F,d2,A⟩:=(b7.o.kps m.kps (by decide) (by decide) (by decide)).cell x;simp at b5;obtain⟨rfl,rfl⟩:=b5;have u:=b8.o _ (zj x);have E:=mB u;have C:bN a[k].1=true:=by
   simp only[bD,Bool.and_eq_true]at u;exact u.1.1
  have T:=bT.len _ r;have b1:Z ((iX (a.map zo)).take k)<=k:=List.length_take_le _ _;simp at T;have d4:(k:Int)<(Z a:Int):=by omega
  have D:=bHy (a.map zo) k (by simpa using x);simp only[zh]at D;have c1:B<=wr.heap.size:=zp P m.size;have W:(a.map z1).take (k+1)=(a.map z1).take k++[.slice g a[k].1.length i]:=by rw[rT (zl (by simpa using x)),zh,F]
  have Q:Ap wr (.slice g a[k].1.length i::eD d []):=by
   have:=Ap.next (a2.o.1.kps a2.o.2 m.kps (by decide)) (k:=k) (by simpa using x) p.ap y
   rwa[zh,F]at this
  have a4:aE (∀a0 t G I,cB B I e.heap.size w.heap.size a0 (nQ) (nQ) t G [] [] U->bT [(⟨1,k,0,0,0,a[k].1⟩,0)] d j U t G U->Mv cZ B wr I->(∀f∈eD t [],f∈eD d []\/f=.slice g a[k].1.length i)->aJg B w e.heap.size w.heap.size a (k+1) I):=O λa0 t G I c6 c7 c8 c9=>⟨a0,t,G,c6,by rw[D];exact bT.snoc _ r c7,m.trans c8,λf q=>by
   rw[W];rcases c9 f q with l|rfl
   .exact List.mem_append_left _ (y f l)
   simp⟩
  cases hid:dU a[k].1
  .have o:=O (aSo B e.heap.size w.heap.size c3 _ _ d j [] [] U ⟨1,k,0,0,0,a[k].1⟩ g i wr p A E hid Q (by omega) (by omega) c1);have c0:aE (∀f∈eD (fI (Z d) (d++[gV ⟨1,k,0,0,0,a[k].1⟩ g i j]) (Z d)) [],f∈eD d []\/f=.slice g a[k].1.length i):=O λf q=>by
    have hp:=(aC7 [] ((aF1 (Z d) (d++[gV ⟨1,k,0,0,0,a[k].1⟩ g i j]) (Z d)).trans (List.perm_append_singleton _ _))).mem_iff.1 q;rcases List.mem_cons.1 hp with rfl|hp
    .exact z0 rfl
    exact z2 hp
   have N:aE (bT [(⟨1,k,0,0,0,a[k].1⟩,0)] d j U (fI (Z d) (d++[gV ⟨1,k,0,0,0,a[k].1⟩ g i j]) (Z d)) (j+1) U):=O (by
    unfold bT;rw[aS (by simp[C]),aS (by simp[hid])];exact⟨g,i,rfl,rfl,rfl⟩)
   unfold tI at o;simp only at o;clear p A E u C T b1 D m r M y W Q F;generalize a[k].1.length=cl at *;go_wp2_with(first
    |(go_at_call 63;refine(aD o).mono ?_;rintro z c5 ⟨⟨f,rfl⟩,d6,a7,b3⟩;have J:=O (a4.o _ _ _ _ a7 N.o b3 c0.o);clear a7 b3)
    |go_in)
   exact⟨⟨k+1,by go_num,by omega,J.o⟩,by simp[intOf];omega⟩
  have o:=O (aSn B e.heap.size ⟨1,k,0,0,0,a[k].1⟩ g i wr A E hid);have N:aE (bT [(⟨1,k,0,0,0,a[k].1⟩,0)] d j U d j U):=O (by
   unfold bT;rw[aS (by simp[C]),aT hid];exact⟨rfl,rfl,rfl⟩)
  have b9:=O p;unfold tI at o;simp only at o;clear p A E u C T b1 D m r M y W Q F;generalize a[k].1.length=cl at *;go_wp2_with(first
   |(go_at_call 63;refine(aD o).mono ?_;rintro z c5 ⟨⟨f,rfl⟩,S⟩;have J:=O (a4.o _ _ _ _ (b9.o.below S) N.o (Mv.of_below S) (λ_ l=>z2 l));clear S)
   |go_in)
  exact⟨⟨k+1,by go_num,by omega,J.o⟩,by simp[intOf];omega⟩
 obtain rfl:k=Z a:=by omega
 have b6:aE (aJf B w e.heap.size w.heap.size (a.map zo) (Z a) wr):=O ⟨_,_,_,p,r,m⟩;clear p r m y;go_wp2;go_ret;exact⟨_,_,rfl,by simpa using b6.o⟩
def aCc(e:Nat->List (aJ×V)->List Nat->Bool->Prop)(a:Nat)(d:List (aJ×V))(ks:List Nat)(b:Bool):Prop:=e a d ks b/\((a=1/\1<=Z d)\/a=2\/a=3)
theorem eA.tag{g:Nat}{e:Nat->List (aJ×V)->List Nat->Bool->Prop}{f:List (aJ×V)}(a:eA g e L n f ks b):eA g (aCc e) L n f ks b:=by
 induction a with
 |sat hv a hq=>exact eA.sat hv a ⟨hq,z0 (z2 rfl)⟩
 |big hv a hF h2 h3=>exact eA.big hv a hF (λd=>⟨h2 d,z0 (z2 rfl)⟩) (λd=>⟨h3 d,z0 (z0 rfl)⟩)
 |unsat s hs hv a hc hq=>exact eA.unsat s hs hv a hc ⟨hq,z2 ⟨rfl,by simp⟩⟩
 |out hv a hc hl hq=>exact eA.out hv a hc hl ⟨hq,z0 (z0 rfl)⟩
 |take s hs hv a hc hl hd hF hLF hnF _ ih=>exact eA.take s hs hv a hc hl hd hF hLF hnF ih
theorem bI1(B sb hp:Nat)(v vk:V)(L:List Cd)(n:Nat)(l:List (aJ×V))(ks:List Nat)(f:Bool)(g:Option Addr)(a i:Nat)(w:zt)(j:cB B w sb hp v (.slice g a i) vk L n l ks f):Calls zc 35 #[pQ sb,iQ 3] w λp d=>p=.returned (.agg #[iQ 3,.slice g a i,nQ,iQ a,.bool f])/\aB w d:=by
 obtain⟨_,_,m,_,o⟩:=j.cells;have q:=λe=>aC (aI w e) m
 have r:=λe=>aC (aI w e) o
 clear j;go_enter Tryz.func35,Tryz.ntmps35;go_wp2_with fail;go_region_held3 (λd=>cQ d sb 2 (.slice g a i)/\cQ d sb 4 (.bool f)) (go_keep) (fail);all_goals
  go_wp2_with fail;go_returns;refine⟨rfl,?_⟩;exact((aI w _).alloc (by simp) _).trans (Below.mono (aN ⟨1,rfl⟩) (by simp;omega))
def mN(d:Nat)(e vk:V)(a:Nat)(b:Bool):V:=.agg #[iQ d,e,vk,iQ a,.bool b]
structure yT(B:Nat)(w:zt)(vd:Nat)(vs vk:V)(used:Nat)(T:List (aJ×V))(ks:List Nat):Prop where
 st:iW B w vs T
 kp:(vd=2/\eQ B w vk ks)\/(vd≠2/\vk=nQ)
 us:used=if vd=1 then Z T-1 else Z T
 ap:Ap w (T.map z1)
theorem bI2(B sb hp:Nat)(v z vk:V)(L:List Cd)(n i:Nat)(a:List (aJ×V))(ks:List Nat)(j:Bool)(w:zt)(d:cB B w sb hp v z vk L n a ks j)(y:(i=1/\1<=Z a)\/i=2\/i=3)(u:Z a<=1000000):Calls zc 35 #[pQ sb,iQ i] w λp o=>∃f r g l q m t,p=.returned (mN i (.slice f r g) (.slice l q m) t j)/\yT B o i (.slice f r g) (.slice l q m) t a ks/\aB w o:=by
 obtain⟨f,g,rfl⟩:=aZ d.st.row;obtain⟨l,m,rfl⟩:=d.kp.shape;rcases y with⟨rfl,x⟩|rfl|rfl
 .refine(bJ9 B sb hp v _ L n a ks j f (Z a) g w d x u).mono ?_;rintro p o ⟨rfl,e⟩;exact⟨f,Z a,g,none,0,0,_,rfl,⟨(d.below e).st,z0 ⟨by decide,rfl⟩,rfl,(d.below e).ap.sub (zg _ _)⟩,e⟩
 .refine(bJa B sb hp v L n a ks j f l (Z a) g _ m w d).mono ?_;rintro p o ⟨rfl,e⟩;exact⟨f,Z a,g,l,_,m,_,rfl,⟨(d.below e).st,z2 ⟨rfl,(d.below e).kp⟩,rfl,(d.below e).ap.sub (zg _ _)⟩,e⟩
 refine(bI1 B sb hp v _ L n a ks j f (Z a) g w d).mono ?_;rintro p o ⟨rfl,e⟩;exact⟨f,Z a,g,none,0,0,_,rfl,⟨(d.below e).st,z0 ⟨by decide,rfl⟩,rfl,(d.below e).ap.sub (zg _ _)⟩,e⟩
def bI3(g:List Pc)(w:zt)(i:Ending)(f:zt):Prop:=
 ∃v a d e,i=.returned (.tuple #[v,iQ d,iQ e])/\pK (g.map lM) (a.map λj=>j.1.map zo) d e/\lT w.heap.size f v a/\aB w f
structure OLp(CV:List Pc)(w:zt)(k:Nat)(v:V)(wr:zt)(QV:List (List (Lt×V)×V)):Prop where
 le:k<=Z CV
 made:QV.map (λp=>p.1.map zo)=(CV.take k).map λp=>bB (p.1.2.map zo)
 good:∀j h,j<k->¬lS (CV.map lM) j h
 mem:lT w.heap.size wr v QV
 low:aB w wr
theorem aS8{a:List Pc}(e:k<Z a)(d:k<Z (a.map lM)):lS (a.map lM) k d↔(40<=k\/bN (bB (a[k].1.2.map zo))=U):=by unfold lS;rw[zh];exact Iff.rfl
theorem bI4{e:Type}{a:e->Option Nat}{d:List e}(f:(d.map a).Nodup):(d.filterMap a).Nodup:=by grind
section
variable {CV:List Pc}{w wr:zt}{k:Nat}{v:V}{QV:List (List (Lt×V)×V)}
theorem aS9{r f:zt}{l:V}{q:Nat}{a:List (Lt×V)}(d:zU r c l q a f)(m:B<=r.heap.size)(x:∀z∈c,eO z.2)(D:aY c<=100000)(E:Z c<=100000):lA f B (a,l)/\((∀e∈a,eO e.1.2)/\aY (a.map zo)<=1000000/\Z a<=1000000)/\bU f (zy (aQ q 0)) (bB c):=by
 obtain⟨y,F,G⟩:=aHp c x;have u:Z a=Z (bB c):=by rw[<-d.made];simp
 have i:lA f B (a,l):=by refine⟨?_,λe g=>fM (d.atoms e g) m⟩;rw[d.val,u];exact fM d.row m
 have p:∀e∈a,eO e.1.2:=λe g=>y e.1 (by rw[<-d.made];exact List.mem_map.2 ⟨e,g,rfl⟩)
 have o:aY (a.map zo)<=1000000:=by rw[d.made];omega
 refine⟨i,⟨p,o,by omega⟩,?_⟩;obtain⟨A,C,j,t⟩:=aA3 (P:=a) i.1 i.2 p o (by omega);rw[d.val]at j;simp at j;rw[<-d.made];rw[j.1];exact t
theorem bI5{w2 w3 w4:zt}{vo v':V}{nb:Nat}{Q:List (Lt×V)}{X Y:Obj}(a:OLp CV w k v wr QV)(u:k<Z CV)(A:CV[k].1.2.map zo=c)(d:zU (wr.alloc X) c vo nb Q w2)(y:aB w2 w3)(P:∀a2∈c,eO a2.2)(D:aY c<=100000)(H:Z c<=100000)(E:k<40/\bN (bB c)=zv)(I:yz w4 w.heap.size 36 1 v' (Z QV+1) (QV.map z1++[vo]))(i:World.grownBy (w3.alloc Y) w4 (Value.ownBlock v)):OLp CV w (k+1) v' w4 (QV++[(Q,vo)]):=by
 have T:=a.low.size;have C:=aI wr X;have W:=d.low.size;have a0:=y.size;have x:aB w2 (w3.alloc Y):=y.alloc a0 Y;simp at W;have g:aB wr (w3.alloc Y):=(C.trans (d.low.mono (by simp))).trans (x.mono (by omega));have l:=bF a.mem.mem.1 g (zu _);obtain⟨z,R,_⟩:=aS9 (B:=w.heap.size) d (by simp;omega) P D H;have S:Value.ownBlock vo=zy nb:=by rw[d.val];rfl
 have a4:wr.heap.size<nb+1:=by have:=(bS d.row nb rfl).1;simp at this;omega
 refine⟨u,?_,λq F a3=>?_,⟨⟨?_,λm hp=>?_⟩,?_,?_⟩,?_⟩
 .rw[zn,a.made,ze,zm u,zn,ze,d.made,A]
 .by_cases G:q=k
  .subst G;rw[aS8 u,A,E.2];rintro(h1|h1)
   .omega
   simp at h1
  exact a.good q F (by omega)
 .rw[zd,zn,ze];exact I
 .rcases List.mem_append.1 hp with hp|hp
  .obtain⟨h1,t⟩:=a.mem.mem.2 m hp;refine⟨⟨?_,λo j=>?_⟩,t⟩
   .have:=bF h1.1 g (zu _);exact this.kept i (dC this l (by decide))
   have:=bF (h1.2 o j) g (zu _);exact this.kept i (dC this l (by decide))
  simp at hp;subst hp;refine⟨⟨?_,λo j=>?_⟩,R⟩
  .have:=bF z.1 x (zu _);exact this.kept i (dC this l (by decide))
  have:=bF (z.2 o j) x (zu _);exact this.kept i (dC this l (by decide))
 .rw[zn,ze,z9];refine⟨a.mem.once,by simp,λr f b p=>?_⟩;simp at p;subst p;obtain⟨m,hp,rfl⟩:=List.mem_map.1 f;rw[S];intro e;have:=(bS (a.mem.mem.2 m hp).1.1 nb e).2;omega
 .rw[List.flatMap_append,zb,z9];refine⟨a.mem.atoms,bI4 d.once,λr f b p=>?_⟩;obtain⟨m,hp,f⟩:=List.mem_flatMap.1 f;obtain⟨o,j,M⟩:=List.mem_filterMap.1 f;obtain⟨a1,J,N⟩:=List.mem_filterMap.1 p;intro e;subst e;have h1:=(bS ((a.mem.mem.2 m hp).1.2 o j) r M).2;have t:=(bS (d.atoms a1 J) r N).1;simp at t;omega
 exact(a.low.trans (g.mono T)).grown i (by have:=g.size;omega) (λq e=>(bS l q e).1)
theorem bI6{d3:V}(S:iO B w d3 CV)(d0:∀H∈CV,aFm H)(F:∀H∈CV,∀I∈H.1.2,zR I.1.2)(f0:Z CV<=1000000):Calls zc 30 #[d3] w λu e5=>bI3 CV w u e5:=by
 obtain⟨f5,f6,rfl⟩:=aZ S.row;have A:=O S;have d7:=O d0;have d8:=O F;clear S d0 F;go_enter Tryz.func30,Tryz.ntmps30;go_wp2;go_loopw[5,11] (λe4 b8 wr=>∃(k:Nat) (QV:List (List (Lt×V)×V)),b8=iQ k/\OLp CV w k e4 wr QV) (λ_ b8 _=>Z CV-(intOf b8).toNat);exact⟨0,[],rfl,⟨z8 _,rfl,λd2 S b3=>by omega,lT.nil _ _,dP⟩⟩;obtain⟨k,QV,rfl,d⟩:=hrel;have e9:=d.le;have b7:=d.low.size;obtain⟨f2,f3,rfl⟩:=aZ d.mem.mem.1;have e2:Z QV=k:=by have:=congrArg Z d.made;simp at this;omega
 have f1:Z QV<=1000000:=by omega
 clear e2;by_cases x:k<Z CV
 .have E:CV[k]∈CV:=zj _;have q:=d7.o _ E;obtain⟨p,t,F,b4⟩:=aA3 (P:=CV[k].1.2) (A.o.each _ E).1 (A.o.each _ E).2 q.short (by have:=q.count;omega) (by have:=q.len;omega);obtain⟨c5,e8,d1⟩:=mJ A.o.row (by omega);simp at d1;obtain⟨rfl,rfl⟩:=d1;have c2:zs w (aQ c5 (k*2))=zy (iQ CV[k].1.1):=by rw[A.o.row.cellAt _ (by omega),(aCn CV k x).1]
  have c3:zs w (aQ c5 (k*2+1))=zy (.slice p CV[k].1.2.length t):=by rw[A.o.row.cellAt _ (by omega),(aCn CV k x).2,F]
  have e0:=aC d.low c2;have c4:=aC d.low c3;have T:=q.count;have D:=q.len;have c9:Z (CV[k].1.2.map zo)=CV[k].1.2.length:=by simp
  rw[<-c9]at c4 D;have W:∀M∈CV[k].1.2.map zo,eO M.2:=λM g=>by obtain⟨I,b6,rfl⟩:=List.mem_map.1 g;exact q.short I b6
  have i:∀M∈CV[k].1.2.map zo,zR M.2:=λM g=>by obtain⟨I,b6,rfl⟩:=List.mem_map.1 g;exact d8.o _ E I b6
  have b0:=aS8 x (by simpa using x);obtain⟨c,b1⟩:∃c,CV[k].1.2.map zo=c:=⟨_,rfl⟩;obtain⟨l,a9⟩:∃d9,CV[k].1.1=d9:=⟨_,rfl⟩;rw[b1]at c4 D T W i b0 b4;rw[a9]at e0;have z:aE (40<=k\/bN (bB c)=U->pK (CV.map lM) [] l 4):=O λg=>z2 ⟨k,by simpa using x,b0.2 g,d.good,rfl,by rw[zh];simp[lM,a9],rfl⟩
  have Q:=O (λ(o J X:zt) (m b9:V) (e:Nat) (j:List (Lt×V)) (a6 a8:Obj) a f hg b5 b2=>bI5 (w2:=o) (w3:=J) (w4:=X) (vo:=m) (v':=b9) (nb:=e) (Q:=j) (X:=a6) (Y:=a8) d x b1 a f W T D hg b5 b2);have a1:=O (λwx (g:bU wx p c)=>aNg p t c wx g i T D);have c0:=O (λ(e6 o:zt) (m:V) (e:Nat) (j:List (Lt×V)) (a:zU e6 c m e j o)=>(aS9 (B:=0) a (z8 _) W T D).2.2);have a4:=O (b4.below d.low (zu _));have a5:=O d.mem.mem.1;have r:=O d;clear c2 c3 F q E c9 b0 b1 a9 d b4 W i;have a7:aE (zs (wr.alloc (.cells #[iQ l,.slice p (Z c) t] 109)) (aQ wr.heap.size 0)=zy (iQ l)):=O (by simp);by_cases e1:k<40
  .cases hfit:bN (bB c)with
   |false=>
    have a3:=O (z.o (z0 hfit));have y:=O (λwx e (g:bU wx (zy (aQ e 0)) (bB c))=>aBa (zy (aQ e 0)) (Z (bB c)) (bB c) wx g);rw[hfit]at y;clear Q z hfit;go_wp2_with(first
     |(go_at_call 53;refine(y.o _ e (c0.o _ _ _ _ _ C.o)).mono ?_;rintro u J ⟨rfl,f⟩;have a2:=O f;have e7:=aC f a0;have c1:=O (bF R.o f (zu _));have e3:=f.size;clear f)
     |(go_at_call 52;refine(a1.o _ (a4.o.below (aI _ _) (zu _))).mono ?_;rintro u o ⟨m,e,j,rfl,a⟩;have i:=a.val;subst i;have a0:=aC a.low a7.o;have C:=O a;have N:=O (r.o.low.trans ((aI wr (.cells #[iQ l,.slice p (Z c) t] 109)).mono b7 |>.trans (a.low.mono (by simp;omega))));have R:=O (bF (a5.o.alloc _) a.low (zu _));have G:=a.low.size;simp at G;clear a)
     |go_in)
    go_quiet (fail);go_wp2;go_returns;exact⟨_,[],l,4,rfl,a3.o,lT.nil _ _,(N.o.trans (a2.o.mono (by omega))).trans ((aN ⟨_,rfl⟩).mono (by omega))⟩
   |true=>
    have y:=O (λwx e (g:bU wx (zy (aQ e 0)) (bB c))=>aBa (zy (aQ e 0)) (Z (bB c)) (bB c) wx g);rw[hfit]at y;have d6:=O (λo J X m b9 e j a6 a8 a f b5 b2=>Q.o o J X m b9 e j a6 a8 a f ⟨e1,hfit⟩ b5 b2);clear Q z hfit;go_wp2_with(first
     |(at_builtin;refine eU aE7 Tryz.underlying25 (c1.o.alloc _) ?_;intro f4 X c8 c6 _;have d5:=O (d6.o _ _ _ _ _ _ _ _ _ C.o a2.o c8 c6);clear c8 c6)
     |(go_at_call 53;refine(y.o _ e (c0.o _ _ _ _ _ C.o)).mono ?_;rintro u J ⟨rfl,f⟩;have a2:=O f;have e7:=aC f a0;have c1:=O (bF R.o f (zu _));have e3:=f.size;clear f)
     |(go_at_call 52;refine(a1.o _ (a4.o.below (aI _ _) (zu _))).mono ?_;rintro u o ⟨m,e,j,rfl,a⟩;have i:=a.val;subst i;have a0:=aC a.low a7.o;have C:=O a;have N:=O (r.o.low.trans ((aI wr (.cells #[iQ l,.slice p (Z c) t] 109)).mono b7 |>.trans (a.low.mono (by simp;omega))));have R:=O (bF (a5.o.alloc _) a.low (zu _));have G:=a.low.size;simp at G;clear a)
     |go_in)
    exact⟨⟨k+1,_,by go_num,d5.o⟩,by simp[intOf];omega⟩
  have a3:=O (z.o (z2 (by omega)));clear Q z;go_wp2_with(first
   |(go_at_call 52;refine(a1.o _ (a4.o.below (aI _ _) (zu _))).mono ?_;rintro u o ⟨m,e,j,rfl,a⟩;have i:=a.val;subst i;have a0:=aC a.low a7.o;have C:=O a;have N:=O (r.o.low.trans ((aI wr (.cells #[iQ l,.slice p (Z c) t] 109)).mono b7 |>.trans (a.low.mono (by simp;omega))));have R:=O (bF (a5.o.alloc _) a.low (zu _));have G:=a.low.size;simp at G;clear a)
   |go_in)
  go_quiet (fail);go_wp2;go_returns;exact⟨_,[],l,4,rfl,a3.o,lT.nil _ _,N.o.trans ((aN ⟨_,rfl⟩).mono (by omega))⟩
 have c7:k=Z CV:=by omega
 have d4:aE (pK (CV.map lM) (QV.map λH=>H.1.map zo) 0 0):=O (z0 ⟨λd2 b3=>d.good d2 b3 (by simp at b3;omega),by rw[d.made,c7,za,List.map_map];rfl,rfl,rfl⟩);have r:=O d;clear d c7;go_wp2;go_returns;exact⟨_,QV,0,0,rfl,d4.o,r.o.mem,r.o.low⟩
end
def mO:Nat->List Nd->List Us
 |_,[]=>[]
 |k,n::r=>qW k n++mO (k+1) r
theorem aSa(a b:List Nd):∀k,mO k (a++b)=mO k a++mO (k+Z a) b:=by
 induction a with
 |nil=>intro k;simp[mO]
 |cons x r ih=>intro k;simp only[yy,mO,ih,zr,zk];rw[show k+1+Z r=k+(Z r+1) by omega]
theorem bI7(a:List Nd):∀k,k<=Z a->mI a k=mO 0 (a.take k):=by
 intro k;induction k with
 |zero=>intro _;simp[mI,mO]
 |succ k ih=>
  grind[aOv,mO,aSa,zm,Nat.min_eq_left]
theorem bI8(c:List Lt):∀k,k<=Z c->pI c k=(c.take k).flatMap λa=>mO 0 a.2:=by
 intro k;induction k with
 |zero=>intro _;simp[pI]
 |succ k ih=>
  grind[bI7,aHk,zb,za,zm]
theorem aFa(c:List Lt):tV c=c.flatMap λa=>mO 0 a.2:=by grind[tV,bI8,za]
def oL(d:Nat)(a:List Nd):Prop:=∀n∈a,aK n=zv->0<=n.2/\n.2<=d
theorem oL.mono{m d:Nat}{a:List Nd}(e:oL m a)(i:m<=d):oL d a:=λn f g=>by have:=e n f g;omega
theorem oL.append{a:Nat}{d b:List Nd}(e:oL a d)(k:oL a b):oL a (d++b):=λn f=>by
 grind[oL,aK]
theorem aSb(a:List ByteArray)(d:ByteArray):0<=lU a d/\lU a d<=Z (mX a d):=by
 have:=bD4 a d;unfold lU mX;split
 .simp;omega
 omega
theorem aSc{d:Type}(e:d->d)(f:d)(b:List d):∀a:List d,(a++[f]++b).modify (Z a) e=a++[e f]++b:=by
 intro a;induction a with
 |nil=>rfl
 |cons x r ih=>simp only[yy,zk,List.modify_succ_cons,ih]
theorem aSd(d b:List Pl)(a:Pl)(n:Nat):jN (d++[a]++b) (Z d) n=d++[(a.1,a.2.1,(n:Int),a.2.2.2)]++b:=aSc _ _ _ _
theorem aSe(a b:List Nd)(d:Nd)(n:Nat):eH (a++[d]++b) (Z a) n=a++[(d.1,(n:Int))]++b:=aSc _ _ _ _
structure aSf(st st':bC)(l l':List Nd)(Q:List Pl)(M:List Nd):Prop where
 pl:st'.pz=st.pz++Q
 nd:l'=l++M
 us:Q.map qX=mO (Z l) M
 vs:oL (Z st'.vars) M
 ps:∀p∈Q,0<=p.2.2.2
theorem bI9{e:List Tk}(R:∀G,(aH e G).kind=110->(aH e G).txt.toList.isEmpty=U):∀o,(∀m d f i g,dB e o m d f=.ok (i,g)->m=decide (Z f=0)->∃l j,aSf d i f g l j)/\
  (∀d f n i g x,eI e o d f n=.ok (i,g,x)->0<Z f->∃l j,aSf d i f g l j):=by
 intro o;induction o with
 |zero=>exact⟨λm d f i g a=>by simp[dB]at a,λd f n i g x a=>by simp[eI]at a⟩
 |succ o ih=>
  obtain⟨a2,H⟩:=ih;constructor
  .intro m d f i g a S;rw[dB]at a;split at a
   .simp only[Except.ok.injEq,Prod.mk.injEq]at a;obtain⟨rfl,rfl⟩:=a;refine⟨[],[(⟨#[]⟩,lU d.vars (aH e d.i).txt)],by simp,rfl,?_,?_,λt hp=>by simp at hp⟩
    .simp[mO,qW,aK]
    intro n hn _;simp at hn;subst hn;exact aSb _ _
   split at a
   .simp at a
   rename_i A;simp only[ne_eq,Decidable.not_not]at A;have C:=R _ A;have E:∀r:Int,qW (Z f) ((aH e d.i).txt,r)=[((aH e d.i).txt,m,r)]:=by
    intro r;unfold qW aK;simp only;rw[C,S];rfl
   have F:∀r:Int,aK ((aH e d.i).txt,r)=false:=λr=>C
   split at a
   .split at a
    .simp at a
    rename_i Q I J a0;simp only[Except.ok.injEq,Prod.mk.injEq]at a;obtain⟨rfl,rfl⟩:=a;obtain⟨l,j,hp⟩:=H _ _ _ _ _ _ a0 (by simp);have D:=hp.pl;have W:=hp.nd;have a1:=hp.us;have X:=hp.ps;simp only at D;refine⟨((aH e d.i).txt,m,(J:Int),((aH e d.i).pos:Int))::l,((aH e d.i).txt,(J:Int))::j,?_,?_,?_,?_,λt hp=>?_⟩
    .simp only;rw[D,aSd];simp
    .rw[W,aSe];simp
    .rw[List.map_cons,a1,mO,E];simp[qX]
    .intro n hn q;rcases List.mem_cons.1 hn with rfl|hn
     .rw[F]at q;cases q
     exact hp.vs n hn q
    rcases List.mem_cons.1 hp with rfl|hp
    .simp
    exact X t hp
   simp only[Except.ok.injEq,Prod.mk.injEq]at a;obtain⟨rfl,rfl⟩:=a;refine⟨[((aH e d.i).txt,m,0,((aH e d.i).pos:Int))],[((aH e d.i).txt,0)],rfl,rfl,?_,?_,λt hp=>by simp at hp;subst hp;simp⟩
   .rw[mO,E];rfl
   intro n hn q;simp at hn;subst hn;rw[F]at q;cases q
  intro d f n i g x a a3;rw[eI]at a;split at a
  .simp at a
  rename_i Q I hp;obtain⟨l,j,p⟩:=a2 _ _ _ _ _ hp (gG (by omega)).symm;have a4:=(xB e o).1 _ _ _ _ _ hp;have y:=p.pl;have z:=p.nd;have M:=p.us;simp only at y;split at a
  .have T:0<Z I:=by omega
   have a5:=(xB e o).2 _ _ _ _ _ _ a;obtain⟨P,N,u⟩:=H _ _ _ _ _ _ a T;refine⟨l++P,j++N,?_,?_,?_,?_,λt hp=>(List.mem_append.1 hp).elim (p.ps t) (u.ps t)⟩
   .rw[u.pl,y,zr]
   .rw[u.nd,z,zr]
   .rw[zn,M,u.us,aSa,z,zd]
   exact(p.vs.mono (by omega)).append u.vs
  split at a
  .simp only[Except.ok.injEq,Prod.mk.injEq]at a;obtain⟨rfl,rfl,rfl⟩:=a;exact⟨l,j,y,z,M,p.vs,p.ps⟩
  simp at a
theorem bIa{a:List Tk}(F:∀z,(aH a z).kind=110->(aH a z).txt.toList.isEmpty=U):∀m d c f j,fR a m d c=.ok (f,j)->(∀g∈c,oL (Z d.vars) g.2)->∃i q,f.pz=d.pz++i/\j=c++q/\i.map qX=tV q/\(∀g∈j,oL (Z f.vars) g.2)/\Z d.vars<=Z f.vars/\d.i<=f.i/\Z f.vars+d.i<=Z d.vars+f.i/\∀l∈i,0<=l.2.2.2:=by
 intro m;induction m with
 |zero=>intro d c f j e;simp[fR]at e
 |succ m ih=>
  intro d c f j e I;cases hq:dB a (Z a+1) zv (gR a d) []with
  |error l=>rw[aBi hq]at e;simp at e
  |ok r=>
   obtain⟨C,p⟩:=r;obtain⟨a0,a1,J,M⟩:=aA4 a d;obtain⟨i,X,hp⟩:=(bI9 F (Z a+1)).1 _ _ _ _ _ hq rfl;have G:=(xB a (Z a+1)).1 _ _ _ _ _ hq;have o:=hp.pl;have u:=hp.nd;have x:=hp.us;rw[M]at o;rw[J]at G;simp only[yw]at u;subst u;have y:∀g∈c++[(decide ((aH a d.i).kind=126),p)],oL (Z C.vars) g.2:=by
    intro g hx;rcases List.mem_append.1 hx with hx|hx
    .exact(I g hx).mono (by omega)
    simp at hx;subst hx;exact hp.vs
   by_cases t:(aH a C.i).kind=124
   .rw[aE9 hq t]at e;obtain⟨E,D,A,N,P,Q,R,S,T,W⟩:=ih _ _ _ _ e y;simp only at A R S T;refine⟨i++E,(decide ((aH a d.i).kind=126),p)::D,?_,?_,?_,Q,by omega,by omega,by omega,λl H=>(List.mem_append.1 H).elim (hp.ps l) (W l)⟩
    .rw[A,o,zr]
    .rw[N,zr];rfl
    rw[zn,x,P,aFa,aFa,yp];rfl
   rw[aHm hq t]at e;simp only[Except.ok.injEq,Prod.mk.injEq]at e;obtain⟨rfl,rfl⟩:=e;refine⟨i,[(decide ((aH a d.i).kind=126),p)],o,rfl,?_,y,by omega,by omega,by omega,hp.ps⟩;rw[x,aFa,zb];rfl
theorem bIb{d:List Tk}(p:∀j,(aH d j).kind=110->(aH d j).txt.toList.isEmpty=U){g i:bC}{c:List Lt}(a:jO d g=.ok (i,c)):∃e,i.pz=g.pz++e/\e.map qX=tV c/\(∀l∈c,oL i.i l.2)/\∀f∈e,0<=f.2.2.2:=by
 unfold jO at a;cases hq:lD d g with
 |error f=>rw[hq]at a;simp at a
 |ok r=>
  obtain⟨q,o⟩:=r;rw[hq]at a;simp only at a;split at a
  .simp only[Except.ok.injEq,Prod.mk.injEq]at a;obtain⟨rfl,rfl⟩:=a;unfold lD at hq;split at hq
   .simp only[Except.ok.injEq,Prod.mk.injEq]at hq;obtain⟨rfl,rfl⟩:=hq;exact⟨[],by simp,rfl,λl m=>by simp at m,λf hp=>by simp at hp⟩
   grind[oL.mono,bIa,yx]
  simp at a
structure aSg(T:List Tk)(c:List Lt):Prop where
 short:∀x∈c,eO x.2
 count:aY c<=Z T
 len:Z c<=Z T
 vars:∀x∈c,oL (Z T) x.2
theorem bIc{L d:List Tk}{x:Int}(z:TL L d x)(p:vE L d)(y:∀t,(aH d t).kind=110->(aH d t).txt.toList.isEmpty=U):∀o f l g m,gX d o f l=.ok (g,m)->f.i<Z d->∃j i,g.pz=f.pz++j/\m=l++i/\j.map qX=(i.flatMap λa=>tV a.2)/\(∀a∈i,aSg d a.2)/\g.i<Z d/\f.i+Z i<=g.i/\Z g.pz+f.i<=Z f.pz+g.i/\∀a∈j,0<=a.2.2.2:=by
 intro o;induction o with
 |zero=>intro f l g m e;simp[gX]at e
 |succ o ih=>
  intro f l g m e q;rw[gX]at e;split at e
  .simp only[Except.ok.injEq,Prod.mk.injEq]at e;obtain⟨rfl,rfl⟩:=e;exact⟨[],[],by simp,by simp,rfl,λa hp=>by simp at hp,q,by simp,by omega,λa hp=>by simp at hp⟩
  split at e
  .simp at e
  rename_i a2 c r;obtain⟨A,T,C,D,E,W,X⟩:=aHo z p r q;obtain⟨j,F,G,H,I⟩:=bIb y r;obtain⟨u,i,J,M,N,P,Q,a0,a1,R⟩:=ih _ _ _ _ e C;refine⟨j++u,((aH d f.i).pos,c)::i,?_,?_,?_,?_,Q,by simp;omega,by omega,λa hp=>(List.mem_append.1 hp).elim (I a) (R a)⟩
  .rw[J,F,zr]
  .rw[M,zr];rfl
  .rw[zn,G,N,yp]
  intro a hp;rcases List.mem_cons.1 hp with rfl|hp
  .exact⟨A,D,E,λS p=>(H S p).mono (by omega)⟩
  exact P a hp
theorem aSh{a:ByteArray}(d:0<a.size):a.toList.isEmpty=false:=by
 cases he:a.toList.isEmpty with
 |false=>rfl
 |true=>
  rw[List.isEmpty_iff]at he;have:a=⟨#[]⟩:=xT.1 (by rw[he];simp);subst this;rw[aEd]at d;omega
theorem aSi{a:ByteArray}(d:fS a=zv):0<a.size:=by grind[fS,aCj,Nat.eq_zero_or_pos]
theorem bId(s:ByteArray):∀a e f n d,gJ s a e f=zy (n,d)->0<n.size:=by
 intro a;induction a with
 |zero=>intro e f n d g;simp[gJ]at g
 |succ a ih=>
  grind[aSi,gJ,Option.some.injEq,Prod.mk.injEq]
theorem bIe{g:Nat}{e:Tk}(l:k<s.size)(a:fT s k=.tok e g)(d:e.kind=110):0<e.txt.size:=by
 unfold fT at a;split at a
 .rename_i m;split at a
  .cases a
  simp only[Nx.tok.injEq]at a;rw[<-a.1];simp only;have j:=aGm m;have p:=aBn l j;have i:=aI3 s (s.size-(k+1)) (k+1);have r:k+1<=fG s (k+1)/\(k+1<=s.size->fG s (k+1)<=s.size):=i;rw[p,ByteArray.size_extract];omega
 split at a
 .split at a
  .rename_i n q o;simp only[Nx.tok.injEq]at a;rw[<-a.1];exact bId s _ _ _ _ _ o
  cases a
 split at a
 .split at a
  .simp only[Nx.tok.injEq]at a;rw[<-a.1]at d;simp at d
  cases a
 split at a
 .rename_i f;simp only[Nx.tok.injEq]at a;rw[<-a.1]at d;simp only at d;rw[d]at f;simp[oU]at f
 cases a
theorem bIf(s:ByteArray):∀a k,∀d∈(cW s a k).1,d.kind=110->0<d.txt.size:=by
 intro a;induction a with
 |zero=>intro k;simp[cW]
 |succ a ih=>
  grind[bIe,cW]
theorem bIg(s:ByteArray)(a e:Nat)(g:(aH (fX s a) e).kind=110):(aH (fX s a) e).txt.toList.isEmpty=false:=by
 refine aSh ?_;have i:∀d∈fX s a,d.kind=110->0<d.txt.size:=by intro d f;unfold fX fY at f;grind[cW,bIf]
 grind[aH,fX,zl,yv,zj,tW,cW]
theorem bIh{n:Nd}(e:aK n=zv):n=(⟨#[]⟩,n.2):=by
 obtain⟨a,b⟩:=n;have:a.toList=[]:=by simpa[aK]using e
 have d:a=⟨#[]⟩:=by rw[ByteArray.toList_eq]at this;obtain⟨f⟩:=a;simp at this;subst this;rfl
 rw[d]
theorem bIi(a:List Nd):subst (λd=>[(⟨#[]⟩,d)]) a=a:=by
 induction a with
 |nil=>rfl
 |cons n r ih=>
  grind[aA0,aK,bIh]
def lJ(a:List Nd)(k:Nat):Prop:=eY a k/\aM a k=Z a
theorem bIj{a:List Nd}(d:aP a k=zv):lJ a k:=⟨aPp a k d,by have:=zZ a k [] d;simpa using this⟩
theorem aSj{a b:List Nd}{d:Nat}(e:lJ a d)(g:lJ b k):lJ (a++b) (d+k):=by
 have f:aM (a++b) d=Z a:=by rw[aI0 a b d e.1,e.2]
 refine⟨(yH _ _ _).2 ⟨aPq a b d e.1,?_⟩,?_⟩
 .rw[f,List.drop_left];exact g.1
 rw[xC,f,List.drop_left,g.2,zd]
theorem bIk{g:Int->List Nd}:∀(d:List Nd) (k:Nat),(∀n∈d,aK n=zv->lJ (g n.2) 1)->lJ d k->lJ (subst g d) k:=by
 intro d;induction d with
 |nil=>intro k _ a;exact a
 |cons n r ih=>
  intro k f a;cases k with
  |zero=>have:=a.2;simp at this
  |succ k=>
   have e:lJ r (k+bI n):=⟨by have:=a.1;simpa[eY]using this,by have:=a.2;simp[aM]at this;omega⟩;rw[aA0];cases hv:aK n with
   |true=>
    rw[kE hv,Nat.add_zero]at e;have:=aSj (f n (by simp) hv) (ih k (λj i=>f j (by simp[i])) e);rw[Nat.add_comm]at this;simpa using this
   |false=>
    grind[aM,eY,bI,subst,lJ,aK]
theorem aJi:∀(a:List Nd) (k:Nat),lJ a k->(∀n∈a,dQ n=zv)->aP a k=true:=by
 intro a;induction a with
 |nil=>
  intro k d _;cases k with
  |zero=>rfl
  |succ k=>exact absurd d.1 (by simp[eY])
 |cons n r ih=>
  intro k d e;cases k with
  |zero=>have:=d.2;simp at this
  |succ k=>
   grind[aM,eY,mC,dQ,aP,lJ,bI]
theorem aSk{L:List Nd}{e:Nat->Nat->Prop}{g:Nat->Nat}{d:List Nat}{a:List Nd}(f:aX (aF L) e g d a):lJ a (Z d)/\∀n∈a,aK n=U->n∈L:=by
 induction f with
 |nil=>exact⟨⟨by simp,by simp⟩,by simp⟩
 |@var i r a _ _ ih=>
  grind[aM,eY,oF,kE,zk,Gr.named,aF,gE,lJ,aK,bI]
 |@name i j r a _ h2 _ ih=>
  grind[aM,eY,aF,jE,pR,nC,yG,bI,zd,zk,yu,Nat.add_comm,Gr.named,gE,lJ,aK]
def kI(s:List Int)(a b:Int):Prop:=∃k:Nat,s[k]?=zy a/\b=(k:Int)
theorem aSl(s:List Int)(a:Int):(gW s a<0->a∉s)/\(0<=gW s a->kI s a (gW s a)):=by
 unfold gW kI;rw[<-ys s];generalize s.reverse=r;rw[ys];induction r with
 |nil=>simp[wD]
 |cons y r ih=>
  grind[wD,z6,z3,z7,List.reverse_cons]
theorem aSm{a d:Int->Int->Prop}(g:∀e b,a e b->d e b){n f:Nd}(k:gK a n f):gK d n f:=by grind[gK,aK]
theorem bIl:∀(d:List Nd) (e:List Nd) (a:List Nd×List Int),a.2.Nodup->aU (gK (kI a.2)) e a.1->(d.foldl fH a).2.Nodup/\aU (gK (kI (d.foldl fH a).2)) (e++d) (d.foldl fH a).1:=by
 intro d;induction d with
 |nil=>intro e a g i;simpa using⟨g,i⟩
 |cons n d ih=>
  intro e a g i;rw[List.foldl_cons];have m:(fH a n).2.Nodup/\aU (gK (kI (fH a n).2)) (e++[n]) (fH a n).1:=by
   unfold fH;cases hv:aK n with
   |false=>exact⟨g,i.snoc (z0 ⟨hv,rfl⟩)⟩
   |true=>
    simp only[if_true];by_cases hp:gW a.2 n.2<0
    .rw[aT hp];have q:=(aSl a.2 n.2).1 hp;refine⟨?_,?_⟩
     .rw[z9];exact⟨g,by simp,λf p b j=>by simp at j;subst j;exact λo=>q (o▸p)⟩
     have r:∀f b,kI a.2 f b->kI (a.2++[n.2]) f b:=by
      rintro f b ⟨k,l,t⟩;exact⟨k,by rw[z6 (eE l)];exact l,t⟩
     refine aU.snoc (i.mono λf b k=>aSm r k) (z2 ⟨hv,hv,rfl,Z a.2,?_,rfl⟩);rw[z3 (zu _)];simp
    rw[aS hp];exact⟨g,i.snoc (z2 ⟨hv,hv,rfl,(aSl a.2 n.2).2 (by omega)⟩)⟩
  have:=ih (e++[n]) (fH a n) m.1 m.2;rwa[zr,List.singleton_append]at this
theorem kI.pairs{s:List Int}(a:s.Nodup):lW (kI s):=by grind[z7,List.getElem_inj,lW,kI]
theorem bIm(d e:Int->List Nd)(a:List Nd):subst e (subst d a)=subst (λv=>subst e (d v)) a:=by
 induction a with
 |nil=>rfl
 |cons n r ih=>
  grind[subst,aA0,aK]
theorem bIn(s:ByteArray):∀a e f n d,gJ s a e f=zy (n,d)->fS n=true:=by
 intro a;induction a with
 |zero=>intro e f n d g;simp[gJ]at g
 |succ a ih=>
  grind[gJ,Option.some.injEq,Prod.mk.injEq]
theorem bIo(s:ByteArray):∀a e d,e<=d->d<tY s a e->iE (aG s d)=true:=by
 intro a;induction a with
 |zero=>intro e d g f;simp[tY]at f;omega
 |succ a ih=>
  grind[tY]
theorem bIp{c:Int}(a:iE c=zv):c<128/\c≠10/\0<=c:=by unfold iE fC eZ rD at a;simp at a;omega
theorem bIq(n:ByteArray)(g:∀e,e<n.size->aG n e<128/\aG n e≠10)(l:n.size<=20):∀a d f,n.size-d<=a->d<=n.size->d=f->1<=n.size->iY n a d f=true:=by
 intro a;induction a with
 |zero=>
  intro d f i j m o;simp[iY];omega
 |succ a ih=>
  grind[aG,bV,uL,iY,eP]
theorem bIr{a b d:Nat}(g:b<=s.size)(i:d<b-a):aG (s.extract a b) d=aG s (a+d):=by
 have e:d<(s.extract a b).size:=by rw[ByteArray.size_extract];omega
 have f:a+d<s.size:=by omega
 rw[gH _ _ e,gH _ _ f];congr 1
 exact ByteArray.getElem_extract e
theorem bIs{j:Nat}{e:Tk}(m:k<s.size)(a:fT s k=.tok e j)(d:e.kind=110):fS e.txt=true:=by
 unfold fT at a;split at a
 .rename_i o;split at a
  .cases a
  rename_i u;simp only[Nx.tok.injEq]at a;rw[<-a.1];simp only;have l:=aGm o;have y:=aBn m l;have x:k+1<=fG s (k+1):=aPw s (k+1);have p:fG s k<=s.size:=aI4 (by omega);have r:(s.extract k (fG s k)).size=fG s k-k:=by rw[ByteArray.size_extract];omega
  refine bIq _ (λi f=>?_) (by omega) _ 0 0 (by omega) (by omega) rfl (by omega);rw[r]at f;rw[bIr p f];have:=bIp (bIo s _ k (k+i) (by omega) (by show k+i<fG s k;omega));omega
 split at a
 .split at a
  .rename_i n t q;simp only[Nx.tok.injEq]at a;rw[<-a.1];exact bIn s _ _ _ _ _ q
  cases a
 split at a
 .split at a
  .simp only[Nx.tok.injEq]at a;rw[<-a.1]at d;simp at d
  cases a
 split at a
 .rename_i g;simp only[Nx.tok.injEq]at a;rw[<-a.1]at d;simp only at d;rw[d]at g;simp[oU]at g
 cases a
theorem bIt(s:ByteArray):∀a k,∀d∈(cW s a k).1,d.kind=110->fS d.txt=true:=by
 intro a;induction a with
 |zero=>intro k;simp[cW]
 |succ a ih=>
  grind[bIs,cW]
theorem bIu(s:ByteArray)(a e d:Nat)(f:(aH (fY (cW s a e)) d).kind=110):fS (aH (fY (cW s a e)) d).txt=true:=by grind[fS,tW,aH,fY,cW,bIt,zl,yv,zj]
structure PT(k:Nat)(st st':bC)(l l':List Nd)(Q:List Pl)(M:List Nd):Prop where
 pl:st'.pz=st.pz++Q
 nd:l'=l++M
 tm:lJ M k
 nm:∀n∈M,aK n=U->fS n.1=zv/\0<=n.2/\∃p∈Q,p.2.2.1=n.2
 vs:∀n∈M,aK n=zv->0<=n.2
 ps:∀p∈Q,0<=p.2.2.2
theorem bIv{f:List Tk}(T:∀M,(aH f M).kind=110->fS (aH f M).txt=zv):∀z,(∀t d l o m,dB f z t d l=.ok (o,m)->∃p j,PT 1 d o l m p j/\(t=zv->aK (j.headD (⟨#[]⟩,0))=U))/\
  (∀d l n o m E,eI f z d l n=.ok (o,m,E)->∃p j k,E=n+k/\PT k d o l m p j):=by
 intro z;induction z with
 |zero=>exact⟨λt d l o m a=>by simp[dB]at a,λd l n o m E a=>by simp[eI]at a⟩
 |succ z ih=>
  obtain⟨a3,N⟩:=ih;constructor
  .intro t d l o m a;rw[dB]at a;split at a
   .rename_i F;simp only[Except.ok.injEq,Prod.mk.injEq]at a;obtain⟨rfl,rfl⟩:=a;have q:=kE (oF (lU d.vars (aH f d.i).txt));refine⟨[],[(⟨#[]⟩,lU d.vars (aH f d.i).txt)],⟨by simp,rfl,⟨by simp[eY,q],by simp[aM,q]⟩,λn hn e=>?_,λn hn _=>?_,λg hp=>by simp at hp⟩,λW=>?_⟩
    .simp at hn;subst hn;rw[oF]at e;cases e
    .simp at hn;subst hn;exact(aSb _ _).1
    rw[W]at F;cases F.2
   split at a
   .simp at a
   rename_i I;simp only[ne_eq,Decidable.not_not]at I;have G:=T _ I;have a1:=aSh (aSi G);have u:∀r:Int,aK ((aH f d.i).txt,r)=false:=λr=>a1
   split at a
   .split at a
    .simp at a
    rename_i S a5 A a2;simp only[Except.ok.injEq,Prod.mk.injEq]at a;obtain⟨rfl,rfl⟩:=a;obtain⟨p,j,k,F,hp⟩:=N _ _ _ _ _ _ a2;have J:=hp.pl;have a0:=hp.nd;simp only at J;have X:A=k:=by omega
    subst X;have q:bI ((aH f d.i).txt,(A:Int))=A:=by unfold bI;rw[u];simp
    refine⟨((aH f d.i).txt,t,(A:Int),((aH f d.i).pos:Int))::p,((aH f d.i).txt,(A:Int))::j,⟨?_,?_,⟨?_,?_⟩,λn hn e=>?_,λn hn e=>?_,λg hpm=>?_⟩,λ_=>u _⟩
    .simp only;rw[J,aSd];simp
    .rw[a0,aSe];simp
    .simp only[eY,q,Nat.zero_add];exact hp.tm.1
    .have:=hp.tm.2;simp only[aM,q,Nat.zero_add,zk];omega
    .rcases List.mem_cons.1 hn with rfl|hn
     .exact⟨G,by simp,_,List.mem_cons_self,rfl⟩
     obtain⟨y,b,g,C,D⟩:=hp.nm n hn e;exact⟨y,b,g,by simp[C],D⟩
    .rcases List.mem_cons.1 hn with rfl|hn
     .rw[u]at e;cases e
     exact hp.vs n hn e
    rcases List.mem_cons.1 hpm with rfl|hpm
    .simp
    exact hp.ps g hpm
   simp only[Except.ok.injEq,Prod.mk.injEq]at a;obtain⟨rfl,rfl⟩:=a;have q:bI ((aH f d.i).txt,(0:Int))=0:=by unfold bI;rw[u];simp
   refine⟨[((aH f d.i).txt,t,0,((aH f d.i).pos:Int))],[((aH f d.i).txt,0)],⟨rfl,rfl,⟨by simp[eY,q],by simp[aM,q]⟩,λn hn _=>?_,λn hn e=>?_,λg hp=>by simp at hp;subst hp;simp⟩,λ_=>u _⟩
   .simp at hn;subst hn;exact⟨G,Int.le_refl _,_,List.mem_singleton.2 rfl,rfl⟩
   simp at hn;subst hn;rw[u]at e;cases e
  intro d l n o m E a;rw[eI]at a;split at a
  .simp at a
  rename_i S a5 hp;obtain⟨p,j,i,_⟩:=a3 _ _ _ _ _ hp;have H:=i.pl;have P:=i.nd;simp only at H;split at a
  .obtain⟨R,Q,a4,a6,x⟩:=N _ _ _ _ _ _ a;refine⟨p++R,j++Q,1+a4,by omega,by rw[x.pl,H,zr],by rw[x.nd,P,zr],aSj i.tm x.tm,λr hm e=>?_,λr hm e=>?_,λg hp=>(List.mem_append.1 hp).elim (i.ps g) (x.ps g)⟩
   .rcases List.mem_append.1 hm with hm|hm
    .obtain⟨y,b,g,C,D⟩:=i.nm r hm e;exact⟨y,b,g,by simp[C],D⟩
    obtain⟨y,b,g,C,D⟩:=x.nm r hm e;exact⟨y,b,g,by simp[C],D⟩
   rcases List.mem_append.1 hm with hm|hm
   .exact i.vs r hm e
   exact x.vs r hm e
  split at a
  .simp only[Except.ok.injEq,Prod.mk.injEq]at a;obtain⟨rfl,rfl,rfl⟩:=a;exact⟨p,j,1,rfl,H,P,i.tm,i.nm,i.vs,i.ps⟩
  simp at a
structure tH(Q:List Pl)(l:List Nd):Prop where
 tm:lJ l 1
 nm:∀n∈l,aK n=U->fS n.1=zv/\0<=n.2/\∃p∈Q,p.2.2.1=n.2
 vs:∀n∈l,aK n=zv->0<=n.2
 hd:aK (l.headD (⟨#[]⟩,0))=U
theorem tH.more{e f:List Pl}{g:List Nd}(d:tH e g)(k:∀p∈e,p∈f):tH f g:=
 ⟨d.tm,λn i j=>by obtain⟨a,b,p,l,m⟩:=d.nm n i j;exact⟨a,b,p,k p l,m⟩,d.vs,d.hd⟩
theorem bIw{p:List Tk}(z:∀t,(aH p t).kind=110->fS (aH p t).txt=zv):∀o j c l m,fR p o j c=.ok (l,m)->(∀d∈c,tH j.pz d.2)->(∃g,l.pz=j.pz++g/\∀e∈g,0<=e.2.2.2)/\∀d∈m,tH l.pz d.2:=by
 intro o;induction o with
 |zero=>intro j c l m a;simp[fR]at a
 |succ o ih=>
  intro j c l m a C;rw[fR]at a;split at a
  .simp at a
  rename_i x q hp;obtain⟨g,P,f,D⟩:=(bIv z _).1 _ _ _ _ _ hp;have i:=f.pl;have u:=f.nd;simp only at i;simp only[yw]at u;subst u;have A:tH x.pz q:=⟨f.tm,λn E F=>by obtain⟨d,N,e,G,H⟩:=f.nm n E F;exact⟨d,N,e,by rw[i];simp[G],H⟩,f.vs,D rfl⟩;have r:∀b:Bool,∀d∈c++[(b,q)],tH x.pz d.2:=by
   intro b d hx;rcases List.mem_append.1 hx with hx|hx
   .exact(C d hx).more λe hp=>by rw[i];simp[hp]
   simp at hx;subst hx;exact A
  split at a
  .obtain⟨⟨y,I,M⟩,J⟩:=ih _ _ _ _ a (r _);exact⟨⟨g++y,by rw[I];simp only;rw[i,zr],λe hp=>(List.mem_append.1 hp).elim (f.ps e) (M e)⟩,J⟩
  simp only[Except.ok.injEq,Prod.mk.injEq]at a;obtain⟨rfl,rfl⟩:=a;exact⟨⟨g,i,f.ps⟩,r _⟩
theorem bIx{d:List Tk}(o:∀i,(aH d i).kind=110->fS (aH d i).txt=zv){e f:bC}{c:List Lt}(a:jO d e=.ok (f,c)):(∃g,f.pz=e.pz++g/\∀j∈g,0<=j.2.2.2)/\∀l∈c,tH f.pz l.2:=by
 unfold jO at a;cases hq:lD d e with
 |error j=>rw[hq]at a;simp at a
 |ok r=>
  obtain⟨p,m⟩:=r;rw[hq]at a;simp only at a;split at a
  .simp only[Except.ok.injEq,Prod.mk.injEq]at a;obtain⟨rfl,rfl⟩:=a;unfold lD at hq;split at hq
   .simp only[Except.ok.injEq,Prod.mk.injEq]at hq;obtain⟨rfl,rfl⟩:=hq;simp_all
   grind[bIw]
  simp at a
theorem bIy{m:List Tk}(u:∀r,(aH m r).kind=110->fS (aH m r).txt=zv):∀l f i g j,gX m l f i=.ok (g,j)->(∀a∈f.pz,0<=a.2.2.2)->(∀a∈i,∀e∈a.2,tH f.pz e.2)->(∀a∈g.pz,0<=a.2.2.2)/\∀a∈j,∀e∈a.2,tH g.pz e.2:=by
 intro l;induction l with
 |zero=>intro f i g j d;simp[gX]at d
 |succ l ih=>
  intro f i g j d o p;rw[gX]at d;split at d
  .simp only[Except.ok.injEq,Prod.mk.injEq]at d;obtain⟨rfl,rfl⟩:=d;exact⟨o,p⟩
  split at d
  .simp at d
  rename_i E c x;obtain⟨⟨C,t,A⟩,z⟩:=bIx u x;refine ih _ _ _ _ d (λa hp=>by rw[t]at hp;exact(List.mem_append.1 hp).elim (o a) (A a)) λa hp e q=>?_
  rcases List.mem_append.1 hp with hp|hp
  .exact(p a hp e q).more λD y=>by rw[t];simp[y]
  simp at hp;subst hp;exact z e q
