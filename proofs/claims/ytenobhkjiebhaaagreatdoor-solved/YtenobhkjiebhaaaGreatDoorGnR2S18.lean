import Derived.Test.YtenobhkjiebhaaaGreatDoorGCls2S18
import Derived.ArgAppend
import Derived.Deep.SlicePairs
open Bool renaming true->V,false->zw
open List renaming length->Z,getElem_mem->zt,take_succ_eq_append_getElem->zn,take_of_length_le->zj,getElem_append_left->zf,filter_append->ze,any_eq_true->zd,mem_of_mem_take->zb,eq_nil_of_length_eq_zero->z0,filter_nil->z3,length_append->z4,getElem?_eq_getElem->z7,filter_cons_of_pos->yz,filter_cons_of_neg->yy,getElem_of_mem->yv,range->yt,append_assoc->yr
open Nat renaming le_refl->zr,le_trans->zi,zero_le->za,lt_of_lt_of_le->z5,mul_le_mul->yx
open Option renaming some->Y,none->zl
open Or renaming inr->zp,inl->zo
open Prod renaming fst->z9
namespace Go.Proofs.YtenobhkjiebhaaaGreatDoor
open Go renaming Value->U,World->zu
open _root_.Go.Proofs.Tryz renaming prog->zm,underlying36->zg,ntmps179->yu,func179->ys
open Value renaming ownBlock->zq
open World renaming block_lt_of_cell?->zs,cell?_of_block->zk,ownsRow->zh,ownsRow_nil->z6,grownBy->z8,cell?->yw
open Go.RowKit Go.Shelf Go.WideMaps
set_option maxHeartbeats 4000000
set_option maxRecDepth 100000
variable{P:List (List Lt)}{L:List Cd}{G R c d:List Lt}{ks:List Nat}{l:List Nd}{c0:Lt}{B b b0 cap n o:Nat}{a:Option Addr}{gk:Option Nat}{w w1 wi wr wx:zu}{gv v:U}
theorem bT.bal:∀(f:List (aJ×Int)) {L g:List Cd}{n i:Nat}{b j:Bool},bT f L n b g i j->Z g+n=Z L+i
 |[],L,g,n,i,b,j,e=>by
  obtain⟨rfl,rfl,rfl⟩:=e;rfl
 |x::f,L,g,n,i,b,j,e=>by
  unfold bT at e;split at e
  .exact bT.bal f e
  split at e
  .exact bT.bal f e
  obtain⟨k,m,e⟩:=e;have:=bT.bal f e;rw[aH2]at this;simp at this;omega
def aDc:Prop:=∀c d e:List Lt,bL c d=V->bL d e=V->bL c e=V
def qS(L:List Cd)(e:List (aJ×U))(ks:List Nat)(c:List Lt):Prop:=dU c=V\/(∃g∈L,g.c=c)\/∃f∈ks,bL (aO e f) c=V
def sH(L:List Cd)(f:List (aJ×U))(ks:List Nat)(b:Bool)(e:aJ×Int):Prop:=((e.2≠0\/bN e.1.c=zw)/\b=V)\/(¬(e.2≠0\/bN e.1.c=zw)/\qS L f ks e.1.c)
structure mU(P:List (List Lt))(L:List Cd)(n:Nat)(T:List (aJ×U))(ks:List Nat)(b:Bool):Prop where
 ok:aAm L n T ks
 wait:∀x∈L,dU x.c=zw/\bN x.c=V/\∃s:aJ,xS x s.r s.a s.b s.i s.j/\x.c=s.c/\kU P T (Z T) s
 step:∀k (h:k<Z T),kU P T k T[k].1
 good:∀k (h:k<Z T),T[k].1.c≠[]/\dU T[k].1.c=zw/\bN T[k].1.c=V
 srt:ks.Pairwise (· < ·)
 cnt:n<=40+Z T*6528
 len:Z L<=n
 giv:∀c∈P,qS L T ks c
 fac:∀k∈ks,∀y∈nE (aO T k) k,sH L T ks b y
 res:∀k∈ks,∀m∈ks,m<=k->∀y∈gZ (aO T k) k (aO T m) m,sH L T ks b y
theorem uS{f:List (aJ×U)}{e:Nat}:e∈dE f ks c↔(e∈ks/\bL c (aO f e)=zw)\/e=Z f:=by grind[dE]
theorem mU.clause{f:List (aJ×U)}{b:Bool}(g:mU P L n f ks b){e:Nat}(j:e∈ks):bD (aO f e)=true:=by have i:=g.ok.k e j;rw[qB i];exact g.ok.t _ (zt i)
theorem qS.take{p:List Lt->Bool}{f:Nat}{L L' m:List Cd}{e:List (aJ×U)}{ks:List Nat}{x:Cd}{g:aJ}{v:U}{c:List Lt}(t:aDc)(E:bL g.c g.c=V)(A:∀k∈ks,k<Z e)(D:x.c=g.c)(z:∀i,p i=V->∃k∈ks,bL (aO e k) i=V)(C:dW p f L=Y (x,L'))(u:∀y∈L',y∈m)(h:qS L e ks c):qS m (e++[(g,v)]) (dE e ks g.c) c:=by
 have s:∀i,(∃k∈ks,bL (aO e k) i=V)->∃k∈dE e ks g.c,bL (aO (e++[(g,v)]) k) i=true:=by
  rintro i ⟨k,r,q⟩;cases hb:bL g.c (aO e k)with
  |false=>exact⟨k,uS.2 (zo ⟨r,hb⟩),by rw[xZ (A k r)];exact q⟩
  |true=>exact⟨Z e,uS.2 (zp rfl),by rw[aCx];exact t _ _ _ hb q⟩
 rcases h with h|⟨y,F,j⟩|h
 .exact zo h
 .rcases aL1 _ C y F with rfl|h1|h1
  .refine zp (zp ⟨Z e,uS.2 (zp rfl),?_⟩);rw[aCx,<-j,D];exact E
  .exact zp (zo ⟨y,u y h1,j⟩)
  rw[<-j];exact zp (zp (s _ (z _ h1)))
 exact zp (zp (s _ h))
theorem qS.end{f:List (aJ×U)}(i:dW (λc=>ks.any λg=>bL (aO f g) c) (Z L) L=zl)(h:qS L f ks c):dU c=V\/∃g∈ks,bL (aO f g) c=true:=by
 rcases h with h|⟨k,j,e⟩|h
 .exact zo h
 .have:=aL2 _ (zr _) i k j;rw[zd]at this;rw[<-e];exact zp this
 exact zp h
theorem mU.take{P:List (List Lt)}{L L' q:List Cd}{n I:Nat}{e:List (aJ×U)}{ks:List Nat}{b C:Bool}{x:Cd}{f:aJ}{v:U}(a6:aDc)(b2:∀c,bD c=V->bL c c=V)(g:mU P L n e ks b)(z:x.c=f.c)(b3:kU P e (Z e) f)(E:dW (λc=>ks.any λk=>bL (aO e k) c) (Z L) L=Y (x,L'))(t:f.c≠[])(c2:Z e<100)
  (A:bT (eV (e++[(f,v)]) (Z e) (dE e ks f.c)) L' n b q I C):mU P q I (e++[(f,v)]) (dE e ks f.c) C:=by
 obtain⟨W,a7,c6⟩:=aAl _ E;have d2:=aFw _ E;have S:bD f.c=true:=by rw[<-z];exact g.ok.l x W
 obtain⟨b5,b4,-⟩:=g.wait x W;have D:bD (aO (e++[(f,v)]) (Z e))=true:=by rw[aCx];exact S
 have H:∀k∈dE e ks f.c,bD (aO (e++[(f,v)]) k)=true:=λk i=>by
  rcases uS.1 i with⟨h1,_⟩|rfl
  .rw[xZ (g.ok.k k h1)];exact g.clause h1
  exact D
 have d0:=aJl e ks f.c;have c9:=g.ok.kl;have c7:=aL7 D (dE e ks f.c) H;have c8:Z (eV (e++[(f,v)]) (Z e) (dE e ks f.c))<=6528:=by have:Z (dE e ks f.c)*64<=101*64:=yx (by omega) (zr _);omega
 have c5:=g.cnt;have d1:=g.len;have c3:Z e*6528<=100*6528:=yx (by omega) (zr _);have b1:aAm q I (e++[(f,v)]) (dE e ks f.c):=g.ok.take f v z E (aFy D H) (by omega) (by omega) A;obtain⟨a0,a1,M⟩:=A.all;have T:∀{c:List Lt},qS L e ks c->qS q (e++[(f,v)]) (dE e ks f.c) c:=λt=>t.take a6 (b2 _ S) g.ok.k z (λJ X=>by rw[zd]at X;exact X) E a0
 have N:∀{y:aJ×Int},sH L e ks b y->sH q (e++[(f,v)]) (dE e ks f.c) C y:=λa8=>by
  rcases a8 with⟨h1,p⟩|⟨h1,p⟩
  .exact zo ⟨h1,M.2 (zo p)⟩
  exact zp ⟨h1,T p⟩
 have Q:∀y∈eV (e++[(f,v)]) (Z e) (dE e ks f.c),sH q (e++[(f,v)]) (dE e ks f.c) C y:=λy j=>by
  by_cases s:y.2≠0\/bN y.1.c=zw
  .exact zo ⟨s,M.2 (zp ⟨y,j,s⟩)⟩
  rcases a1 y j with h1|h1|h1
  .exact absurd h1 s
  .exact zp ⟨s,zo h1⟩
  exact zp ⟨s,zp (zo h1)⟩
 have d3:=A.len;have c4:=A.bal;refine⟨b1,λy j=>?_,λk i=>?_,λk i=>?_,?_,?_,?_,λc t=>T (g.giv c t),λk i y j=>?_,λk i m u a9 y j=>?_⟩
 .rcases A.from _ y j with h1|⟨J,h1,p,a2,a3,a4,F⟩
  .obtain⟨w1,b7,b6,b8,b9,c1⟩:=g.wait y (a7 y h1);exact⟨w1,b7,b6,b8,b9,c1.snoc _ (zr _) (by simp)⟩
  refine⟨by rw[F];exact a3,by rw[F];exact a2,J.1,a4,F,?_⟩;exact aUj D H (by simp) (λk i=>by
   rcases uS.1 i with⟨a5,_⟩|rfl
   .have:=g.ok.k k a5;simp;omega
   simp) J h1 p
 .by_cases r:k<Z e
  .rw[zf r];exact(g.step k r).snoc _ (Nat.le_of_lt r) (zr _)
  obtain rfl:k=Z e:=by simp at i;omega
  simpa using b3.snoc (f,v) (zr _) (zr _)
 .by_cases r:k<Z e
  .rw[zf r];exact g.good k r
  obtain rfl:k=Z e:=by simp at i;omega
  simp only[List.getElem_concat_length];exact⟨t,by rw[<-z];exact b5,by rw[<-z];exact b4⟩
 .unfold dE;rw[List.pairwise_append];exact⟨g.srt.filter _,by simp,λk i m u=>by
   simp at u;subst u;exact g.ok.k k (List.mem_filter.1 i).1⟩
 .rw[z4,List.length_singleton,Nat.add_mul];omega
 .omega
 .rcases uS.1 i with⟨h1,_⟩|rfl
  .rw[xZ (g.ok.k k h1)]at j;exact N (g.fac k h1 y j)
  exact Q y (aAx.2 (zo j))
 rcases uS.1 i with⟨h1,_⟩|rfl
 .rcases uS.1 u with⟨p,_⟩|rfl
  .rw[xZ (g.ok.k k h1),xZ (g.ok.k m p)]at j;exact N (g.res k h1 m p a9 y j)
  have:=g.ok.k k h1;omega
 exact Q y (aAx.2 (zp ⟨m,u,j⟩))
theorem aGn(e:bD c=V):bN c=true:=by grind[bD]
theorem mU.start(r:∀c∈P,bD c=V)(I:Z P<=40)(m:bT (iX P) [] 0 zw L n zw):mU P L n [] [] false:=by
 have D:∀q∈iX P,∃a,∃h:a<Z P,q=(⟨1,a,0,0,0,P[a]⟩,0):=λq p=>by
  simp only[iX,List.mem_mapIdx]at p;obtain⟨j,f,rfl⟩:=p;exact⟨j,f,rfl⟩
 have H:Z (iX P)=Z P:=by simp[iX]
 have E:=m.len;have A:=m.bal;simp at E A;have t:∀g∈L,∃a,∃h:a<Z P,dU g.c=zw/\xS g 1 a 0 0 0/\g.c=P[a]:=λg i=>by
  rcases m.from _ g i with h|⟨q,p,_,_,y,z,s⟩
  .simp at h
  obtain⟨a,e,rfl⟩:=D q p;exact⟨a,e,by rw[s];exact y,z,s⟩
 refine⟨⟨λg i=>?_,by simp,by simp,by simp,by omega,by omega⟩,λg i=>?_,λj f=>by simp at f,λj f=>by simp at f,by simp,by simp;omega,by omega,λc C=>?_,λj f=>by simp at f,λj f=>by simp at f⟩
 .obtain⟨a,e,_,_,k⟩:=t g i;rw[k];exact r _ (zt e)
 .obtain⟨a,e,u,x,k⟩:=t g i;refine⟨u,by rw[k];exact aGn (r _ (zt e)),⟨1,a,0,0,0,P[a]⟩,x,k,zo ⟨rfl,rfl,rfl,rfl,z7 e⟩⟩
 obtain⟨a,e,rfl⟩:=yv C;have F:((⟨1,a,0,0,0,P[a]⟩,0):aJ×Int)∈iX P:=by
  simp only[iX,List.mem_mapIdx];exact⟨a,e,rfl⟩
 rcases m.all.2.1 _ F with(h|h)|h|h
 .exact absurd rfl h
 .rw[show bN _=V from aGn (r _ (zt e))]at h;cases h
 .exact zo h
 exact zp (zo h)
theorem aXf{r:Nat}{u:Nat->List (aJ×U)->List Nat->Bool->Prop}{J:List (aJ×U)->List Nat->Prop}(a1:∀L n e ks b f v,mU P L n e ks b->J e ks->bD f.c=V->(∀g∈ks,bL (aO e g) f.c=zw)->J (e++[(f,v)]) (dE e ks f.c))(A:∀c d,bD c=V->bD d=V->mP c d)(a0:aDc)(b3:∀c,bD c=V->bL c c=V)(b1:r<=100)
  (I:∀L n e ks,mU P L n e ks zw->J e ks->Z e<=r->dW (λc=>ks.any λg=>bL (aO e g) c) (Z L) L=zl->u 2 e ks zw)
  (F:∀L n e ks,mU P L n e ks V->J e ks->Z e<=r->dW (λc=>ks.any λg=>bL (aO e g) c) (Z L) L=zl->eA r u L n e ks V)
  (N:∀L n e ks b f v,mU P L n e ks b->J e ks->Z e<=r->kU P e (Z e) f->f.c=[]->u 1 (e++[(f,v)]) ks b)
  (W:∀L n e ks b,mU P L n e ks b->J e ks->Z e=r->(∃j∈L,j.c≠[]/\∀g∈ks,bL (aO e g) j.c=zw)->u 3 e ks b):∀(x:Nat) (L:List Cd) (n:Nat) (e:List (aJ×U)) (ks:List Nat) (b:Bool),mU P L n e ks b->J e ks->Z e+x=r->eA r u L n e ks b:=by
 intro x;induction x with
 |zero=>
  intro L n e ks b i p T;have s:∀j∈L,∀g∈ks,mP (aO e g) j.c:=λj k g q=>A _ _ (i.clause q) (i.ok.l j k)
  cases hn:dW (λc=>ks.any λg=>bL (aO e g) c) (Z L) L with
  |none=>
   cases b with
   |false=>exact eA.sat s hn (I L n e ks i p (by omega) hn)
   |true=>exact F L n e ks i p (by omega) hn
  |some y=>
   obtain⟨j,Q⟩:=y;obtain⟨k,-,S⟩:=aAl _ hn;obtain⟨-,-,f,z,t,D⟩:=i.wait j k;by_cases m:f.c=[]
   .exact eA.unsat f ⟨z,t⟩ s hn m (N L n e ks b f _ i p (by omega) D m)
   refine eA.out s hn (by rw[t];exact m) (by omega) (W L n e ks b i p (by omega) ⟨j,k,by rw[t];exact m,λg q=>?_⟩);grind
 |succ x ih=>
  intro L n e ks b i p T;have s:∀j∈L,∀g∈ks,mP (aO e g) j.c:=λj k g q=>A _ _ (i.clause q) (i.ok.l j k)
  cases hn:dW (λc=>ks.any λg=>bL (aO e g) c) (Z L) L with
  |none=>
   cases b with
   |false=>exact eA.sat s hn (I L n e ks i p (by omega) hn)
   |true=>exact F L n e ks i p (by omega) hn
  |some y=>
   obtain⟨j,Q⟩:=y;obtain⟨k,a2,S⟩:=aAl _ hn;obtain⟨-,-,f,z,t,D⟩:=i.wait j k;by_cases m:f.c=[]
   .exact eA.unsat f ⟨z,t⟩ s hn m (N L n e ks b f _ i p (by omega) D m)
   have M:bD f.c=true:=by rw[<-t];exact i.ok.l j k
   obtain⟨v,X⟩:∃v,Value.slice j.ad j.ln j.cp=v:=⟨_,rfl⟩;have C:bD (aO (e++[(f,v)]) (Z e))=true:=by rw[aCx];exact M
   have H:∀g∈dE e ks f.c,bD (aO (e++[(f,v)]) g)=true:=λg q=>by
    rcases uS.1 q with⟨E,_⟩|rfl
    .rw[xZ (i.ok.k g E)];exact i.clause E
    exact C
   have a8:=aJl e ks f.c;have a7:=i.ok.kl;have a5:=aL7 C (dE e ks f.c) H;have a6:Z (eV (e++[(f,v)]) (Z e) (dE e ks f.c))<=6528:=by grind
   have a4:=i.cnt;have a9:=i.len;have b2:=aFw _ hn;have a3:Z e*6528<=100*6528:=yx (by omega) (zr _);refine eA.take f ⟨z,t⟩ s hn m (by omega) (λg q=>A _ _ M (i.clause q)) ?_ ?_ ?_ ?_
   .rw[X];exact aFy C H
   all_goals grind[mU.take,aO,bL,zd]
section
variable {D:Nd->Prop}
open Classical in
theorem aDd:bL c d=V↔Z c<=Z d/\fW d c []:=by unfold bL;exact decide_eq_true_iff
variable {D:Nd->Prop}{T:List (aJ×U)}{ks:List Nat}
def uT(T:List (aJ×U))(ks:List Nat)(c:List Lt):Prop:=dU c=V\/∃e∈ks,bL (aO T e) c=V
theorem aDe{e:Nat}(f:e<Z c):nN c e=c[e].2[0]?:=by simp[nN,f]
end
def aGo(g:List (aJ×U))(ks:List Nat):Prop:=∀f∈ks,(∀e∈nE (aO g f) f,e.2=0/\(bN e.1.c=V\/dU e.1.c=V))/\∀i∈ks,i<=f->∀e∈gZ (aO g f) f (aO g i) i,e.2=0/\(bN e.1.c=V\/dU e.1.c=V)
theorem sH.fine{f:List (aJ×U)}{b:Bool}{e:aJ×Int}(k:dW (λc=>ks.any λg=>bL (aO f g) c) (Z L) L=zl)(i:sH L f ks b e)(j:b=V->e.2=0/\(bN e.1.c=V\/dU e.1.c=V)):e.2=0/\uT f ks e.1.c:=by grind[qS.end,sH,uT,qS,aO,bL,bN,dU,dW]
def qT(n:Nd)(l:List Nd):Bool:=l.any λe=>decide (n=e)
theorem aMe(n:Nd)(l:List Nd):qT n l=V↔n∈l:=by grind[qT,zd]
theorem aXg(n:Nd)(l:List Nd)(e:Nat)(f:e<Z l):qT n (l.take (e+1))=(qT n (l.take e) || decide (n=l[e])):=by grind[qT,zn]
theorem aXh{n:Nd}{f:Nat}(e:qT n (l.take f)=V):qT n l=true:=by rw[aMe]at e ⊢;exact zb e
theorem aXi(a:Option Addr)(F:Nat)(l:List Nd)(f:ByteArray)(g:Int)(w:zu)(p:dI w a l):Calls zm 188 #[.slice a (Z l) F,.agg #[.string f,iQ g]] w λH I=>∃D:Int,H=.returned (iQ D)/\decide (0<=D)=qT (f,g) l/\aB w I:=by
 have Q:=p.few;have r:aB w (w.alloc (.cells #[.string f,iQ g] 52)):=aI _ _;have z:=vA w (.string f) (iQ g) 52;have y:=p.below r (zr _);have t:=O r;have u:=O z;have E:=O y;clear p r z y;go_enter Tryz.func188,Tryz.ntmps188;go_wp2;generalize hW:w.alloc (.cells #[.string f,iQ g] 52)=W at *;clear hW;go_loopw[8] (λs wr=>∃e:Nat,e<=Z l/\s=iQ e/\(∃n,wr=W.drewN n)/\qT (f,g) (l.take e)=zw) (λs _=>Z l-(intOf s).toNat);exact⟨0,za _,rfl,⟨0,rfl⟩,rfl⟩;obtain⟨e,S,rfl,⟨n,rfl⟩,j⟩:=hrel;by_cases C:e<Z l
 .obtain⟨b,o,rfl,J,M⟩:=E.o.cell e C;have T:=u.o.1;have X:=u.o.2;have q:=rY (f,g) l[e];simp only at q;have N:=tJ;have a0:=rZ f l[e].1 g l[e].2;have i:=aXg (f,g) l e C;rw[j,Bool.false_or]at i;have x:=O j;clear j;by_cases k:(f,g)=l[e]
  .rw[fL k]at q i;have m:=O (aXh i);clear k i;go_wp2;go_quiet (fail);go_wp2;go_ret;refine⟨_,rfl,?_,bE t.o (aN (by first|exact dT _ _ _|exact⟨_,rfl⟩))⟩;rw[m.o];simp
  rw[gG k]at q i;have m:=O i;clear k i;go_wp2;go_quiet (fail);go_wp2;exact⟨⟨e+1,by omega,by go_num,(by first|exact dT _ _ _|exact⟨_,rfl⟩),m.o⟩,by simp[intOf];omega⟩
 have A:l.take e=l:=zj (by omega);rw[A]at j;have x:=O j;clear A j;go_wp2;go_ret;exact⟨_,rfl,by rw[x.o];rfl,bE t.o (aN (by first|exact dT _ _ _|exact⟨_,rfl⟩))⟩
theorem aXj(a:Option Addr)(j:Nat)(l:List Nd)(e:ByteArray)(f:Int)(w:zu)(m:dI w a l):Calls zm 180 #[.slice a (Z l) j,.agg #[.string e,iQ f]] w λk u=>k=.returned (.bool (qT (e,f) l))/\aB w u:=by
 have g:aB w (w.alloc (.cells #[.string e,iQ f] 52)):=aI _ _;have r:=O (aXi a j l e f _ (m.below g (zr _)));have s:=O g;clear g m;go_enter Tryz.func180,Tryz.ntmps180;go_wp2_with(go_at_call 188;refine(aD r).mono ?_;rintro k w1 ⟨x,rfl,q,p⟩;have i:=O q;have t:=O (s.o.trans (p.mono (by simp)));clear q p);go_ret;exact⟨eB (by first|exact i.o|simpa using i.o),t.o⟩
def gO(L:bK)(e:List Nd)(n:Nd):Bool:=aK n && (look L n.2).isNone && qT n e
theorem aMf(w:zu)(a:Option Addr)(l c:Nat):(binOp .eql 50 (.slice a l c) (nQ)).run zm w=.ok (.bool a.isNone) w:=by simp only[binOp];simp[run_equal_slice_nil w 50 52 a l c Tryz.underlying50]
theorem uU{W e:zu}(g:∃n,e=W.drewN n)(f:aB e w1):aB W w1:=by obtain⟨n,rfl⟩:=g;exact(aN ⟨n,rfl⟩).trans f
theorem aXk(B A a2 N:Nat)(b2:U)(L:bK)(y:Option Addr)(a3:Nat)(i:List Nd)(f:ByteArray)(k:Int)(w:zu)(C:dN w B A b2 L)(E:iR w B y i)(J:cQ w a2 0 (pQ A))(F:cQ w N 1 (.slice y (Z i) a3))(M:dQ (f,k)=V):Calls zm 179 #[.agg #[.string f,iQ k],pQ a2,pQ N] w λx r=>x=.returned (.bool (gO L i (f,k)))/\aB w r:=by
 have j:aB w (w.alloc (.cells #[.string f,iQ k] 52)):=aI _ _;have a6:=vA w (.string f) (iQ k) 52;have a0:=aC j J;have X:=aC j F;have s:=O (λwx=>sJ f k wx);by_cases q:f.toList.isEmpty=V
 .rw[q]at s;have b4:=aE4 M q;obtain⟨a8,b5⟩:=b4;simp only at a8 b5;obtain⟨g,rfl⟩:=Int.eq_ofNat_of_zero_le a8;obtain⟨v,a7,D⟩:=(C.below j).term g (by omega);have a4:=O (λwx (b3:dI wx y i)=>aXj y a3 i f (g:Int) wx b3);have z:=O j;have b1:=O (E.fr (Fr.of_below j)).nodes;obtain⟨H,I⟩:=a6;cases hl:look L (g:Int)with
  |none=>
   rw[hl]at D;obtain rfl:v=nQ:=D;have b6:=λwx=>aMf wx zl 0 0
   have u:=O (show gO L i (f,(g:Int))=qT (f,(g:Int)) i by simp[gO,aK,q,hl]);clear C E J F j M q hl;go_enter ys,yu;go_wp2_with fail;generalize hW:w.alloc (.cells #[.string f,iQ (g:Int)] 52)=W at *;clear hW;go_region_held3 (λr=>cQ r w.heap.size 0 (.string f)/\cQ r w.heap.size 1 (iQ (g:Int))/\cQ r a2 0 (pQ A)/\cQ r N 1 (.slice y (Z i) a3)/\cQ r A (1+g) (nQ)) (go_keep)
    (first
     |(go_at_call 89;refine(aD s _).mono ?_;rintro x w1 ⟨rfl,e⟩;replace e:=uU (W:=W) (by first|exact⟨0,rfl⟩|exact⟨1,rfl⟩|exact⟨_,rfl⟩) e;have c0:=aC e H;have Q:=aC e I;have S:=aC e a0;have T:=aC e X;have a5:=aC e a7;have m:=O e;clear e)
     |(go_at_call 180;refine(aD a4 _ (b1.o.below m.o (zr _))).mono ?_;rintro x c5 ⟨rfl,p⟩;have b9:=aC p c0;have c1:=aC p Q;have c2:=aC p S;have c3:=aC p T;have c4:=aC p a5;have a9:=O (m.o.trans (p.mono m.o.size));clear p))
   go_wp2;go_ret;exact⟨eB u.o.symm,bE z.o a9.o⟩
  |some t=>
   rw[hl]at D;obtain⟨b7,b8,rfl,-⟩:=D;have b6:=λwx=>aMf wx (Y b7) (Z t) b8
   have u:=O (show gO L i (f,(g:Int))=zw by simp[gO,hl]);clear C E J F j M q hl a4;go_enter ys,yu;go_wp2_with fail;generalize hW:w.alloc (.cells #[.string f,iQ (g:Int)] 52)=W at *;clear hW;first|go_region_with (go_at_call 89;refine(aD s _).mono ?_;rintro x w1 ⟨rfl,e⟩;replace e:=uU (W:=W) (by first|exact⟨0,rfl⟩|exact⟨1,rfl⟩|exact⟨_,rfl⟩) e;have c0:=aC e H;have Q:=aC e I;have S:=aC e a0;have T:=aC e X;have a5:=aC e a7;have m:=O e;clear e)|fail
   all_goals
    go_wp2;go_ret;exact⟨eB u.o.symm,bE z.o m.o⟩
 have a1:f.toList.isEmpty=false:=by simpa using q
 rw[a1]at s;have u:=O (show gO L i (f,k)=zw by simp[gO,aK,a1]);have z:=O j;obtain⟨H,I⟩:=a6;clear C E J F j M q a1;go_enter ys,yu;go_wp2_with fail;generalize hW:w.alloc (.cells #[.string f,iQ k] 52)=W at *;clear hW;first|go_region_with (go_at_call 89;refine(aD s _).mono ?_;rintro x w1 ⟨rfl,e⟩;replace e:=uU (W:=W) (by first|exact⟨0,rfl⟩|exact⟨1,rfl⟩|exact⟨_,rfl⟩) e;have c0:=aC e H;have Q:=aC e I;have S:=aC e a0;have T:=aC e X;have m:=O e;clear e)|fail
 all_goals
  go_wp2;go_ret;exact⟨eB u.o.symm,bE z.o m.o⟩
theorem aXl{f:Nd->Bool}(l:List Nd)(k:Nat)(e:k<Z l):(l.take (k+1)).any f=((l.take k).any f || f l[k]):=by grind[zn]
theorem aXm{f:Nd->Bool}{k:Nat}(e:(l.take k).any f=V):l.any f=true:=by grind
theorem aXn(a:Option Addr)(cap I J:Nat)(g:Nd->Bool)(l:List Nd)(w:zu)(C:dI w a l)
  (E:∀n∈l,∀wx,aB w wx->Calls zm 179 #[.agg #[.string n.1,iQ n.2],pQ I,pQ J] wx λi u=>i=.returned (.bool (g n))/\aB wx u):Calls zm 187 #[.slice a (Z l) cap,.func (Fn.func 179) #[] #[pQ I,pQ J]] w λi u=>∃M:Int,i=.returned (iQ M)/\decide (0<=M)=l.any g/\aB w u:=by
 have a0:=C.few;have N:=O E;clear E;go_enter Tryz.func187,Tryz.ntmps187;go_wp2;go_loopw[8] (λt wr=>∃e:Nat,e<=Z l/\t=iQ e/\(l.take e).any g=zw/\aB w wr) (λt _=>Z l-(intOf t).toNat);exact⟨0,za _,rfl,rfl,dP⟩;obtain⟨e,a1,rfl,k,f⟩:=hrel;by_cases H:e<Z l
 .obtain⟨b,o,rfl,z,A⟩:=C.cell e H;have S:=aC f z;have T:=aC f A;have q:=aXl (f:=g) l e H;rw[k,Bool.false_or]at q;have s:=aXm (f:=g) (l:=l) (k:=e+1);rw[q]at s;have m:=O (N.o l[e] (zt _) wr f);generalize l[e]=nd at *;obtain⟨W,X⟩:=nd;simp only at S T;have x:=O q;have y:=O s;have p:=O f;have D:=f.size;clear q s f k z A;cases hl:g (W,X)
  .rw[hl]at m x;clear hl;go_wp2_with(go_at_call 179;refine(aD m).mono ?_;rintro i w1 ⟨rfl,j⟩;have r:=O (p.o.trans (j.mono D));clear j);exact⟨⟨e+1,by omega,by go_num,x.o,r.o⟩,by simp[intOf];omega⟩
  rw[hl]at m y;clear hl;go_wp2_with(go_at_call 179;refine(aD m).mono ?_;rintro i w1 ⟨rfl,j⟩;have r:=O (p.o.trans (j.mono D));clear j);go_ret;exact⟨_,rfl,by rw[y.o (by first|rfl|trivial)];simp,r.o⟩
 have F:l.take e=l:=zj (by omega);rw[F]at k;have Q:=O k;have p:=O f;clear F f k;go_wp2;go_ret;exact⟨_,rfl,by rw[Q.o];rfl,p.o⟩
theorem aXo(a:Option Addr)(cap g i:Nat)(f:Nd->Bool)(l:List Nd)(w:zu)(m:dI w a l)
  (q:∀n∈l,∀wx,aB w wx->Calls zm 179 #[.agg #[.string n.1,iQ n.2],pQ g,pQ i] wx λe j=>e=.returned (.bool (f n))/\aB wx j):Calls zm 178 #[.slice a (Z l) cap,.func (Fn.func 179) #[] #[pQ g,pQ i]] w λe j=>e=.returned (.bool (l.any f))/\aB w j:=by
 have s:=O (aXn a cap g i f l w m q);clear q m;go_enter Tryz.func178,Tryz.ntmps178;go_wp2_with(go_at_call 187;refine(aD s).mono ?_;rintro e w1 ⟨u,rfl,r,p⟩;have k:=O r;have t:=O p;clear r p);go_ret;exact⟨eB (by first|exact k.o|simpa using k.o),t.o⟩
theorem aXp(l:List Nd):∀e,aP l e=V->∀n∈l,dQ n=true:=by
 induction l with
 |nil=>intro e _ n f;simp at f
 |cons m r ih=>
  grind[aP,mC]
theorem aXq(B g:Nat)(x:U)(L:bK)(w:zu)(p r:Bool)(i j:Option Addr)(k m:Nat)(e f:List Nd)(z:dN w B g x L)(A:iR w B i e)(C:iR w B j f)(M:aP e 1=V):Calls zm 170 #[pQ g,.agg #[.bool p,.slice i (Z e) k],.agg #[.bool r,.slice j (Z f) m]] w λy N=>y=.returned (.bool (e.any (gO L f)))/\aB w N:=by
 have q:aB w (((w.alloc (.cells #[pQ g] 218)).alloc (.cells #[.bool p,.slice i (Z e) k] 55)).alloc (.cells #[.bool r,.slice j (Z f) m] 55)):=((aI _ _).alloc (by simp) _).alloc (by simp;omega) _;have t:yw (((w.alloc (.cells #[pQ g] 218)).alloc (.cells #[.bool p,.slice i (Z e) k] 55)).alloc (.cells #[.bool r,.slice j (Z f) m] 55)) (aQ w.heap.size 0)=Y (pQ g):=aC (aI _ _) (aC (aI _ _) (by simp));have u:yw (((w.alloc (.cells #[pQ g] 218)).alloc (.cells #[.bool p,.slice i (Z e) k] 55)).alloc (.cells #[.bool r,.slice j (Z f) m] 55)) (aQ (w.heap.size+2) 1)=Y (.slice j (Z f) m):=by have:=(vA ((w.alloc (.cells #[pQ g] 218)).alloc (.cells #[.bool p,.slice i (Z e) k] 55)) (.bool r) (.slice j (Z f) m) 55).2;rwa[show ((w.alloc (.cells #[pQ g] 218)).alloc (.cells #[.bool p,.slice i (Z e) k] 55)).heap.size=w.heap.size+2 by simp]at this
 have E:=aXp e 1 M;have F:=O (aXo i k w.heap.size (w.heap.size+2) (gO L f) e _ (A.fr (Fr.of_below q)).nodes (λn J wx s=>aXk B g w.heap.size (w.heap.size+2) x L j m f n.1 n.2 wx ((z.below q).below s) ((C.fr (Fr.of_below q)).fr (Fr.of_below s)) (aC s t) (aC s u) (E n J)));have H:=O q;clear q t u E z A C;go_enter Tryz.func170,Tryz.ntmps170;go_wp2_with(go_at_call 178;refine(aD F).mono ?_;rintro y w1 ⟨rfl,D⟩;have I:=O (bE H.o D);clear D);go_ret;exact⟨rfl,I.o⟩
theorem aXr{L:bK}{e f:Lt}(g:e.2.any (gO L f.2)=zw):∀n∈e.2,aK n=V->look L n.2=zl->n∉f.2:=by grind[aMe,gO,List.any_eq_false]
def sI(w:zu)(B:Nat)(v:U)(l:List Nd):Prop:=∃a cap,v=.slice a (Z l) cap/\Z l<=cap/\iR w B a l
def jV(w:zu)(B b0:Nat)(wr:zu)(v:U)(G:List Lt):Prop:=∃P:List (Lt×U),P.map z9=G/\zh wr b0 55 2 v (Z P) (bH P)/\∀e∈P,sI w B e.2 e.1.2
theorem jV.nil(w:zu)(B b0:Nat)(wr:zu):jV w B b0 wr (nQ) []:=⟨[],rfl,z6 _ _ _ _,by simp⟩
theorem jV.below(e:jV w B b0 wr v G)(k:aB wr wx):jV w B b0 wx v G:=by grind[bF,sI,jV,bH]
theorem jV.kept{e:Option Nat}(f:jV w B b0 wr v G)(k:z8 wr wx e)(m:zq v=zl\/zq v≠e):jV w B b0 wx v G:=by obtain⟨P,g,i,j⟩:=f;exact⟨P,g,i.kept k m,j⟩
theorem jV.lt(e:jV w B b0 wr v G):∀k,zq v=Y k->b0<=k/\k<wr.heap.size:=by obtain⟨P,_,f,_⟩:=e;exact bS f
theorem aXs{g:Nat}{e:Nat}{i:List U}(f:zh w g 55 2 (sQ e n cap) n i):mH w B e:=by obtain⟨_,⟨f,_⟩|⟨m,j,k,r,p,q,_⟩⟩:=f;all_goals grind[mH]
theorem jV.lits(u:jV w B b0 wr v G)(C:aB w wr)(k:Z G<=8):∃a cap,v=.slice a (Z G) cap/\Z G<=cap/\eC wr B a G/\∀p,a=Y p->zq v=Y p.block:=by
 obtain⟨P,rfl,j,x⟩:=u;have f:=j;obtain⟨_,⟨rfl,i⟩|⟨g,cap,D,rfl,H,I,y,J,N,M⟩⟩:=j
 .exact⟨zl,0,by simp[i],by simp[i],⟨k,λC A=>by simp at A;omega⟩,by simp⟩
 refine⟨Y (aQ g 0),cap,by simp,by simpa using y,⟨k,λe z=>?_⟩,λp q=>by simp at q;subst q;rfl⟩;have m:e<Z P:=by simpa using z
 obtain⟨r,s,t,E,F⟩:=x P[e] (zt _);refine⟨g,0,r,s,rfl,aXs f,?_,?_,?_,?_⟩
 .rw[Nat.zero_add,f.cellAt (e*2) (by omega),(yZ P e m).1];simp
 .rw[Nat.zero_add,f.cellAt (e*2+1) (by omega),(yZ P e m).2,t];simp
 all_goals grind[Fr.of_below,iR.fr]
def kW(w:zu)(B b o:Nat)(c0:Lt)(wr:zu)(v:U)(gk:Option Nat)(G:List Lt):Prop:=
 (v=.slice (Y (aQ b o)) 1 1/\G=[c0]/\gk=zl)\/(jV w B w.heap.size wr v G/\gk=zq v/\0<Z G)
theorem kW.below(e:kW w B b o c0 wr v gk G)(k:aB wr wx):kW w B b o c0 wx v gk G:=by grind[jV.below,kW,jV]
theorem kW.kept{g:Option Nat}(f:kW w B b o c0 wr v gk G)(k:z8 wr wx g)(p:∀e,g=Y e->gk≠Y e):kW w B b o c0 wx v gk G:=by
 rcases f with f|⟨j,rfl,m⟩
 .exact zo f
 refine zp ⟨j.kept k ?_,rfl,m⟩;cases hv:zq v with
 |none=>exact zo rfl
 |some e=>
  right;intro i;exact p e i.symm hv
theorem kW.lt(e:kW w B b o c0 wr v gk G):∀k,gk=Y k->w.heap.size<=k/\k<wr.heap.size:=by
 rcases e with⟨_,_,rfl⟩|⟨f,rfl,_⟩
 .intro k g;simp at g
 exact f.lt
theorem kW.lits(r:0<Z c)(t:eC w B (Y (aQ b o)) c)(q:kW w B b o c[0] wr v gk G)(m:aB w wr)(s:Z G<=8):∃e f cap,v=.slice (Y (aQ e f)) (Z G) cap/\Z G<=cap/\eC wr B (Y (aQ e f)) G:=by
 rcases q with⟨rfl,rfl,rfl⟩|⟨g,_,i⟩
 .refine⟨b,o,1,rfl,zr _,⟨by simp,λy u=>?_⟩⟩;have x:y=0:=by simpa using u
  subst x;obtain⟨b',p,z,A,C,E,g,D,i,j⟩:=(t.fr (Fr.of_below m)).cell 0 r;grind
 obtain⟨a,cap,rfl,j,k,_⟩:=g.lits m s;obtain⟨b',p,_,_,rfl,_⟩:=k.cell 0 i;exact⟨b',p,cap,rfl,j,k⟩
theorem kW.more{e:U}{x:Lt}{P:List (Lt×U)}(f:P.map z9=G)(i:∀p∈P,sI w B p.2 p.1.2)(k:sI w B e x.2)
  (g:zh w1 w.heap.size 55 2 v (Z P+1) (bH P++[.bool x.1,e])):kW w B b o c0 w1 v (zq v) (G++[x]):=by
 refine zp ⟨⟨P++[(x,e)],by simp[f],by rw[yY,z4];exact g,λp j=>?_⟩,rfl,by simp⟩;grind
theorem jV.more{e:U}{x:Lt}{P:List (Lt×U)}(f:P.map z9=G)(i:∀p∈P,sI w B p.2 p.1.2)(k:sI w B e x.2)
  (g:zh w1 b0 55 2 v (Z P+1) (bH P++[.bool x.1,e])):jV w B b0 w1 v (G++[x]):=by
 refine⟨P++[(x,e)],by simp[f],by rw[yY,z4];exact g,λp j=>?_⟩;grind
structure nJ(w wr:zu)(B b o:Nat)(c0:Lt)(p:Lt->Bool)(gk:Option Nat)(G R:List Lt)(wi:zu)(gv av:U):Prop where
 grp:∃gk',kW w B b o c0 wi gv gk' (G++R.filter p)/\(∀k,zq av=Y k->gk'≠Y k)/\(gk'=gk\/∃k,gk'=Y k/\wr.heap.size<=k)
 row:jV w B wr.heap.size wi av (R.filter λy=>!p y)
 rest:∀k,k<wr.heap.size->gk≠Y k->wi.heap[k]?=wr.heap[k]?
 size:wr.heap.size<=wi.heap.size
 low:aB w wi
theorem nJ.below{p:Lt->Bool}{f:U}(e:nJ w wr B b o c0 p gk G R wi gv f)(k:aB wi wx):nJ w wr B b o c0 p gk G R wx gv f:=by obtain⟨gk',i,m,q⟩:=e.grp;exact⟨⟨gk',i.below k,m,q⟩,e.row.below k,λj g r=>by rw[k.block j (z5 g e.size)];exact e.rest j g r,zi e.size k.size,e.low.trans (k.mono e.low.size)⟩
theorem nJ.group{i:Nat}{y:Lt}{q:Lt->Bool}{gk':Option Nat}{m:U}(f:nJ w wr B b o c0 q gk G R wi gv m)(t:q y=V)
  (r:∀e,zq m=Y e->gk'≠Y e) (j:gk'=gk\/∃e,gk'=Y e/\wr.heap.size<=e)
  (x:kW w B b o c0 w1 (sQ i n cap) (Y i) (G++R.filter q++[y])) (p:z8 wi w1 gk') (hat:gk'=Y i\/wi.heap.size<=i) (u:∀e,gk'=Y e->w.heap.size<=e):nJ w wr B b o c0 q gk G (R++[y]) w1 (sQ i n cap) m:=by
 refine⟨⟨Y i,?_,λe k=>?_,?_⟩,?_,λe k s=>?_,zi f.size p.size,f.low.grown p f.low.size λe g=>u e g⟩
 .rw[ze,yz t,z3,<-yr];exact x
 .rcases hat with hat|hat
  .rw[<-hat];exact r e k
  have:=(f.row.lt e k).2;simp;omega
 .rcases hat with hat|hat
  .rw[<-hat];exact j
  exact zp ⟨i,rfl,zi f.size hat⟩
 .rw[ze,yy (by simp[t]),z3,List.append_nil];refine f.row.kept p ?_;cases hv:zq m with
  |none=>exact zo rfl
  |some e=>exact zp (λg=>r e hv g.symm)
 rw[p.block e (z5 k f.size) (λg=>?_)]
 .exact f.rest e k s
 rcases j with j|⟨A,j,z⟩
 .exact s (by rw[<-j];exact g.symm)
 rw[j]at g;simp at g;omega
theorem nJ.apart{i:Nat}{y:Lt}{p:Lt->Bool}{m:U}(e:nJ w wr B b o c0 p gk G R wi gv m)(s:p y=zw)
  (z:jV w B wr.heap.size w1 (sQ i n cap) ((R.filter λy=>!p y)++[y])) (j:z8 wi w1 (zq m)) (hat:zq m=Y i\/i=wi.heap.size) (A:w.heap.size<=wr.heap.size):nJ w wr B b o c0 p gk G (R++[y]) w1 gv (sQ i n cap):=by
 obtain⟨t,q,r,u⟩:=e.grp;refine⟨⟨t,?_,λk g=>?_,u⟩,?_,λk g x=>?_,zi e.size j.size,e.low.grown j e.low.size λk f=>zi A (e.row.lt k f).1⟩
 .rw[ze,yy (by simp[s]),z3,List.append_nil];exact q.kept j r
 .simp[zq]at g;subst g;rcases hat with hat|hat
  .exact r _ hat
  intro f;have:=(q.lt _ f).2;omega
 .rw[ze,yz (by simp[s]),z3];exact z
 rw[j.block k (z5 g e.size) (λf=>?_)]
 .exact e.rest k g x
 have:=(e.row.lt k f.symm).1;omega
theorem nJ.start{p:Lt->Bool}(e:kW w B b o c0 wr gv gk G)(f:aB w wr):nJ w wr B b o c0 p gk G [] wr gv (nQ):=
 ⟨⟨gk,by simpa using e,by simp[zq],zo rfl⟩,jV.nil _ _ _ _,λ_ _ _=>rfl,zr _,f⟩
theorem eC.move{j:Option Addr}(p:eC wr B j R)(t:∀e,e<wr.heap.size->gk≠Y e->wi.heap[e]?=wr.heap[e]?)(M:∀u,j=Y u->gk≠Y u.block)(F:∀e,gk=Y e->B<=e):eC wi B j R:=by
 refine⟨p.few,λe I=>?_⟩;obtain⟨b,o,y,cap,g,hs,q,C,D,f⟩:=p.cell e I;have i:=t b (zs wr _ q) (M _ g);refine⟨b,o,y,cap,g,?_,(zk i).trans q,(zk i).trans C,D,⟨⟨f.nodes.few,f.nodes.short,λQ H=>?_⟩,f.low⟩⟩
 .rcases hs with hs|hs
  .exact zo hs
  exact zp λz x A N=>hs z x A (by rw[<-i];exact N)
 obtain⟨k,S,m,r,E⟩:=f.nodes.cell Q H;have J:=f.low _ m;have s:=t k (zs wr _ r) (λg=>by have:=F _ g;simp at J;omega);exact⟨k,S,m,(zk s).trans r,(zk s).trans E⟩
theorem eC.tail(f:eC w B (Y (aQ b o)) c):eC w B (Y (aQ b (o+2))) c.tail:=by
 refine⟨by have:=f.few;simp;omega,λe r=>?_⟩;have s:e+1<Z c:=by simp at r;omega
 obtain⟨i,x,g,cap,j,t,k,m,p,q⟩:=f.cell (e+1) s;obtain⟨rfl,rfl⟩:b=i/\o=x:=by simpa using j
 have u:c.tail[e]=c[e+1]:=by simp
 rw[u];exact⟨b,o+2,g,cap,rfl,t,by rw[show o+2+e*2=o+(e+1)*2 by omega];exact k,by rw[show o+2+e*2+1=o+(e+1)*2+1 by omega];exact m,p,q⟩
theorem aXt{f:Type}(e:f->Bool)(G R c:List f)(i:∀l,l∈c↔l∈G\/l∈R):∀l,l∈c↔l∈G++R.filter e\/l∈R.filter λg=>!e g:=by grind
theorem aMg{f:Type}(e:f->Bool)(R:List f):Z (R.filter e)+Z (R.filter λg=>!e g)=Z R:=by
 induction R with
 |nil=>rfl
 |cons x r ih=>
  grind
def aXu(c G R:List Lt):Prop:=∀l,l∈c↔l∈G\/l∈R
theorem iR.back(e:iR wr B a l)(k:aB w wr)(q:B<=w.heap.size):iR w B a l:=
 ⟨⟨e.nodes.few,e.nodes.short,λp m=>by
  obtain⟨b,o,f,i,j⟩:=e.nodes.cell p m;have r:b<B:=e.low _ f;have g:=k.block b (by omega);exact⟨b,o,f,(zk g).symm.trans i,(zk g).symm.trans j⟩⟩,e.low⟩
theorem aXv(B g0:Nat)(h8:U)(L:bK)(w:zu)(b o J:Nat)(c:List Lt)(i5:dN w B g0 h8 L)(e7:eC w B (Y (aQ b o)) c)(r0:Z c<=J)(i1:kP c)(e6:0<Z c)(i0:B<=w.heap.size):Calls zm 158 #[pQ g0,.slice (Y (aQ b o)) (Z c) J] w λa1 s=>∃(G R:List Lt) (e3 e5 e4:Nat) (z:Option Addr) (X:Nat),a1=.returned (.tuple #[.slice (Y (aQ e3 e5)) (Z G) e4,.slice z (Z R) X])/\Z G<=e4/\Z R<=X/\
   eC s B (Y (aQ e3 e5)) G/\eC s B z R/\aXu c G R/\Z G+Z R=Z c/\0<Z G/\aHi L G R/\aB w s:=by
 have q9:=e7.few;have o1:(1:Int)<=(J:Int):=by omega
 have o2:(1:Int)<=(Z c:Int):=by omega
 have o3:(Z c:Int)<=(J:Int):=by omega
 obtain⟨q1,o8,j8⟩:∃z,(if J=1 then Y ((aQ b o):Addr) else Y (aQ b (o+2)))=z/\eC w B z c.tail:=by
  refine⟨_,rfl,?_⟩;by_cases m8:J=1
  .have:c.tail=[]:=z0 (by simp;omega);rw[this];exact⟨by simp,λT c5=>by simp at c5⟩
  rw[aS m8];exact e7.tail
 have l6:=O i5;have f4:=O e7;have h2:=O i1;have m1:=O j8;have l0:aE (kW w B b o c[0] w (.slice (Y (aQ b o)) 1 1) zl [c[0]]):=O (zo ⟨rfl,rfl,rfl⟩);clear i5 e7 i1 j8;obtain⟨g9,g3,g4,g5,g6⟩:=info_parts qJ;go_enter Tryz.func158,Tryz.ntmps158;go_wp2_with fail;go_quiet (fail);go_wp2;have f9:aE (aB w (w.drewN nq)):=O (aN ⟨_,rfl⟩);clear o8 o1 o2 o3;go_loopw[4,5,6] (λgv q2 h0 wr=>∃(k:Nat) (G R:List Lt) (gk:Option Nat) (z:Option Addr) (X:Nat),k<=Z G/\h0=iQ k/\kW w B b o c[0] wr gv gk G/\q2=.slice z (Z R) X/\Z R<=X/\eC wr B z R/\(∀q,z=Y q->gk≠Y q.block)/\aB w wr/\
   (∀l,l∈c↔l∈G\/l∈R)/\Z G+Z R=Z c/\0<Z G/\(∀j∈G.take k,∀e∈R,j.2.any (gO L e.2)=zw)) (λ_ _ h0 _=>Z c-(intOf h0).toNat)
 case atStart=>
  refine⟨0,[c[0]],c.tail,zl,q1,J-1,za _,rfl,l0.o.below f9.o,?_,by simp;omega,m1.o.fr (Fr.of_below f9.o),by simp,f9.o,?_,by simp;omega,by simp,by simp⟩
  .simp
  intro l;cases c with
  |nil=>simp at e6
  |cons j r=>simp
 case round=>
  obtain⟨k,G,R,gk,z,X,r2,rfl,a4,rfl,o9,e8,a8,N,c6,o6,m9,c7⟩:=hrel;have n0:Z G<=8:=by omega
  obtain⟨e3,e5,e4,rfl,n7,g2⟩:=a4.lits e6 f4.o N n0;have p4:=N.size;by_cases j6:k<Z G
  .have o0:(k:Int)<(Z G:Int):=by omega
   obtain⟨j,S⟩:∃j,j=G[k]:=⟨_,rfl⟩;have p6:j∈c:=(c6 j).2 (zo (by rw[S];exact zt _));obtain⟨j9,p5⟩:=h2.o j p6;have j3:∀T,gk=Y T->B<=T:=λT c5=>zi i0 (a4.lt T c5).1
   have l4:=O (nJ.start (p:=λe=>j.2.any (gO L e.2)) a4 N);have h4:=O S;have f7:=O e8;have l8:=O a8;have d9:=O c6;have l9:=O c7;have l2:=O j3;have q5:=O a4.lt;have h1:=O N;clear S e8 a8 c6 c7 j3 a4 N g2;go_wp2;generalize hWR:wr=W0 at *;clear hWR;go_loopw[4,7,22] (λgv m3 g8 wi=>∃i:Nat,i<=Z R/\g8=iQ i/\nJ w W0 B b o c[0] (λe=>j.2.any (gO L e.2)) gk G (R.take i) wi gv m3) (λ_ _ g8 _=>Z R-(intOf g8).toNat);exact⟨0,za _,rfl,l4.o⟩;obtain⟨i,r1,rfl,x⟩:=hrel;by_cases j4:i<Z R
   .obtain⟨g1,Q,a7,c3⟩:=x.grp;have o7:=aMg (λe=>j.2.any (gO L e.2)) (R.take i);have r5:Z (R.take i)<=i:=List.length_take_le _ _;have i4:Z (G++(R.take i).filter λe=>j.2.any (gO L e.2))<=8:=by simp;omega
    obtain⟨a2,a3,m7,rfl,n8,i3⟩:=Q.lits e6 f4.o x.low i4;have o5:k<Z (G++(R.take i).filter λe=>j.2.any (gO L e.2)):=by simp;omega
    have j5:(G++(R.take i).filter λe=>j.2.any (gO L e.2))[k]=j:=by rw[zf j6];exact h4.o.symm
    obtain⟨m5,q0,f0,f2,a1,p0,a9,b2,k2,e9⟩:=i3.cell k o5;obtain⟨rfl,rfl⟩:a2=m5/\a3=q0:=by simpa using a1
    rw[j5]at a9 b2 k2 e9;have i7:=f7.o.move x.rest l8.o l2.o;obtain⟨q6,r6,t,u,rfl,p1,c8,c9,g7,c1⟩:=i7.cell i j4;obtain⟨e,C⟩:∃e,e=R[i]:=⟨_,rfl⟩;have p8:e∈c:=(d9.o e).2 (zp (by rw[C];exact zt _));obtain⟨p2,p7⟩:=h2.o e p8;rw[<-C]at c8 c9 g7 c1;have j7:R.take (i+1)=R.take i++[e]:=by rw[zn j4,C]
    have i6:=l6.o.below x.low;have o4:(k:Int)<(Z (G++(R.take i).filter λe=>j.2.any (gO L e.2)):Int):=by omega
    generalize hGG:(G++(R.take i).filter λe=>j.2.any (gO L e.2))=GG at *;obtain⟨f1,a0⟩:=j;obtain⟨m,g⟩:=e;simp only at a9 b2 k2 e9 c8 c9 g7 c1 p2 p7 j9 p5 Q a7 c3;have A:aB wr (wr.alloc (.cells #[.bool m,.slice t (Z g) u] 55)):=aI _ _;have n6:=vA wr (.bool m) (.slice t (Z g) u) 55;have b4:=O (λwx (S:∃n,wx=(wr.alloc (.cells #[.bool m,.slice t (Z g) u] 55)).drewN n)=>aXq B g0 h8 L wx f1 m f0 t f2 u a0 g ((i6.below A).drawn S) ((e9.fr (Fr.of_below A)).fr ((Fr.refl _ _).drawn S)) ((c1.fr (Fr.of_below A)).fr ((Fr.refl _ _).drawn S)) j9);have b1:=aC A a9;have b3:=aC A b2;obtain⟨a5,a6⟩:=n6;have d8:=O (x.below A);have d6:=O (Q.below A);have l1:=O a7;have h3:=O c3;have f8:=O j7;have f3:aE (sI w B (.slice t (Z g) u) g):=O ⟨t,u,rfl,g7,c1.back x.low i0⟩;clear x Q a7 c3 j7 i6 e9 c1 p0 p1 i3 C o7 i7;cases hpv:a0.any (gO L g)with
    |false=>
     rw[hpv]at b4;have e0:=O hpv;clear hpv;go_wp2_with fail;generalize hWI:wr.alloc (.cells #[.bool m,.slice t (Z g) u] 55)=WI at *;clear A hWI;go_region_held3 (λs=>cQ s a2 (a3+k*2) (.bool f1)/\cQ s a2 (a3+k*2+1) (.slice f0 (Z a0) f2)/\cQ s wr.heap.size 0 (.bool m)/\cQ s wr.heap.size 1 (.slice t (Z g) u)) (go_keep)
      ((go_at_call 170;refine(aD b4 _ (by first|exact⟨0,rfl⟩|exact⟨1,rfl⟩|exact⟨_,rfl⟩)).mono ?_;rintro a1 w1 ⟨rfl,f⟩;replace f:=uU (W:=WI) (by first|exact⟨0,rfl⟩|exact⟨1,rfl⟩|exact⟨_,rfl⟩) f;have c0:=aC f b1;have b7:=aC f b3;have h6:=aC f a5;have h7:=aC f a6;have I:=O f;clear f))
     clear b1 b3 a5 a6 a9 b2 c8 c9 c0 b7;obtain⟨P,M,H,b9⟩:=(d8.o.below I.o).row;have f6:=O M;have b5:=O b9;have n2:Z P<=8:=by have:=congrArg Z M;simp at this;have q7:=List.length_filter_le (λe=>!(a0.any (gO L e.2))) (R.take i);omega
     clear M b9;have y:=O (d8.o.below I.o);have k1:=(y.o).size;go_wp2_with(first
      |(at_builtin;refine wpList_append_lies _ rfl _ _ 36 rfl W0.heap.size 55 g9 (.agg #[.bool false,nQ]) 2 32 zg g3 g4 g5 g6 rfl (by decide) _ _ _ rfl (H.alloc _) (aQ w1.heap.size 0) 1 1 [.bool m,.slice t (Z g) u] rfl rfl ?d1 ?d2 (by decide) ?d3 ?d4 ?d5 _ rfl ?_)
      |go_in)
     case d1=>exact aCm _ _ _ _ _ (by simp)
     case d2=>first|exact aFk _ _ _ _|exact⟨rfl,rfl⟩
     case d3=>unfold maxLen;omega
     case d4=>omega
     case d5=>simp;omega
     intro h9 cap k3 D F c2 _;have b6:=O (nJ.apart (y:=(m,g)) (y.o.below (aI _ _)) e0.o (jV.more (x:=(m,g)) f6.o b5.o f3.o D) F (c2.imp id λb8=>by rw[b8];simp) p4);clear D F c2 H;go_wp2;exact⟨⟨i+1,by omega,by go_num,by rw[f8.o];exact b6.o⟩,by simp[intOf];omega⟩
    |true=>
     rw[hpv]at b4;have e0:=O hpv;clear hpv;rcases d6.o with⟨k0,i2,c4⟩|⟨⟨P,M,H,b9⟩,c4,-⟩
     .have p3:(b=a2/\o=a3)/\Z GG=1/\m7=1:=by
       have:=k0;simp at this;exact⟨⟨this.1.1.symm,this.1.2.symm⟩,this.2⟩
      obtain⟨⟨n4,n5⟩,n1,n9⟩:=p3;subst n4 n5 n9;obtain⟨m4,p9,e1,e2,m6,-,k4,k5,k6,i9⟩:=f4.o.cell 0 e6;obtain⟨rfl,rfl⟩:b=m4/\o=p9:=by simpa using m6
      have k9:aE (sI w B (.slice e1 c[0].2.length e2) c[0].2):=O ⟨e1,e2,rfl,k6,i9⟩;have f5:aE (G++(R.take i).filter (λe=>a0.any (gO L e.2))=[c[0]]):=O (hGG.trans i2);have d7:=O c4;have r3:(k:Int)<1:=by omega
      subst i2;clear k0 n1 c4 i9 k6 hGG j5 o4 n8 i4;go_wp2_with fail;generalize hWI:wr.alloc (.cells #[.bool m,.slice t (Z g) u] 55)=WI at *;clear A hWI;go_region_held3 (λs=>cQ s b (o+k*2) (.bool f1)/\cQ s b (o+k*2+1) (.slice f0 (Z a0) f2)/\cQ s wr.heap.size 0 (.bool m)/\cQ s wr.heap.size 1 (.slice t (Z g) u)) (go_keep)
       ((go_at_call 170;refine(aD b4 _ (by first|exact⟨0,rfl⟩|exact⟨1,rfl⟩|exact⟨_,rfl⟩)).mono ?_;rintro a1 w1 ⟨rfl,f⟩;replace f:=uU (W:=WI) (by first|exact⟨0,rfl⟩|exact⟨1,rfl⟩|exact⟨_,rfl⟩) f;have c0:=aC f b1;have b7:=aC f b3;have h6:=aC f a5;have h7:=aC f a6;have I:=O f;clear f))
      clear b1 b3 a5 a6 a9 b2 c8 c9 c0 b7;have y:=O (d8.o.below I.o);have k1:=(y.o).size;have q3:=Below.at' ((y.o.below (aI _ (.cells #[.bool m,.slice t (Z g) u] 55))).low) (zr _) k4;have q4:=Below.at' ((y.o.below (aI _ (.cells #[.bool m,.slice t (Z g) u] 55))).low) (zr _) k5;clear k4 k5;go_wp2_with(first
       |(at_builtin;refine wpList_append_grows _ rfl _ _ 36 rfl 55 g9 (.agg #[.bool false,nQ]) 2 32 zg g3 g4 g5 g6 rfl (by decide) (some (aQ b o)) 1 1 (bH [(c[0],.slice e1 c[0].2.length e2)]) (by rfl) (by simp) rfl ?s2 (aQ w1.heap.size 0) 1 1 [.bool m,.slice t (Z g) u] rfl rfl ?d1 ?d2 (by decide) ?d3 ?d4 ?_)
       |go_in)
      case s2=>
       rintro _ ⟨⟩ q r7 E;rw[Addr.add_lit];match q,E with
       |0,E=>simp[bH]at E;subst E;simpa using q3
       |1,E=>simp[bH]at E;subst E;simpa using q4
       |q+2,E=>simp[bH]at E
      case d1=>exact aCm _ _ _ _ _ (by simp)
      case d2=>first|exact aFk _ _ _ _|exact⟨rfl,rfl⟩
      case d3=>unfold maxLen;omega
      case d4=>omega
      intro r8 k3 D F;obtain⟨h9,cap,rfl,j2,-⟩:=D.form (by omega);have b6:=O (nJ.group (y:=(m,g)) (gk':=zl) (y.o.below (aI _ _)) e0.o (by simp) (by rw[<-d7.o];exact h3.o)
       (by rw[f5.o];exact kW.more (x:=(m,g)) (P:=[(c[0],.slice e1 c[0].2.length e2)]) rfl (λq a8=>by simp at a8;subst a8;exact k9.o) f3.o (fM (B':=w.heap.size) D (by have:=(y.o).low.size;first|(simp;omega)|omega))) F (zp (by simpa using j2)) (by simp))
      clear D F j2;go_wp2;exact⟨⟨i+1,by omega,by go_num,by rw[f8.o];exact b6.o⟩,by simp[intOf];omega⟩
     have f6:=O M;have b5:=O b9;have d7:=O c4;have f5:=O hGG;have n2:Z P<=8:=by
      have:=congrArg Z M;simp at this;omega
     have l7:=O H;clear M b9 c4 hGG H;go_wp2_with fail;generalize hWI:wr.alloc (.cells #[.bool m,.slice t (Z g) u] 55)=WI at *;clear A hWI;go_region_held3 (λs=>cQ s a2 (a3+k*2) (.bool f1)/\cQ s a2 (a3+k*2+1) (.slice f0 (Z a0) f2)/\cQ s wr.heap.size 0 (.bool m)/\cQ s wr.heap.size 1 (.slice t (Z g) u)) (go_keep)
      ((go_at_call 170;refine(aD b4 _ (by first|exact⟨0,rfl⟩|exact⟨1,rfl⟩|exact⟨_,rfl⟩)).mono ?_;rintro a1 w1 ⟨rfl,f⟩;replace f:=uU (W:=WI) (by first|exact⟨0,rfl⟩|exact⟨1,rfl⟩|exact⟨_,rfl⟩) f;have c0:=aC f b1;have b7:=aC f b3;have h6:=aC f a5;have h7:=aC f a6;have I:=O f;clear f))
     clear b1 b3 a5 a6 a9 b2 c8 c9 c0 b7;have y:=O (d8.o.below I.o);have k1:=(y.o).low.size;have H:=bF l7.o I.o (zr _);go_wp2_with(first
      |(at_builtin;refine wpList_append_lies _ rfl _ _ 36 rfl w.heap.size 55 g9 (.agg #[.bool false,nQ]) 2 32 zg g3 g4 g5 g6 rfl (by decide) _ _ _ rfl (H.alloc _) (aQ w1.heap.size 0) 1 1 [.bool m,.slice t (Z g) u] rfl rfl ?d1 ?d2 (by decide) ?d3 ?d4 ?d5 _ rfl ?_)
      |go_in)
     case d1=>exact aCm _ _ _ _ _ (by simp)
     case d2=>first|exact aFk _ _ _ _|exact⟨rfl,rfl⟩
     case d3=>unfold maxLen;omega
     case d4=>omega
     case d5=>simp;omega
     intro h9 cap k3 D F c2 _;have b6:=O (nJ.group (y:=(m,g)) (gk':=g1) (y.o.below (aI _ _)) e0.o l1.o h3.o
      (by rw[f5.o];exact kW.more (x:=(m,g)) f6.o b5.o f3.o D) (by rw[d7.o];exact F) (by rw[d7.o];exact c2.imp id λb8=>by rw[b8];simp) (λT c5=>(d6.o.lt T c5).1))
     clear D F c2 H;go_wp2;exact⟨⟨i+1,by omega,by go_num,by rw[f8.o];exact b6.o⟩,by simp[intOf];omega⟩
   have i8:R.take i=R:=zj (by omega);rw[i8]at x;have r4:=aMg (λe=>j.2.any (gO L e.2)) R;obtain⟨g1,Q,a7,c3⟩:=x.grp;obtain⟨h5,m2,rfl,n3,j0,j1⟩:=x.row.lits x.low (by omega);have d6:=O Q;have k7:=O j0;have k8:=O (λq (b8:h5=Y q)=>a7 q.block (j1 q b8));have l5:=O x.low;have m0:aE (∀d0∈(G++R.filter λe=>j.2.any (gO L e.2)).take (k+1),∀e∈R.filter λe=>!(j.2.any (gO L e.2)),d0.2.any (gO L e.2)=zw):=O (by
    intro d0 hz e C;rw[List.take_append_of_le_length (by omega),zn j6]at hz;rw[List.mem_filter]at C;rcases List.mem_append.1 hz with hz|hz
    .exact l9.o d0 hz e C.1
    simp at hz;rw[hz,<-h4.o];simpa using C.2)
   have q8:Z (G++R.filter λe=>j.2.any (gO L e.2))=Z G+Z (R.filter λe=>j.2.any (gO L e.2)):=by simp
   clear i8 x Q a7 c3 j0 j1;go_wp2;exact⟨⟨k+1,_,_,g1,h5,m2,by omega,by go_num,d6.o,rfl,n3,k7.o,k8.o,l5.o,aXt _ G R c d9.o,by omega,by omega,m0.o⟩,by simp[intOf];omega⟩
  have l3:=O g2;have f7:=O e8;have d9:=O c6;have h1:=O N;have b5:aE (aHi L G R):=O (by
   intro d0 hz e C;rw[zj (by omega)]at c7;exact aXr (c7 d0 hz e C))
  have o0:¬(k:Int)<(Z G:Int):=by omega
  clear g2 e8 a8 c6 c7 a4 N;go_wp2;go_ret2;exact⟨G,R,e3,e5,e4,z,X,rfl,n7,o9,l3.o,f7.o,d9.o,o6,m9,b5.o,h1.o⟩
theorem aXw(w:zu)(n cap:Nat)(e:U)(g:e.cells.size=2)(i:n<=cap)(f:cap<=maxLen):zh (w.drew.alloc (.cells (Builtin.zeroCells e.cells n++Builtin.zeroCells e.cells (cap-n)) 55)) w.heap.size 55 2 (sQ w.heap.size 0 cap) 0 []:=by
 refine⟨by simp,.inr ⟨w.heap.size,cap,_,rfl,zr _,heap_alloc_new w.drew _,za _,f,?_,by simp⟩⟩;simp only[Array.size_append,size_zeroCells,g,<-Nat.add_mul];congr 1
 omega
theorem aXx(n:Nat)(w:zu)(y:n<=16):Calls zm 182 #[nQ,iQ n] w λj f=>∃v,j=.returned v/\zh f w.heap.size 55 2 v 0 []/\aB w f:=by
 obtain⟨t,k,m,u,p⟩:=info_parts qJ;by_cases e:n=0
 .subst e;go_enter Tryz.func182,Tryz.ntmps182;go_wp2;go_ret;exact⟨_,rfl,z6 _ _ _ _,dP⟩
 have r:=grownCap_ge w n 0 55;have s:=grownCap_le_maxLen w n 0 55 (by unfold maxLen;omega);have q:=O (Lib.run_append_nil_zeros (P:=zm) w 36 3 36 55 t (.agg #[.bool zw,nQ]) .i64 .i64 zg Tryz.underlying3 k m n (by omega) (by omega) (by omega) (by rw[p];omega));have i:=O (aXw w n (grownCap w n 0 55) (.agg #[.bool zw,nQ]) rfl r s);have x:(0:Int)<=(grownCap w n 0 55:Int):=by omega
 have z:(0:Int)<(n:Int):=by omega
 have g:aE (aB w (w.drew.alloc (.cells (Builtin.zeroCells (Value.agg #[.bool zw,nQ]).cells n++Builtin.zeroCells (Value.agg #[.bool zw,nQ]).cells (grownCap w n 0 55-n)) 55))):=O ((aN (w:=w) (w1:=w.drew) ⟨1,rfl⟩).alloc (zr _) _);clear e;go_enter Tryz.func182,Tryz.ntmps182;go_wp2_with(first
  |(at_builtin;refine Lib.wpList_append_run _ rfl _ _ _ _ rfl _ _ rfl rfl _ _ (aD q) ?_)
  |go_in)
 go_ret;exact⟨_,rfl,i.o,g.o⟩
theorem aMh(P e:List (Lt×U)):bH (P++e)=bH P++bH e:=by simp[bH]
theorem aMi(w:zu)(B:Nat)(P:List (Lt×U))(i:∀p∈P,sI w B p.2 p.1.2):∀f∈bH P,f.oneCell'=true:=by
 intro f e;simp only[bH,List.mem_flatMap]at e;obtain⟨p,j,e⟩:=e;obtain⟨a,cap,g,_⟩:=i p j;simp at e;rcases e with rfl|rfl
 .rfl
 rw[g];rfl
theorem eC.cells(E:eC w B (Y (aQ b o)) c):∃P:List (Lt×U),P.map z9=c/\(∀p∈P,sI w B p.2 p.1.2)/\∀j u,(bH P)[j]?=Y u->cQ w b (o+j) u:=by
 obtain⟨f,s⟩:=Deep.choose_lt (α:=U) (n:=Z c) (p:=λk v=>∀e:k<Z c,sI w B v c[k].2/\cQ w b (o+k*2) (.bool c[k].1)/\cQ w b (o+k*2+1) v) (λk e=>by
  obtain⟨A,M,z,cap,i,_,r,m,F,H⟩:=E.cell k e;obtain⟨rfl,rfl⟩:b=A/\o=M:=by simpa using i
  exact⟨_,λ_=>⟨⟨z,cap,rfl,F,H⟩,r,m⟩⟩)
 have t:Z ((yt (Z c)).map λk=>((c[k]?).getD (zw,[]),f k))=Z c:=by simp
 refine⟨(yt (Z c)).map λk=>((c[k]?).getD (zw,[]),f k),?_,λp J=>?_,λj u g=>?_⟩
 .rw[List.map_map];refine List.ext_getElem (by simp) λk r m=>?_
  simp[m]
 .obtain⟨k,e,rfl⟩:=List.mem_map.1 J;have q:k<Z c:=by simpa using e
  simp only[z7 q,Option.getD_some];exact(s k q q).1
 have I:j<Z (bH ((yt (Z c)).map λk=>((c[k]?).getD (zw,[]),f k))):=(eE g);rw[aAv,t]at I;have e:j / 2<Z c:=by omega
 obtain⟨x,y⟩:=yZ ((yt (Z c)).map λk=>((c[k]?).getD (zw,[]),f k)) (j / 2) (by rw[t];exact e);simp[e]at x y;obtain⟨_,C,D⟩:=s (j / 2) e e;rcases Nat.mod_two_eq_zero_or_one j with h0|h0
 .have i:j=j / 2*2:=by omega
  rw[i]at g ⊢;rw[x]at g;simp at g;rw[<-g];exact C
 have i:j=j / 2*2+1:=by omega
 rw[i]at g ⊢;rw[y]at g;simp at g;rw[<-g,<-Nat.add_assoc];exact D
theorem aXy(B a2 N a0 c4 Q a1 c5:Nat)(m r:List Lt)(w:zu)(S:eC w B (Y (aQ N a0)) m)(T:eC w B (Y (aQ Q a1)) r)(e2:cQ w a2 0 (.slice (Y (aQ N a0)) (Z m) c4))(e3:cQ w a2 1 (.slice (Y (aQ Q a1)) (Z r) c5)):Calls zm 172 #[sQ a2 2 2] w λg c7=>∃v,g=.returned v/\jV w B w.heap.size c7 v (m++r)/\aB w c7:=by
 obtain⟨c3,b2,b3,b4,b5⟩:=info_parts qJ;have e5:=S.few;have e6:=T.few;obtain⟨f,W,a9,b7⟩:=S.cells;obtain⟨k,X,b1,b8⟩:=T.cells;have b9:Z f=Z m:=by rw[<-W];simp
 have c1:Z k=Z r:=by rw[<-X];simp
 have c8:=O (aXx (Z m+Z r) w (by omega));have y:=O b9;have z:=O c1;have d0:=O b7;have d7:=O b8;have a6:=O a9;have a7:=O b1;have d9:=O W;have e0:=O X;clear S T W X a9 b1 b7 b8 b9 c1;go_enter Tryz.func172,Tryz.ntmps172;go_wp2;go_loop [3,11] (λa3 u=>∃e x:Nat,e<=2/\u=iQ e/\a3=iQ x/\x<=16/\((e=0/\x=0)\/(e=1/\x=Z m)\/(e=2/\x=Z m+Z r))) (λ_ u=>2-(intOf u).toNat);exact⟨0,0,by omega,rfl,rfl,by omega,zo ⟨rfl,rfl⟩⟩;obtain⟨e,x,e1,rfl,rfl,e7,A⟩:=hrel;rcases A with⟨rfl,rfl⟩|⟨rfl,A⟩|⟨rfl,A⟩
 .go_wp2;go_round;·exact⟨1,Z m,by omega,by go_num,by go_num,by omega,zp (zo ⟨rfl,rfl⟩)⟩
  .simp[intOf]
 .have a8:=O A;clear A;go_wp2;go_round;·exact⟨2,x+Z r,by omega,by go_num,by go_num,by have:=a8.o;omega,zp (zp ⟨rfl,by rw[a8.o]⟩)⟩
  .simp[intOf]
 subst A;go_wp2_with(go_at_call 182;refine(aD c8).mono ?_;rintro g w1 ⟨v,rfl,j,b6⟩;have d8:=O j;have c9:=O b6;clear j b6);go_loopw[6,27] (λa3 u wr=>∃(e:Nat) (P:List (Lt×U)),e<=2/\u=iQ e/\zh wr w.heap.size 55 2 a3 (Z P) (bH P)/\aB w wr/\((e=0/\P=[])\/(e=1/\P=f)\/(e=2/\P=f++k))) (λ_ u _=>2-(intOf u).toNat);exact⟨0,[],by omega,rfl,d8.o,c9.o,zo ⟨rfl,rfl⟩⟩;obtain⟨e,P,e1,rfl,c2,i,t⟩:=hrel;have D:=O c2;clear c2;rcases t with⟨rfl,rfl⟩|⟨rfl,t⟩|⟨rfl,t⟩
 .have j:=D.o;have J:=O (λp q (s:(bH f)[p]?=Y q)=>aC i (d0.o p q s));have C:=O i;have e4:=aC i e2;have E:=i.size;clear i D;go_wp2_with(first
   |(at_builtin;refine wpList_append_own _ rfl _ _ 36 rfl w.heap.size 55 c3 (.agg #[.bool false,nQ]) 2 32 zg b2 b3 b4 b5 rfl (by decide) _ _ _ rfl j (aQ N a0) (Z m) c4 (bH f) rfl ?d1 ?d2 ?d3 ?d4 ?d5 ?d6 ?_)
   |go_in)
  case d1=>rw[aAv,y.o]
  case d2=>exact λp q s=>by rw[Addr.add_lit];exact J.o p q s
  case d3=>exact aMi w B f a6.o
  case d4=>unfold maxLen;have:=y.o;have:=z.o;simp;omega
  case d5=>have:=y.o;have:=z.o;simp;omega
  case d6=>exact E
  intro a4 a5 H F _;have M:aE (zh a5 w.heap.size 55 2 a4 (Z ([]++f)) (bH ([]++f))):=O (by
   have g:=H;rw[<-y.o,<-aMh]at g;simpa using g)
  have I:=O (C.o.grown F E λe g=>(bS j e g).1);clear H F j;go_wp2;exact⟨⟨1,[]++f,by omega,by go_num,M.o,I.o,zp (zo ⟨rfl,by simp⟩)⟩,by simp[intOf]⟩
 .replace t:=t.symm
  subst t;have j:=D.o;have J:=O (λp q (s:(bH k)[p]?=Y q)=>aC i (d7.o p q s));have C:=O i;have e4:=aC i e3;have E:=i.size;clear i D;go_wp2_with(first
   |(at_builtin;refine wpList_append_own _ rfl _ _ 36 rfl w.heap.size 55 c3 (.agg #[.bool false,nQ]) 2 32 zg b2 b3 b4 b5 rfl (by decide) _ _ _ rfl j (aQ Q a1) (Z r) c5 (bH k) rfl ?d1 ?d2 ?d3 ?d4 ?d5 ?d6 ?_)
   |go_in)
  case d1=>rw[aAv,z.o]
  case d2=>exact λp q s=>by rw[Addr.add_lit];exact J.o p q s
  case d3=>exact aMi w B k a7.o
  case d4=>unfold maxLen;have:=y.o;have:=z.o;simp;omega
  case d5=>have:=y.o;have:=z.o;simp;omega
  case d6=>exact E
  intro a4 a5 H F _;have M:aE (zh a5 w.heap.size 55 2 a4 (Z (f++k)) (bH (f++k))):=O (by
   have g:=H;rw[<-z.o,<-aMh]at g;simpa using g)
  have I:=O (C.o.grown F E λe g=>(bS j e g).1);clear H F j;go_wp2;exact⟨⟨2,f++k,by omega,by go_num,M.o,I.o,zp (zp ⟨rfl,by simp⟩)⟩,by simp[intOf]⟩
 subst t;have C:=O i;clear i;go_wp2;go_ret;exact⟨_,rfl,⟨f++k,by rw[List.map_append,d9.o,e0.o],D.o,λc6 hp=>by rcases List.mem_append.1 hp with hp|hp;exact a6.o c6 hp;exact a7.o c6 hp⟩,C.o⟩
def aGp(n:Nat):Prop:=∀(B g:Nat) (f:Option Addr) (m:Nat) (d:List Lt) (L:bK) (w:zu) (j:Option Addr) (k:Nat) (c:List Lt),Z c<=n->dN w B g (.slice f (Z d) m) L->eC w B f d->eC w B j c->Z c<=k->kP d->kP c->B<=w.heap.size->
 Calls zm 140 #[pQ g,.slice j (Z c) k] w λr p=>∃(i:Bool) (e:bK),r=.returned (.bool i)/\dN p B g (.slice f (Z d) m) e/\Fr B w p/\(∃q,e=L++q)/\(i=V->mG c L e/\aHh d c e)/\(i=zw->¬fW d c L)
def aGq(n:Nat):Prop:=∀(B g:Nat) (f:Option Addr) (k:Nat) (d:List Lt) (L:bK) (w:zu) (b o j:Nat) (c:List Lt),Z c<=n->0<Z c->dN w B g (.slice f (Z d) k) L->eC w B f d->eC w B (Y (aQ b o)) c->Z c<=j->kP d->kP c->B<=w.heap.size->
 Calls zm 159 #[pQ g,.slice (Y (aQ b o)) (Z c) j] w λq m=>∃(i:Bool) (e:bK),q=.returned (.bool i)/\dN m B g (.slice f (Z d) k) e/\Fr B w m/\(∃p,e=L++p)/\(i=V->mG c L e/\aHh d c e)/\(i=zw->¬fW d c L)
def aMj:U->Nat
 | .slice _ n _=>n
 |_=>0
def aXz(d c f:List Lt)(L:bK):Prop:=∀e,Tm e->jW e L->∀l∈c,l∈f\/(l.1,subst e l.2)∈d
theorem kP.of{e:List Lt}(f:kP c)(i:∀l∈e,l∈c):kP e:=λl g=>f l (i l g)
theorem fW.sub{e:List Lt}{L:bK}(f:fW d c L)(g:∀l∈e,l∈c):fW d e L:=by grind[fW,jW,Tm,subst]
theorem aY0{i:List Lt}{L f g:bK}(j:mG c L f)(p:mG G f g)(m:∀l∈G,l∈i)(k:∀l∈i,l∈c):mG c L g:=j.trans p (λ_ e=>e) (λl e=>k l (m l e))
theorem aMk(n:Nat)(b6:aGq n):aGp n:=by
 intro B W S T d L w e1 e2 c f3 i b5 a1 e9 c3 c2 b4;have d5:=O b6;have d6:=O i;have d3:=O b5;have d2:=O a1;have d4:=O c3;have a9:=O c2;have f9:=a1.few;clear b6 i b5 a1 c3 c2;go_enter Tryz.func140,Tryz.ntmps140;go_wp2;go_loopw[1] (λv wr=>∃(f:List Lt) (g:bK) (a6:Option Addr) (A:Nat),v=.slice a6 (Z f) A/\Z f<=n/\Z f<=A/\eC wr B a6 f/\dN wr B W (.slice S (Z d) T) g/\Fr B w wr/\(∀l∈f,l∈c)/\(∃e0,g=L++e0)/\(fW d c L↔fW d f g)/\mG c L g/\aXz d c f g) (λv _=>aMj v);exact⟨c,L,e1,e2,rfl,f3,e9,d2.o,d6.o,Fr.refl _ _,λ_ h=>h,⟨[],by simp⟩,Iff.rfl,mG.refl _ _,λ_ _ _ l e=>zo e⟩;obtain⟨f,g,a6,A,rfl,g1,f2,r,i,j,y,x,a2,t,u⟩:=hrel;by_cases b3:0<Z f
 .obtain⟨b,o,_,_,rfl,_⟩:=r.cell 0 b3;have f8:(0:Int)<(Z f:Int):=by omega
  have d0:=O (aXv B W (.slice S (Z d) T) g wr b o A f i r f2 (a9.o.of y) b3 (zi b4 j.size));have k:=O j;have H:=O i;have M:=O y;have q:=O x;have a8:=O a2;have F:=O t;have J:=O u;have f5:=zi b4 j.size;clear r i j y x a2 t u;go_wp2_with(first
   |(go_at_call 158;refine(aD d0).mono ?_;rintro e3 w1 ⟨G,R,e4,e6,e5,f6,f7,rfl,f0,f4,b7,b8,a4,g0,e7,b9,p⟩;have c9:=O (d5.o B W S T d g w1 e4 e6 e5 G (by omega) e7 (H.o.below p) (d3.o.fr (k.o.trans (Fr.of_below p))) b7 f0 d4.o (a9.o.of λl e=>M.o l ((a4 l).2 (zo e))) (zi f5 p.size));have a7:=O p;have d9:=O b8;have m:=O a4;have d1:=O b9;clear b7 b8 a4 b9 p)
   |(go_at_call 159;refine(aD c9).mono ?_;rintro e3 g2 ⟨C,b2,rfl,c4,c1,c6,c7,c8⟩;have I:=O c4;have E:=O c1;have b1:=O c6;have d7:=O c7;have d8:=O c8;clear c4 c1 c6 c7 c8))
  .have a5:C=false:=by first|assumption|(cases C<;>simp_all)
   subst a5;go_ret;refine⟨zw,b2,rfl,I.o,k.o.trans ((Fr.of_below a7.o).trans E.o),?_,by simp,λ_ e8=>?_⟩
   .obtain⟨N,X⟩:=q.o;obtain⟨Q,a0⟩:=b1.o;exact⟨N++Q,by rw[a0,X];simp⟩
   exact d8.o rfl (((a8.o).1 e8).sub λl e=>(m.o l).2 (zo e))
  have a5:C=true:=by first|assumption|(cases C<;>simp_all)
  subst a5;go_roundw;case rel=>
   obtain⟨a3,c5⟩:=d7.o rfl;refine⟨R,b2,f6,f7,rfl,by omega,f4,d9.o.fr E.o,I.o,k.o.trans ((Fr.of_below a7.o).trans E.o),λl e=>M.o l ((m.o l).2 (zp e)),?_,?_,?_,?_⟩
   .obtain⟨N,X⟩:=q.o;obtain⟨Q,a0⟩:=b1.o;exact⟨N++Q,by rw[a0,X];simp⟩
   .exact a8.o.trans (bBm m.o d1.o a3 I.o.ok.look c5)
   .exact aY0 F.o a3 (λl e=>(m.o l).2 (zo e)) M.o
   intro D z s l e;rcases J.o D z (a3.ext s) l e with h|h
   .rcases(m.o l).1 h with h|h
    .exact zp (c5 D z s l h)
    exact zo h
   exact zp h
  case measure=>simp[aMj];omega
 have f1:f=[]:=z0 (by omega);subst f1;have k:=O j;have H:=O i;have q:=O x;have F:=O t;have J:=O u;clear r i j y x a2 t u;go_wp2;go_ret;refine⟨V,g,rfl,H.o,k.o,q.o,λ_=>⟨F.o,λD z s l e=>?_⟩,by simp⟩;rcases J.o D z s l e with h|h
 .simp at h
 exact h
theorem aY1(B e:Nat)(m:U)(L:bK)(w:zu)(q r:Bool)(i j:Option Addr)(s k:Nat)(a b:List Nd)(C:dN w B e m L)(z:iR w B i a)(A:iR w B j b)(D:Z b<=k)(J:aP a 1=V)(M:aP b 1=V)(x:Z a<=60)(y:Z b<=60)(F:fQ (q,a) (r,b) L=zl):∀wx,(∃n,wx=w.drewN n)->Calls zm 173 #[pQ e,.agg #[.bool q,.slice i (Z a) s],.agg #[.bool r,.slice j (Z b) k]] wx λt p=>t=.returned (.bool zw)/\(∃g,dN p B e m (L++g))/\Fr B w p:=by
 intro wx f;refine(aH5 B e m L wx q r i j s k a b (C.drawn f) (z.fr ((Fr.refl _ _).drawn f)) (A.fr ((Fr.refl _ _).drawn f)) D J M x y).mono ?_;rintro t p ⟨I,N,rfl,H,E,⟨g,rfl⟩,u,Q⟩;cases I with
 |true=>rw[F]at u;simp at u
 |false=>exact⟨rfl,⟨g,H⟩,((Fr.refl _ _).drawn f).trans E⟩
theorem aY2(B e:Nat)(k:U)(L r:bK)(w:zu)(p q:Bool)(g i:Option Addr)(s j:Nat)(a b:List Nd)(E:dN w B e k L)(C:iR w B g a)(D:iR w B i b)(F:Z b<=j)(M:aP a 1=V)(N:aP b 1=V)(y:Z a<=60)(z:Z b<=60)(x:fQ (p,a) (q,b) L=Y r):∀wx,(∃n,wx=w.drewN n)->Calls zm 173 #[pQ e,.agg #[.bool p,.slice g (Z a) s],.agg #[.bool q,.slice i (Z b) j]] wx λt m=>t=.returned (.bool V)/\dN m B e k r/\Fr B w m:=by
 intro wx f;refine(aH5 B e k L wx p q g i s j a b (E.drawn f) (C.fr ((Fr.refl _ _).drawn f)) (D.fr ((Fr.refl _ _).drawn f)) F M N y z).mono ?_;rintro t m ⟨J,Q,rfl,I,H,_,A,u⟩;cases J with
 |true=>
  have:=A rfl;rw[x]at this;simp at this;subst this;exact⟨rfl,I,((Fr.refl _ _).drawn f).trans H⟩
 |false=>rw[x]at u;simp at u
theorem eC.take{w:zu}{B b o:Nat}{c:List Lt}(e:eC w B (Y (aQ b o)) c)(k:Nat):eC w B (Y (aQ b o)) (c.take k):=by
 refine⟨by have:=e.few;simp;omega,λj f=>?_⟩;have g:j<Z c:=by simp at f;omega
 have:=e.cell j g;simpa using this
theorem eC.drop(f:eC w B (Y (aQ b o)) c)(k:Nat):eC w B (Y (aQ b (o+k*2))) (c.drop k):=by
 refine⟨by have:=f.few;simp;omega,λj s=>?_⟩;have t:k+j<Z c:=by simp at s;omega
 obtain⟨i,y,g,cap,e,u,m,p,q,r⟩:=f.cell (k+j) t;obtain⟨rfl,rfl⟩:b=i/\o=y:=by simpa using e
 have x:(c.drop k)[j]=c[k+j]:=by simp
 rw[x];exact⟨b,o+k*2,g,cap,rfl,u,by rw[show o+k*2+j*2=o+(k+j)*2 by omega];exact m,by rw[show o+k*2+j*2+1=o+(k+j)*2+1 by omega];exact p,q,r⟩
theorem aMl(c:List Lt)(e:Nat)(f:e<Z c):∀l,l∈c↔l=c[e]\/l∈c.take e++c.drop (e+1):=by grind[List.drop_eq_getElem_cons,zt,List.mem_append_left,List.mem_append_right,List.mem_of_mem_drop,zb,List.take_append_drop]
theorem aY3(n:Nat)(h7:aGp n):aGq (n+1):=by
 intro B D h3 N d L w b o f c p9 m2 p b9 b8 p4 f0 e9 p0;have k3:=O (bE5 B D h3 N d L w (Y (aQ b o)) f c p b9 b8 f0 e9 m2);have l7:=O h7;have o7:=O p;have g1:=O b9;have d4:=O b8;have d7:=O f0;have g2:=O e9;have p3:=b8.few;have p5:=b9.few;clear h7 p b9 b8 f0 e9;go_enter Tryz.func159,Tryz.ntmps159;go_wp2_with(go_at_call 171;refine(aD k3).mono ?_;rintro Q w1 ⟨e,rfl,a5,i8,e8⟩;have k8:=O i8;have d5:=O e8;have q1:=e8.size;clear i8 e8);have m5:(e:Int)<=(f:Int):=by omega
 have m6:(e:Int)+1<=(Z c:Int):=by omega
 have m7:(Z c:Int)<=(f:Int):=by omega
 have m8:(0:Int)<=(e:Int):=by omega
 have m9:(e:Int)+1<=(f:Int):=by omega
 have n0:(0:Int)<=(e:Int)+1:=by omega
 have n1:((e:Int)+1).toNat=e+1:=by omega
 have n7:IntKind.i64.wrap ((e:Int)+1)=(e:Int)+1:=by rw[IntKind.wrap_i64];omega
 obtain⟨m,r,n3,i1⟩:∃m r,(if f=e+1 then Y ((aQ b o):Addr) else Y ⟨b,o+(e+1)*2,zl⟩)=Y (aQ m r)/\eC w1 B (Y (aQ m r)) (c.drop (e+1)):=by
  by_cases b7:f=e+1
  .have:c.drop (e+1)=[]:=List.drop_eq_nil_of_le (by omega);rw[this];exact⟨b,o,aT b7,⟨by simp,λe a5=>by simp at a5⟩⟩
  exact⟨b,o+(e+1)*2,aS b7,(d4.o.fr d5.o).drop (e+1)⟩
 have c4:aB w1 (w1.alloc (.cells #[.slice (Y (aQ b o)) e f,.slice (Y (aQ m r)) (Z c-(e+1)) (f-(e+1))] 36)):=aI _ _;have a3:=vA w1 (.slice (Y (aQ b o)) e f) (.slice (Y (aQ m r)) (Z c-(e+1)) (f-(e+1))) 36;have i6:Z (c.take e)=e:=by simp;omega
 have i7:Z (c.drop (e+1))=Z c-(e+1):=by simp
 have k2:=O (λwx (H:∃n,wx=(w1.alloc (.cells #[.slice (Y (aQ b o)) e f,.slice (Y (aQ m r)) (Z c-(e+1)) (f-(e+1))] 36)).drewN n)=>
  aXy B w1.heap.size b o f m r (f-(e+1)) (c.take e) (c.drop (e+1)) wx (((((d4.o.fr d5.o).take e).fr (Fr.of_below c4)).fr ((Fr.refl _ _).drawn H))) ((i1.fr (Fr.of_below c4)).fr ((Fr.refl _ _).drawn H)) (by rw[i6];obtain⟨n9,rfl⟩:=H;exact a3.1) (by rw[i7];obtain⟨n9,rfl⟩:=H;exact a3.2))
 have q0:Z (c.take e++c.drop (e+1))+1=Z c:=by simp;omega
 have k4:=O c4;have g8:=O (d4.o.cell e a5);have e0:=O (g2.o c[e] (zt _));have a0:=O (aMl c e a5);have k7:aE (kP (c.take e++c.drop (e+1))):=O (g2.o.of λl hl=>(aMl c e a5 l).2 (zp hl));generalize hrest:c.take e++c.drop (e+1)=rest at *;obtain⟨d0,H⟩:∃d0,d0=c[e]:=⟨_,rfl⟩;rw[<-H]at g8 e0 a0;clear c4 a3 i6 i7 i1 hrest H;go_region_held3 (λ_=>True) (trivial) ((go_at_call 172;refine(aD k2 _ (by first|exact⟨0,rfl⟩|exact⟨1,rfl⟩|exact⟨_,rfl⟩)).mono ?_;rintro Q c9 ⟨v,rfl,j2,a2⟩;have k6:=O a2;replace a2:=uU (W:=w1.alloc (.cells #[.slice (Y (aQ b o)) e f,.slice (Y (aQ m r)) (Z c-(e+1)) (f-(e+1))] 36)) (by first|exact⟨0,rfl⟩|exact⟨1,rfl⟩|exact⟨_,rfl⟩) a2;have l6:=O j2;have k5:=O a2;clear j2 a2));have e2:aB w1 c9:=k4.o.trans (k5.o.mono (by simp));have h9:Below ((w1.alloc (.cells #[.slice (Y (aQ b o)) e f,.slice (Y (aQ m r)) (Z c-(e+1)) (f-(e+1))] 36)).drew).heap.size ((w1.alloc (.cells #[.slice (Y (aQ b o)) e f,.slice (Y (aQ m r)) (Z c-(e+1)) (f-(e+1))] 36)).drew) c9:=k6.o;obtain⟨o1,o2,rfl,n4,h6,-⟩:=l6.o.lits h9 (by omega);have I:aE (Fr B w c9):=O (d5.o.trans (Fr.of_below e2));have g4:=O (k8.o.below e2);have l5:=O h6;have p1:=g4.o.among;have q2:=(I.o).size;clear e2 h9 h6 n3 m5 m6 m7 m8 m9 n0 n1 n7;go_wp2;go_loopw[27] (λf3 wr=>∃i:Nat,i<=Z d/\f3=iQ i/\dN wr B D (.slice h3 (Z d) N) L/\Fr B c9 wr/\(∀s∈d.take i,∀x,fQ d0 s L=Y x->¬fW d rest x)) (λf3 _=>Z d-(intOf f3).toNat);exact⟨0,za _,rfl,g4.o,Fr.refl _ _,by simp⟩;obtain⟨i,p6,rfl,p,S,a8⟩:=hrel;by_cases i5:i<Z d
 .obtain⟨b6,c6,t,u,rfl,n5,o5,o6,b3,e5⟩:=((g1.o.fr I.o).fr S).cell i i5;obtain⟨F,b2⟩:=d7.o d[i] (zt _);obtain⟨m1,o0,f9,g0,h4,c5,f5,j9,n8,h8⟩:=g8.o;obtain⟨rfl,rfl⟩:b=m1/\o=o0:=by simpa using h4
  have a1:=I.o.trans S;have d1:=a1.cell f5 c5;have f7:=a1.cell j9 c5;have e4:=h8.fr a1;have j3:=c5.fr (zs w _ f5) a1;obtain⟨E,b1⟩:=e0.o;obtain⟨o8,o9,i0⟩:=p.len;have p8:(Z L:Int)<=60:=by have:=p.ok.few;omega
  have a9:d.take (i+1)=d.take i++[d[i]]:=zn i5;have j6:d[i]∈d:=zt _;have p7:(e:Int)<(Z c:Int):=by omega
  generalize d[i]=s at *;obtain⟨j,k⟩:=s;obtain⟨z,A⟩:=d0;simp only at o5 o6 F b2 e5 b3 d1 f7 e4 E b1 n8;have q:aB wr (wr.alloc (.cells #[.bool j,.slice t (Z k) u] 55)):=aI _ _;have a3:=vA wr (.bool j) (.slice t (Z k) u) 55;have j4:=aDu (w:=wr) (B:=B) #[.bool j,.slice t (Z k) u] 55 (by decide) (by decide);have j5:mH (wr.alloc (.cells #[.bool j,.slice t (Z k) u] 55)) B b:=j3.fr (zs wr _ d1) (Fr.of_below q);have f6:=aC q d1;have f8:=aC q f7;have p2:=aC q i0;obtain⟨e6,e7⟩:=a3;have c1:=p.below q;have c2:=e4.fr (Fr.of_below q);have c3:=e5.fr (Fr.of_below q);have X:=O (S.trans (Fr.of_below q));have g5:=O a8;have g6:=O a9;have l8:=O j6;have J:=O j4;have M:=O j5;have q4:=(X.o).size;clear a8 a9 j6 p S a1 j3 c5 n5 j4 j5 h8 e4 e5 f5 j9 h4 d1 f7 i0;cases hml:fQ (z,A) (j,k) L with
  |none=>
   have d3:=O (aY1 B D (.slice (Y (aQ b6 c6)) (Z d) N) L _ z j f9 t g0 u A k c1 c2 c3 b3 E F b1 b2 hml);have b5:=O hml;clear c1 c2 c3 hml b3 F b2 E b1 q;go_wp2_with fail;generalize hWI:wr.alloc (.cells #[.bool j,.slice t (Z k) u] 55)=WI at *;clear hWI;first|go_region_with (go_at_call 173;refine(aD d3 _ (by first|exact⟨0,rfl⟩|exact⟨1,rfl⟩|exact⟨_,rfl⟩)).mono ?_;rintro Q f4 ⟨rfl,⟨m0,a6⟩,g⟩;have c0:=g.cell f6 M.o;have h0:=g.cell f8 M.o;have h1:=g.cell e6 J.o;have h2:=g.cell e7 J.o;have d2:=O (aH6 B D _ L m0 f4 a6);have b4:=O (X.o.trans g);clear a6 g)|fail
   all_goals
    go_wp2_with(go_at_call 174;refine(aD d2).mono ?_;rintro Q o4 ⟨rfl,a7,a4⟩;have d9:=O a7;have d6:=O (b4.o.trans a4);clear a7 a4);exact⟨⟨i+1,by omega,by go_num,d9.o,d6.o,by
     intro s hy x y;rw[g6.o]at hy;rcases List.mem_append.1 hy with hy|hy
     .exact g5.o s hy x y
     simp at hy;subst hy;rw[b5.o]at y;simp at y⟩,by simp[intOf];omega⟩
  |some L1=>
   have d3:=O (aY2 B D (.slice (Y (aQ b6 c6)) (Z d) N) L L1 _ z j f9 t g0 u A k c1 c2 c3 b3 E F b1 b2 hml);obtain⟨e1,h5,i4⟩:=bBk (x:=(z,A)) (y:=(j,k)) E F hml;have b5:=O hml;have d8:=O h5;have g7:=O (And.intro E F);have g3:=O i4;clear c1 c2 c3 hml b3 F b2 E b1 q h5 i4;go_wp2_with fail;generalize hWI:wr.alloc (.cells #[.bool j,.slice t (Z k) u] 55)=WI at *;clear hWI;go_region_held3 (λc8=>cQ c8 b (o+e*2) (.bool z)/\cQ c8 b (o+e*2+1) (.slice f9 (Z A) g0)/\cQ c8 wr.heap.size 0 (.bool j)/\cQ c8 wr.heap.size 1 (.slice t (Z k) u)) (go_keep)
    (first
     |(go_at_call 173;refine(aD d3 _ (by first|exact⟨0,rfl⟩|exact⟨1,rfl⟩|exact⟨_,rfl⟩)).mono ?_;rintro Q f4 ⟨rfl,a6,g⟩;have c0:=g.cell f6 M.o;have h0:=g.cell f8 M.o;have h1:=g.cell e6 J.o;have h2:=g.cell e7 J.o;have q3:=g.size;have k1:=O (l7.o B D (some (aQ b6 c6)) N d L1 f4 o1 o2 rest (by omega) a6 (((g1.o.fr I.o).fr X.o).fr g) ((l5.o.fr X.o).fr g) n4 d7.o k7.o (by omega));have C:=O g;clear a6 g)
     |(go_at_call 140;refine(aD k1).mono ?_;rintro Q o3 ⟨c7,l9,rfl,f1,T,⟨g9,e3⟩,j0,j1⟩;have q5:=T.cell c0 (M.o.fr (zs _ _ f6) C.o);have q6:=T.cell h0 (M.o.fr (zs _ _ f8) C.o);have q7:=T.cell h1 (J.o.fr (zs _ _ e6) C.o);have q8:=T.cell h2 (J.o.fr (zs _ _ e7) C.o);have d2:=O (aH6 B D (.slice (some (aQ b6 c6)) (Z d) N) L (e1++g9) o3 (by rw[<-yr,<-d8.o,<-e3];exact f1));have l1:=O f1;have b4:=O ((X.o.trans C.o).trans T);have l3:=O j0;have l4:=O j1;have k9:=O e3;clear f1 T j0 j1 e3))
   go_wp2_with(go_at_call 174;refine(aD d2).mono ?_;rintro Q o4 ⟨rfl,a7,a4⟩;have d9:=O a7;have d6:=O (b4.o.trans a4);clear a7 a4)
   .have f2:c7=true:=by first|assumption|(cases c7<;>simp_all)
    subst f2;go_ret;obtain⟨i3,n2⟩:=l3.o rfl;have n6:=aHg (x:=(z,A)) (y:=(j,k)) g7.o.1 g7.o.2 b5.o;refine⟨V,l9,rfl,l1.o,I.o.trans b4.o,⟨e1++g9,by rw[k9.o,d8.o];simp⟩,λ_=>⟨?_,?_⟩,by simp⟩
    .refine mG.trans (c:=[(z,A)]) ⟨e1,d8.o,λj8 i9=>⟨⟨(z,A),by simp,(g3.o j8 i9).1⟩,(g3.o j8 i9).2⟩⟩ i3 (λl hl=>?_) (λl hl=>(a0.o l).2 (zp hl));simp at hl;rw[hl];exact(a0.o _).2 (zo rfl)
    intro k0 j7 i2 l hl;rcases(a0.o l).1 hl with rfl|hl
    .rw[((n6 k0 j7).1 (i3.ext i2)).2];exact l8.o
    exact n2 k0 j7 i2 l hl
   have f2:c7=false:=by first|assumption|(cases c7<;>simp_all)
   subst f2;exact⟨⟨i+1,by omega,by go_num,d9.o,d6.o,by
    intro s hy x y;rw[g6.o]at hy;rcases List.mem_append.1 hy with hy|hy
    .exact g5.o s hy x y
    simp at hy;subst hy;rw[b5.o]at y;simp at y;subst y;exact l4.o rfl⟩,by simp[intOf];omega⟩
 have a9:d.take i=d:=zj (by omega);rw[a9]at a8;have l0:=O p;have C:=O S;have l2:aE (¬fW d c L):=O (by
  intro m4;obtain⟨s,hy,x,b7,m3⟩:=(aE3 (λl hl=>(d7.o l hl).1) e0.o.1 a0.o).1 m4;exact a8 s hy x b7 m3)
 clear a9 a8 p S;go_wp2;go_ret;exact⟨zw,L,rfl,l0.o,I.o.trans C.o,⟨[],by simp⟩,by simp,λ_=>l2.o⟩
theorem aMm:∀n,aGq n
 |0=>λB i f g d L w b o e c k j=>by omega
 |n+1=>aY3 n (aMk n (aMm n))
theorem aY4(n:Nat):aGp n:=aMk n (aMm n)
theorem dN.new(w:zu)(e:U):dN (w.alloc (.cells (kN e) 206)) w.heap.size w.heap.size e []:=by
 have i:(w.alloc (.cells (kN e) 206)).heap[w.heap.size]?=Y (.cells (kN e) 206):=heap_alloc_new w _;have f:∀g,yw (w.alloc (.cells (kN e) 206)) (aQ w.heap.size g)=(kN e)[g]?:=λg=>by unfold yw;simp only[i];rfl
 refine⟨zr _,⟨_,i⟩,by rw[f];exact aLg e,λj k=>⟨_,by rw[f];exact aG9 e j (by omega),rfl⟩,⟨nQ,by rw[f];exact aG9 e 60 (by omega),z6 _ _ _ _⟩,gQ.nil⟩
theorem uV(e:bD c=V):kP c/\Z c<=8:=by simp only[bD,Bool.and_eq_true,bN,decide_eq_true_eq,List.all_eq_true]at e;exact⟨λl f=>aOh (e.1.2 l f),e.1.1.1⟩
theorem eC.of(s:bU w a c)(y:kQ w a c)(x:Z c<=8)(z:kP c):eC w w.heap.size a c:=by
 refine⟨x,λe r=>?_⟩;obtain⟨b,o,g,cap,i,j,k,m⟩:=s.cell e r;refine⟨b,o,g,cap,i,zo (zs w _ j),j,k,y e r b o g _ cap i k,m,λp A=>?_⟩;have D:=bBh (q:=0) (z c[e] (zt _)).1;have t:0<c[e].2.length:=by grind
 obtain⟨C,E,f,u,_⟩:=m.cell 0 t;rw[A]at f;simp at f;rw[f];exact zs w _ u
theorem kQ.below(s:kQ w a c)(g:bU w a c){B:Nat}(k:Below B w w1)(x:w.heap.size<=B):kQ w1 a c:=by intro j f b o i n cap e y;obtain⟨p,z,m,q,r,t,u,_⟩:=g.cell j f;grind[Below.at',kQ]
theorem aY5(p g:Option Addr)(s j:Nat)(f e:List Lt)(w:zu)(k:bU w p f)(m:bU w g e)(Q:kQ w p f)(S:kQ w g e)(a7:Z f<=s)(M:bD f=V)(N:bD e=V):Calls zm 106 #[.slice p (Z f) s,.slice g (Z e) j] w λy b4=>∃r:Bool,y=.returned (.bool r)/\(r=V↔Z f<=Z e/\fW e f [])/\aB w b4:=by
 obtain⟨z,b2⟩:=uV M;obtain⟨A,b3⟩:=uV N;have u:=O z;have x:=O A;have X:=O k;have a0:=O m;have a5:=O Q;have a6:=O S;clear M N z A k m Q S;go_enter Tryz.func106,Tryz.ntmps106;go_upto_region 1 with(fail);apply wp_region_lit;refine aVh rfl rfl rfl rfl _ _ _ _ rfl rfl rfl rfl g (Z e) j rfl (by rfl) (by rfl) (by rfl) ?_;have C:=eC.of X.o a5.o b2 u.o;have D:=eC.of a0.o a6.o b3 x.o;have q:aB w (w.alloc (.cells (kN (.slice g (Z e) j)) 206)):=aI _ _;have t:=O q;have W:=O (aY4 (Z f) w.heap.size w.heap.size g j e [] _ p s f (zr _) (dN.new w (.slice g (Z e) j)) (D.fr (Fr.of_below q)) (C.fr (Fr.of_below q)) a7 x.o u.o (by simp));clear C D q;by_cases F:Z f<=Z e
 .have a9:(Z f:Int)<=(Z e:Int):=by omega
  go_wp2_with(go_at_call 140;refine(aD W).mono ?_;rintro y b7 ⟨r,b5,rfl,H,E,-,I,J⟩;have a2:=O H;have a1:=O (t.o.trans ((E.below (by simp)).mono (zr _)));have a3:=O I;have a4:=O J;clear H E I J);go_ret;refine⟨r,rfl,?_,a1.o⟩;cases r with
  |true=>
   obtain⟨a8,b1⟩:=a3.o rfl;refine⟨λ_=>⟨F,?_⟩,λ_=>rfl⟩;obtain⟨T,k,m,_⟩:=aOn (d:=e) a2.o.ok.look;exact⟨T,k,a8.ext m,b1 T k m⟩
  |false=>exact⟨λi=>by simp at i,λi=>absurd i.2 (a4.o rfl)⟩
 have a9:decide ((Z f:Int)<=(Z e:Int))=false:=by rw[decide_eq_false_iff_not];omega
 have b6:(Z e:Int)<(Z f:Int):=by omega
 go_wp2;go_ret;exact⟨zw,rfl,⟨λi=>by simp at i,λi=>absurd i.1 F⟩,t.o⟩
theorem aY6(B:Nat)(e f:Option Addr)(g i:Nat)(c d:List Lt)(w:zu)(m:bP B w (.slice e (Z c) g) c)(p:bP B w (.slice f (Z d) i) d)(q:bD c=V)(r:bD d=V):Calls zm 106 #[.slice e (Z c) g,.slice f (Z d) i] w λj k=>j=.returned (.bool (bL c d))/\aB w k:=by
 grind[bP.lits,aY5,mB,kQ,bP,fW,bL,bD]
theorem zN(m:bD c=V)(p:bD d=V):mP c d:=λB e f g i w j k=>aY6 B e f g i c d w j k m p
theorem aMn(e:Z d<Z c):bL c d=false:=
 (aSp (r:=zw) ⟨λe=>(by cases e),λf=>by omega⟩).symm
theorem aMo{l:Lt}(g:l∈c)(f:∀i∈d,i.1≠l.1):bL c d=false:=
 (aSp (r:=zw) ⟨λe=>(by cases e),λ⟨_,j,_,_,e⟩=>absurd rfl (f (l.1,subst j l.2) (e l g))⟩).symm
theorem aY7{f:Int->List Nd}(g:Tm f):∀(l:List Nd) (e:Nat),aP l e=V->aP (subst f l) e=true:=by grind[subst,aJi,aA9,bIj,bIk,Tm,dQ,aP,aK]
theorem aY8(p:bD c=V):fW c c []:=by
 have u:Tm λe=>if 0<=e/\e<60 then [(⟨#[]⟩,e)] else [(⟨#[]⟩,0)]:=by
  intro e;simp only;have m:∀f:Int,0<=f->f<60->aP [((⟨#[]⟩:ByteArray),f)] 1=true:=by intro f q r;have i:=oF f;rw[mC];unfold dQ;rw[aT i,kE i];simp[aP,q,r]
  split
  .rename_i j;exact m e j.1 j.2
  exact m 0 (by omega) (by omega)
 refine⟨_,u,λe x j=>by simp[look]at j,λl k=>?_⟩;have s:=(mB p).term l k;have:subst (λe=>if 0<=e/\e<60 then [(⟨#[]⟩,e)] else [(⟨#[]⟩,0)]) l.2=l.2:=by
  rw[aOm (τ:=λf=>[(⟨#[]⟩,f)]) λn t i=>?_]
  .exact bIi l.2
  have g:=aA9 s.1 n t;unfold dQ at g;rw[aT i]at g;simp at g;rw[aT g]
 rw[this];exact k
theorem aY9{e f g:List Lt}(i:fW f e [])(m:fW g f []):fW g e []:=by obtain⟨t,p,_,q⟩:=i;obtain⟨u,r,_,s⟩:=m;refine⟨λv=>subst u (t v),λv=>aY7 r _ 1 (p v),λv x k=>by simp[look]at k,λl j=>?_⟩;rw[<-bIm];exact s _ (q l j)
theorem aYa:aDc:=λc d g e f=>by
 rw[aDd]at e f ⊢;exact⟨zi e.1 f.1,aY9 e.2 f.2⟩
theorem aYb(c:List Lt)(e:bD c=V):bL c c=true:=aDd.2 ⟨zr _,aY8 e⟩
theorem aYc{e:List (aJ×U)}(i:ks.Pairwise (· < ·))(f:oN e ks):aGo e ks:=λj g=>by
 grind[aAx,yv,List.mem_take_iff_getElem,List.pairwise_iff_getElem,Nat.lt_or_ge,oN,aGo,aO,nE,bN,eV,dU,gZ]
structure wQ(P:List (List Lt))(T:List (aJ×U))(ks:List Nat):Prop where
 srt:ks.Pairwise (· < ·)
 lt:∀k∈ks,k<Z T
 good:∀k∈ks,bD (aO T k)=V/\aO T k≠[]/\dU (aO T k)=zw
 giv:∀c∈P,uT T ks c
 fac:∀k∈ks,∀y∈nE (aO T k) k,(y.2=0/\uT T ks y.1.c)/\(bN y.1.c=V\/dU y.1.c=V)
 res:∀k∈ks,∀m∈ks,m<=k->∀y∈gZ (aO T k) k (aO T m) m,(y.2=0/\uT T ks y.1.c)/\(bN y.1.c=V\/dU y.1.c=V)
structure SvE(lim:Nat)(P:List (List Lt))(vd:Nat)(T:List (aJ×U))(ks:List Nat)(b:Bool):Prop where
 cl:∀p∈T,bD p.1.c=V
 step:∀k (h:k<Z T),kU P T k T[k].1
 unsat:vd=1->∃T0 p,T=T0++[p]/\p.1.c=[]/\Z T0<=lim
 len:vd≠1->Z T<=lim
 out:vd=3->Z T=lim\/b=V
 sat:vd=2->wQ P T ks
theorem sH.fit{f:List (aJ×U)}{b:Bool}{e:aJ×Int}(g:sH L f ks b e)(i:b=V->e.2=0/\(bN e.1.c=V\/dU e.1.c=V)):bN e.1.c=V\/dU e.1.c=true:=by grind[sH,qS,bN,dU]
theorem mU.sat2{m:List (aJ×U)}{b:Bool}(g:mU P L n m ks b)(t:dW (λc=>ks.any λe=>bL (aO m e) c) (Z L) L=zl)(p:b=V->aGo m ks):wQ P m ks:=
 ⟨g.srt,g.ok.k,λe f=>by
  have:=g.good e (g.ok.k e f);rw[qB (g.ok.k e f)];exact⟨by have:=g.clause f;rwa[qB (g.ok.k e f)]at this,this.1,this.2.1⟩,λc u=>(g.giv c u).end t,λe f j i=>⟨(g.fac e f j i).fine t λk=>(p k e f).1 j i,(g.fac e f j i).fit λk=>(p k e f).1 j i⟩,λe f s r q j i=>⟨(g.res e f s r q j i).fine t λk=>(p k e f).2 s r q j i,(g.res e f s r q j i).fit λk=>(p k e f).2 s r q j i⟩⟩
theorem kU.last{e:List (aJ×U)}{g:aJ}(i:∀f (i:f<Z e),kU P e f e[f].1)(k:kU P e (Z e) g):∀f (i:f<Z (e++[(g,v)])),kU P (e++[(g,v)]) f (e++[(g,v)])[f].1:=λf j=>by
 grind[kU.snoc,zf,List.getElem_append_right]
theorem aDg:bD []=true:=by decide
theorem aYd(r:∀c∈P,bD c=V)(x:Z P<=40){k:Nat}(q:k<=100){L:List Cd}{n:Nat}(p:bT (iX P) [] 0 zw L n zw):eA k (SvE k P) L n [] [] false:=by
 refine aXf (P:=P) (J:=λ_ _=>True) (λ_ _ _ _ _ _ _ _ _ _ _=>trivial) (λc d=>zN) aYa aYb q ?sat ?big ?unsat ?out k L n [] [] zw (mU.start r x p) trivial (by simp);case sat=>exact λL n i ks e _ g j=>⟨e.ok.t,e.step,λf=>by omega,λ_=>g,λf=>by omega,λ_=>e.sat2 j (λf=>by cases f)⟩
 case big=>
  intro L n i ks e _ g j;refine eA.big (λE A H u=>zN (e.clause u) (e.ok.l E A)) j (λI y F C=>(aFy (e.clause (zt y)) (λb s=>e.clause (zb s)) F C).1) (λt=>⟨e.ok.t,e.step,λf=>by omega,λ_=>g,λf=>by omega,λ_=>e.sat2 j (λ_=>aYc e.srt t)⟩) (λ_=>⟨e.ok.t,e.step,λf=>by omega,λ_=>g,λ_=>zp rfl,λf=>by omega⟩)
 case unsat=>
  exact λL n i ks b M v e _ g z m=>⟨λD hp=>by
   rcases List.mem_append.1 hp with hp|hp
   .exact e.ok.t D hp
   simp at hp;subst hp;rw[m];exact aDg,kU.last e.step z,λ_=>⟨i,_,rfl,m,g⟩,λf=>absurd rfl f,λf=>by omega,λf=>by omega⟩
 case out=>exact λL n i ks b e _ g _=>⟨e.ok.t,e.step,λf=>by omega,λ_=>by omega,λ_=>zo g,λf=>by omega⟩
def tP(f:Nat)(P:List (List Lt))(g:Nat)(e:List (aJ×U))(ks:List Nat)(b:Bool):Prop:=
 SvE f P g e ks b/\PR f (wH (iX P) [] 0 zw).1 (wH (iX P) [] 0 zw).2.1 [] [] zw (g,eT e,ks,b)
theorem aYe(k:∀c∈P,bD c=V)(m:Z P<=40){e:Nat}(g:e<=100){L:List Cd}{n:Nat}(f:bT (iX P) [] 0 zw L n zw):eA e (tP e P) L n [] [] false:=by refine(aYd k m g f).pure.mono ?_;rintro q p ks b ⟨i,j⟩;refine⟨i,?_⟩;have:=f.er;rw[List.map_nil]at this;rw[this];exact j
theorem tP.one{j:Nat}{k m:Nat}{e f:List (aJ×U)}{i:List Nat}{b g:Bool}(p:tP j P k e ks b)(q:tP j P m f i g):k=m/\e.map z9=f.map z9/\ks=i/\b=g:=by have:=p.2.one q.2;simp only[Prod.mk.injEq]at this;refine⟨this.1,?_,this.2.2.1,this.2.2.2⟩;have r:=congrArg (List.map z9) this.2.1;simpa[eT,List.map_map,Function.comp_def]using r
theorem aYf(g:ByteArray)(e:Int)(w:zu)(q:g.size<=140737488355328):Calls zm 9 #[.string g,iQ e] w λj r=>xY g e (λf=>tP e.toNat f) w j r:=
 aKw g e (λf=>tP e.toNat f) w q λf s i=>by
  have k:Z f<=40:=i.few.1;refine⟨aFn i,by omega,λl t _ p L n m=>?_⟩;obtain rfl:e.toNat=l:=by omega
  exact aYe (aFn i) k p m
theorem aMp(e:iP l=V):∃n f,l=n::f/\aK n=false:=by
 cases l with
 |nil=>exact absurd e (by decide)
 |cons n f=>exact⟨n,f,rfl,by simp[iP]at e;exact e.2⟩
theorem aMq{f k:List Nd}{j:Int}{i:List (Int×Lt)}(u:iP f=V)(x:iP k=V)(r:nW (aW 0 f++aW j k++aL i) 0 (Z f)):f[0]?=k[0]?:=by
 obtain⟨n,e,rfl,t⟩:=aMp u;obtain⟨g,q,rfl,s⟩:=aMp x;have m:(aF ((aW 0 (n::e)++aW j (g::q)++aL i).map Prod.snd)).lab 0=n:=by simp[aF,aW]
 have p:(aF ((aW 0 (n::e)++aW j (g::q)++aL i).map Prod.snd)).lab (Z (n::e))=g:=by simp[aF,aW]
 have:=r.1 0 (Z (n::e)) (Cl.base (zp ⟨rfl,rfl⟩)) (by unfold Gr.named;rw[m];exact t) (by unfold Gr.named;rw[p];exact s);rw[m,p]at this;simp[this]
theorem aMr{e:List Tg}{a:Nat}{g:List (Int×Lt)}{j:List Lt}{i:Bool}{f:Int}(k:fD e a b g j i f):(i=zw/\f=0)\/nW (e++aL g) a b:=by grind[fD,nW,aY,dS,bB,aF,bO,aL]
theorem aDh{g:List Tg}{a:Nat}{k:List (Int×Lt)}{e:List Lt}{f:Bool}{i:Int}(j:fD g a b k e f i)(m:f=zw):bD e=V\/dU e=true:=by rcases j with⟨_,rfl,_⟩|⟨_,q,p,_,_,⟨_,rfl,_⟩|⟨_,_,rfl,_⟩⟩;all_goals grind[aDg]
theorem wQ.fac1{g:List (aJ×U)}(u:wQ P g ks){f:Nat}(A:f∈ks){X a0:Nat}{k:List Lt}{q:Bool}{e:Int}(z:kL (aO g f) X a0 k q e):e≠4/\(q=V->uT g ks k)/\(bD k=V\/dU k=V):=by
 have r:=(u.good f A).1;have N:=z.good.2;rcases z with⟨x,_⟩|⟨_,⟨_,T,C,a2⟩|⟨a,b,⟨i,j,a4,a5,I,W⟩,m⟩⟩
 .rw[r]at x;cases x
 .exact⟨by omega,λe=>(by rw[C]at e;cases e),zo (by rw[T];exact aDg)⟩
 have H:=(tN r).2 _ (zt i);have J:=(tN r).2 _ (zt j);rcases aMr m with⟨y,a3⟩|hy
 .exact⟨by omega,λe=>(by rw[y]at e;cases e),aDh m y⟩
 have s:(aO g f).getD a default=(aO g f)[a]:=by simp[i]
 have t:(aO g f).getD b default=(aO g f)[b]:=by simp[j]
 rw[s,t]at hy;have Q:=aMq H J hy;have M:rO (aO g f) a b=(k,q,e):=aRe i j (by rw[s,t]at m;exact m);by_cases p:q=V\/e≠0
 .have S:(⟨3,f,0,a,b,k⟩,e)∈nE (aO g f) f:=by
   refine List.mem_filterMap.2 ⟨(a,b),aCw.2 ⟨i,j,by rw[aDe i,aDe j];exact Q⟩,?_⟩;unfold oK;rw[aT ⟨I,by rw[zF i,zF j];exact W⟩,M,aT p]
  obtain⟨⟨D,E⟩,F⟩:=u.fac f A _ S;exact⟨by have:e=0:=D;omega,λ_=>E,F.imp N id⟩
 refine⟨λa1=>p (zp (by omega)),λhy=>absurd (zo hy) p,aDh m (by simpa using λhy=>p (zo hy))⟩
theorem wQ.res1{e:List (aJ×U)}(s:wQ P e ks){g i:Nat}(C:g∈ks)(D:i∈ks)(W:i<=g){a2 a3:Nat}{m:List Lt}{r:Bool}{f:Int}(A:jA (aO e g) (aO e i) a2 a3 m r f):f≠4/\(r=V->uT e ks m)/\(bD m=V\/dU m=V):=by
 have y:=(s.good g C).1;have z:=(s.good i D).1;have S:=A.good.2;rcases A with⟨E,_⟩|⟨_,_,⟨_,a0,F,a5⟩|⟨a,b,⟨j,k,a7,a8,a1⟩,p⟩⟩
 .exact absurd ⟨y,z⟩ E
 .exact⟨by omega,λf=>(by rw[F]at f;cases f),zo (by rw[a0];exact aDg)⟩
 have M:=(tN y).2 _ (zt j);have N:=(tN z).2 _ (zt k);rcases aMr p with⟨x,a6⟩|hy
 .exact⟨by omega,λf=>(by rw[x]at f;cases f),aDh p x⟩
 have t:(aO e g).getD a default=(aO e g)[a]:=by simp[j]
 have u:(aO e i).getD b default=(aO e i)[b]:=by simp[k]
 rw[t,u]at hy;have T:=aMq M N hy;have Q:qA (aO e g) a (aO e i) b=(m,r,f):=aIy j k (by rw[t,u]at p;exact p);by_cases q:r=V\/f≠0
 .have X:(⟨2,g,i,a,b,m⟩,f)∈gZ (aO e g) g (aO e i) i:=by
   refine List.mem_filterMap.2 ⟨(a,b),aCw.2 ⟨j,k,by rw[aDe j,aDe k];exact T⟩,?_⟩;unfold nY;rw[aT (by rw[zF j,zF k];exact a1),Q,aT q]
  obtain⟨⟨H,I⟩,J⟩:=s.res g C i D W _ X;exact⟨by have:f=0:=H;omega,λ_=>I,J.imp S id⟩
 refine⟨λa4=>q (zp (by omega)),λhy=>absurd (zo hy) q,aDh p (by simpa using λhy=>q (zo hy))⟩
