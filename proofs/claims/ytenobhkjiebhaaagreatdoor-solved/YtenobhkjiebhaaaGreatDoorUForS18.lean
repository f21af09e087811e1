import Derived.Test.YtenobhkjiebhaaaGreatDoorUPut1S18
import Derived.Lib.AppendZerosOnto
import Derived.DeepKeys4
import Derived.Lib.SliceRun
import Derived.Test.YtenobhkjiebhaaaGreatDoorPTermS18
open Bool renaming false->zl,true->zg
open List renaming length->Z,getElem?_eq_getElem->zv,replicate->zr,length_set->zn,getElem_mem->zk,take_succ_eq_append_getElem->zh,drop_drop->zd,getElem?_set->zc,getElem_of_mem->z2,take_set_of_le->z3
open Nat renaming le_refl->zp,zero_le->z1
open Option renaming some->V,none->zo
open Or renaming inl->zj,inr->zf
namespace Go.Proofs.YtenobhkjiebhaaaGreatDoor
open Go renaming World->Y,Value->zm
open _root_.Go.Proofs.Tryz renaming prog->zu,underlying198->ze,underlying24->zb,underlying3->z0
open Value renaming ownBlock->U
open World renaming cell?->zt,ownsRow->zs,grownBy->zq,setCell->za,frozen?->z4
open Go.RowKit Go.Shelf Go.WideMaps
set_option maxHeartbeats 8000000
set_option maxRecDepth 100000
variable{G:Gr}{ks:List Nat}{b n:Nat}{d rt:Nat->Nat}{B E E' Q:Nat->Nat->Prop}{v:zm}{w:Y}
inductive fZ(B:Nat->Nat->Prop):Nat->Nat->Prop
 |refl (i):fZ B i i
 |base {i j}:B i j->fZ B i j
 |symm {i j}:fZ B i j->fZ B j i
 |trans {i j k}:fZ B i j->fZ B j k->fZ B i k
theorem fZ.le{R:Nat->Nat->Prop}(g:∀c,R c c)(i:∀c e,R c e->R e c)(j:∀c e k,R c e->R e k->R c k)(l:∀c e,B c e->R c e){c e:Nat}(f:fZ B c e):R c e:=by
 induction f with
 |refl c=>exact g c
 |base f=>exact l _ _ f
 |symm _ ih=>exact i _ _ ih
 |trans _ _ a b=>exact j _ _ _ a b
theorem fZ.mono{a:Nat->Nat->Prop}(c:∀i j,B i j->fZ a i j){i j:Nat}(k:fZ B i j):fZ a i j:=k.le fZ.refl (λ_ _=>fZ.symm) (λ_ _ _=>fZ.trans) c
def aF(a:List Nd):Gr:=⟨λi=>(a[i]?).getD (⟨#[]⟩,0),λi=>match a[i]? with|some n=>gE (a.drop (i+1)) (bI n) (i+1)|none=>[]⟩
theorem nC{a:List Nd}{c:Nat}(e:(aF a).named c):∃n,a[c]?=V n/\aK n=false:=by grind[Gr.named,aF,oF]
theorem iF{a:List Nd}{c:Nat}{n:Nd}(e:a[c]?=V n):(aF a).named c↔aK n=false:=by unfold Gr.named aF;simp[e]
theorem pR{a:List Nd}{c:Nat}{n:Nd}(e:a[c]?=V n):(aF a).lab c=n:=by simp[aF,e]
theorem jE{L:List Nd}{a:Nat}{n:Nd}(c:L[a]?=V n):(aF L).ch a=gE (L.drop (a+1)) (bI n) (a+1):=by simp[aF,c]
theorem sZ(a:List Nd):(aF a).Arity:=by intro g i e f c;grind[jE,pR,nC,yG,Gr.Arity,Gr.named,aF,gE,aK,bI]
structure jP(F:List Nat)(rt d:Nat->Nat):Prop where
 lt:∀p q:Nat,F[p]?=V q->q<Z F
 root:∀p:Nat,F[p]?=V p->rt p=p
 step:∀p q:Nat,F[p]?=V q->q≠p->rt p=rt q/\d q<d p
 out:∀p:Nat,Z F<=p->rt p=p
theorem jP.isRoot{f:List Nat}(i:jP f rt d):∀(n a:Nat),d a<=n->a<Z f->f[rt a]?=V (rt a):=by
 intro n;induction n with
 |zero=>
  intro a k j;obtain⟨c,e⟩:∃c,f[a]?=V c:=⟨f[a],zv j⟩;by_cases g:c=a
  .subst g;rw[i.root _ e];exact e
  have:=(i.step a c e g).2;omega
 |succ n ih=>
  intro a k j;obtain⟨c,e⟩:∃c,f[a]?=V c:=⟨f[a],zv j⟩;by_cases g:c=a
  .subst g;rw[i.root _ e];exact e
  have l:=i.step a c e g;rw[l.1];exact ih c (by omega) (i.lt a c e)
theorem jP.rootAt{c:List Nat}(e:jP c rt d){a:Nat}(f:a<Z c):c[rt a]?=V (rt a):=e.isRoot _ a (zp _) f
theorem jP.rt_lt{a:List Nat}(c:jP a rt d){p:Nat}(e:p<Z a):rt p<Z a:=(eE (c.rootAt e))
theorem jP.rt_rt{e:List Nat}(c:jP e rt d)(a:Nat):rt (rt a)=rt a:=by
 by_cases f:a<Z e
 .exact c.root _ (c.rootAt f)
 rw[c.out a (by omega),c.out a (by omega)]
def jQ(rt:Nat->Nat)(a b c:Nat):Nat:=if rt c=a then b else rt c
def dJ(rt d:Nat->Nat)(c b a:Nat):Nat:=if rt a=c then d a+d b+1 else d a
theorem jP.join{k:List Nat}(g:jP k rt d){e b:Nat}(o:k[e]?=V e)(p:k[b]?=V b)(l:e≠b):jP (k.set e b) (jQ rt e b) (dJ rt d e b):=by
 have y:=(eE p);have x:=(eE o);have s:=g.root e o;have t:=g.root b p;refine⟨λf m a=>?_,λf c=>?_,λf m a r=>?_,λf c=>?_⟩
 .rw[zc]at a;rw[zn];split at a
  .simp at a;omega
  exact g.lt f m a
 .rw[zc]at c;split at c
  .rename_i i;subst i;simp at c;exact absurd c.symm l
  rename_i i;have:=g.root f c;unfold jQ;rw[this,aS (λj=>i j.symm)]
 .rw[zc]at a;split at a
  .rename_i i;subst i;simp at a;subst a;unfold jQ dJ;rw[s,t,aT rfl,aS (λj=>l j.symm),aS (λj=>l j.symm),aT rfl];exact⟨rfl,by omega⟩
  obtain⟨q,u⟩:=g.step f m a r;unfold jQ dJ;rw[q];refine⟨rfl,?_⟩;split<;>omega
 rw[zn]at c;unfold jQ;rw[g.out f c,aS (by omega)]
theorem aPz{a:Nat}(c e:Nat):jQ rt a b c=jQ rt a b e↔rt c=rt e\/(rt c=a/\rt e=b)\/(rt c=b/\rt e=a):=by grind[jQ]
def pS(a:List Nat):Nat:=(List.range (Z a)).countP λp=>a[p]?==V p
theorem aQ0{c:List Nat}{a:Nat}(e:c[a]?=V a)(g:a≠b):pS (c.set a b)<pS c:=by have f:=(eE e);unfold pS;rw[zn];refine aPn _ _ _ (λj _ i=>?_) a (by simpa using f) ?_ ?_;all_goals grind
def fP(G:Gr)(E Q:Nat->Nat->Prop):Prop:=∀a c,E a c->G.named a->G.named c->G.lab a=G.lab c/\∀(k p g:Nat),(G.ch a)[k]?=V p->(G.ch c)[k]?=V g->fZ (λe f=>E e f\/Q e f) p g
structure yL(E:Nat->Nat->Prop):Prop where
 refl:∀i,E i i
 symm:∀i j,E i j->E j i
 trans:∀i j k,E i j->E j k->E i k
theorem vN(rt:Nat->Nat):yL λc e=>rt c=rt e:=⟨λ_=>rfl,λ_ _ a=>a.symm,λ_ _ _ a k=>a.trans k⟩
def xH(Q:Nat->Nat->Prop)(e b:Nat)(a c:Nat):Prop:=Q a c\/(a=e/\c=b)
theorem fP.mono{a:Nat->Nat->Prop}(e:fP G E Q)(k:∀i j,Q i j->a i j):fP G E a:=λx y c q r=>by
 obtain⟨f,g⟩:=e x y c q r;exact⟨f,λn p s m o=>(g n p s m o).mono λi j l=>fZ.base (l.imp id (k i j))⟩
theorem fP.same{a:Nat}(e:fP G E (xH Q a b))(k:E a b):fP G E Q:=λs t c o q=>by
 obtain⟨f,g⟩:=e s t c o q;refine⟨f,λn p r l m=>(g n p r l m).mono λi j hij=>?_⟩;rcases hij with hij|hij|⟨rfl,rfl⟩
 .exact fZ.base (zj hij)
 .exact fZ.base (zf hij)
 exact fZ.base (zj k)
def oG(E E':Nat->Nat->Prop)(e b:Nat):Prop:=∀a c,E' a c↔E a c\/(E a e/\E c b)\/(E a b/\E c e)
theorem oG.le{e:Nat}(g:oG E E' e b){a c:Nat}(f:E a c):E' a c:=(g a c).2 (zj f)
theorem oG.ab{a:Nat}(e:oG E E' a b)(c:yL E):E' a b:=(e a b).2 (zf (zj ⟨c.refl a,c.refl b⟩))
theorem oG.eqv{Q':Nat->Nat->Prop}{e:Nat}(f:oG E E' e b)(k:yL E)(l:∀a c,Q a c->Q' a c){g i:Nat}(j:fZ (λa c=>E a c\/xH Q e b a c) g i):fZ (λa c=>E' a c\/Q' a c) g i:=
 j.mono λa c hij=>by
  rcases hij with hij|hij|⟨rfl,rfl⟩
  .exact fZ.base (zj (f.le hij))
  .exact fZ.base (zf (l _ _ hij))
  exact fZ.base (zj (f.ab k))
theorem fP.var{G:Gr}{E E' Q:Nat->Nat->Prop}{a b:Nat}(k:fP G E (xH Q a b))(o:yL E)(e:oG E E' a b)(x:(∀p,E p a->¬G.named p)\/∀p,E p b->¬G.named p):fP G E' Q:=λf g c s t=>by
 rcases(e f g).1 c with c|⟨i,j⟩|⟨i,j⟩
 .obtain⟨l,m⟩:=k f g c s t;exact⟨l,λn p u q r=>e.eqv o (λ_ _=>id) (m n p u q r)⟩
 all_goals grind[xH,fP,Gr.named,oG]
def tA(G:Gr)(Q:Nat->Nat->Prop)(e b k:Nat)(a c:Nat):Prop:=Q a c\/∃n,k<=n/\(G.ch e)[n]?=V a/\(G.ch b)[n]?=V c
theorem fP.name{G:Gr}{E E' Q:Nat->Nat->Prop}{t b e f:Nat}(A:fP G E (xH Q t b))(r:yL E)(u:oG E E' t b)(I:G.Arity)(a1:E t e)(a2:E b f)(N:G.named e)(P:G.named f)(a3:G.lab e=G.lab f):fP G E' (tA G Q e f 0):=by
 have M:∀a c,E a t->E c b->G.named a->G.named c->G.lab a=G.lab c/\∀(k p g:Nat),(G.ch a)[k]?=V p->(G.ch c)[k]?=V g->fZ (λi j=>E' i j\/tA G Q e f 0 i j) p g:=by
  intro a c X a0 o q;obtain⟨F,R⟩:=A a e (r.trans _ _ _ X a1) o N;obtain⟨H,S⟩:=A c f (r.trans _ _ _ a0 a2) q P;refine⟨F.trans (a3.trans H.symm),λk p g l m=>?_⟩;have J:k<Z (G.ch e):=by rw[<-I a e o N F];exact(eE l)
  have L:k<Z (G.ch f):=by rw[<-I c f q P H];exact(eE m)
  have T:=u.eqv r (Q':=tA G Q e f 0) (λi j s=>zj s) (R k p _ l (zv J));have W:=u.eqv r (Q':=tA G Q e f 0) (λi j s=>zj s) (S k g _ m (zv L));exact T.trans ((fZ.base (zf (zf ⟨k,z1 _,zv J,zv L⟩))).trans W.symm)
 intro a c x o q;rcases(u a c).1 x with x|⟨y,z⟩|⟨y,z⟩
 .obtain⟨C,D⟩:=A a c x o q;exact⟨C,λn p g l m=>u.eqv r (λi j s=>zj s) (D n p g l m)⟩
 .exact M a c y z o q
 obtain⟨C,D⟩:=M c a z y q o;exact⟨C.symm,λk p g l m=>(D k g p m l).symm⟩
theorem fP.part{e k g i:Nat}(l:fP G E (tA G Q e b k))(m:(G.ch e)[k]?=V g)(o:(G.ch b)[k]?=V i):fP G E (xH (tA G Q e b (k+1)) g i):=
 l.mono λq r f=>by
  rcases f with f|⟨n,p,a,c⟩
  .exact zj (zj f)
  by_cases j:n=k
  .subst j;rw[m]at a;rw[o]at c;simp at a c;exact zf ⟨a.symm,c.symm⟩
  exact zj (zf ⟨n,by omega,a,c⟩)
theorem fP.allParts{c e:Nat}(f:fP G E (tA G Q c b e))(j:Z (G.ch c)<=e):fP G E Q:=
 f.mono λk l a=>by
  rcases a with a|⟨n,i,g,_⟩
  .exact a
  have:=(eE g);omega
theorem fP.done(f:fP G E λ_ _=>False)(a:yL E)(q:∀i j,E i j->Cl G B i j)(k:∀i j,B i j->E i j):(∀i j,E i j↔Cl G B i j)/\fU G (Cl G B):=by
 have l:gL G E:=⟨a.refl,a.symm,a.trans,λi j r p s hij c e m o=>((f i j hij c e).2 r p s m o).le a.refl a.symm a.trans λi j hij=>by
  rcases hij with hij|hij
  .exact hij
  exact hij.elim⟩
 have g:∀i j,E i j↔Cl G B i j:=λi j=>⟨q i j,Cl.le l k⟩
 exact⟨g,λi j hij c e=>(f i j ((g i j).2 hij) c e).1⟩
section
def gA(a:List Nd):List Nat:=(List.range (Z a)).map λp=>p+aM (a.drop p) 1
theorem pT(a:List Nd):Z (gA a)=Z a:=by simp[gA]
theorem aI6(c:List Nd)(a:Nat)(e:a<Z c):(gA c)[a]?=V (a+aM (c.drop a) 1):=by simp[gA,e]
abbrev lF(a:List Nat):List zm:=a.map λx:Nat=>iQ x
structure cE(w:Y)(B tb:Nat)(vn ve vl vs vm:zm)(L:List Nd)(F:List Nat)(S:List Int):Prop where
 box:w.heap[tb]?=V (.cells #[vn,ve,vl,vs,vm] 158)
 high:B<=tb
 rn:zs w B 52 2 vn (Z L) (aV L)
 re:zs w B 3 1 ve (Z L) (lF (gA L))
 rl:zs w B 3 1 vl (Z L) (lF F)
 rs:zs w B 3 1 vs (Z L) (S.map (Value.int .i64))
 lf:Z F=Z L
 ls:Z S=Z L
 few:Z L<=1000000
 short:∀n∈L,n.1.size<=140737488355328
 ab:U ve≠U vl
 ac:U ve≠U vs
 bc:U vl≠U vs
section
variable {w:Y}{B tb:Nat}{vn ve vl vs vm:zm}{L:List Nd}{F:List Nat}{S:List Int}
theorem cE.c0(a:cE w B tb vn ve vl vs vm L F S):zt w (aQ tb 0)=V vn:=by simp[zt,a.box]
theorem cE.c1(a:cE w B tb vn ve vl vs vm L F S):zt w (aQ tb 1)=V ve:=by simp[zt,a.box]
theorem cE.c2(a:cE w B tb vn ve vl vs vm L F S):zt w (aQ tb 2)=V vl:=by simp[zt,a.box]
theorem cE.c3(a:cE w B tb vn ve vl vs vm L F S):zt w (aQ tb 3)=V vs:=by simp[zt,a.box]
theorem aI7{w:Y}{B:Nat}{a:List Nat}(g:zs w B 3 1 v n (lF a))(j:Z a=n):∃e i,v=.slice e n i/\∀c (g:c<Z a),∃f,e=V (aQ f 0)/\cQ w f c (iQ a[c]):=by
 subst j;exact xQ g
theorem bDu{w:Y}{B:Nat}{a:List Int}(g:zs w B 3 1 v n (a.map (Value.int .i64)))(j:Z a=n):∃e i,v=.slice e n i/\∀c (g:c<Z a),∃f,e=V (aQ f 0)/\cQ w f c (iQ a[c]):=by
 subst j;exact aFh g
theorem cE.below(a:cE w B tb vn ve vl vs vm L F S){wx:Y}(k:aB w wx):cE wx B tb vn ve vl vs vm L F S:=
 ⟨by rw[k.block tb (bA a.box),a.box],a.high,bF a.rn k (zp _),bF a.re k (zp _),bF a.rl k (zp _),bF a.rs k (zp _),a.lf,a.ls,a.few,a.short,a.ab,a.ac,a.bc⟩
theorem cE.drewN(a:cE w B tb vn ve vl vs vm L F S)(d:Nat):cE (w.drewN d) B tb vn ve vl vs vm L F S:=a.below (aN ⟨d,rfl⟩)
theorem cE.grown(a:cE w B tb vn ve vl vs vm L F S){e:Y}{o:Option Nat}(c:zq w e o)(g:o≠V tb)(i:U vn=zo\/U vn≠o)(j:U ve=zo\/U ve≠o)(k:U vl=zo\/U vl≠o)(l:U vs=zo\/U vs≠o):cE e B tb vn ve vl vs vm L F S:=
 ⟨by rw[c.block tb (bA a.box) (λf=>g f.symm),a.box],a.high,eW a.rn c i,eW a.re c j,eW a.rl c k,eW a.rs c l,a.lf,a.ls,a.few,a.short,a.ab,a.ac,a.bc⟩
theorem aBp{w:Y}{B:Nat}{f:TypeId}{k:Nat}{l:List zm}(i:zs w B f k v n l){e:Nat}(a:U v=V e):∃c:Obj,w.heap[e]?=V c/\c.isCells=true:=by
 obtain⟨_,⟨rfl,_⟩|⟨g,m,o,rfl,_,j,_⟩⟩:=i
 .simp[U]at a
 simp[U]at a;subst a;exact⟨_,j,rfl⟩
theorem aBq{w:Y}{B:Nat}{f:TypeId}{i:Nat}{j:List zm}(k:zs w B f i v n j){a:Option Nat}(l:∀c,a=V c->∃e:Obj,w.heap[c]?=V e/\e.isCells=zl):U v=zo\/U v≠a:=by
 cases hv:U v with
 |none=>exact zj rfl
 |some g=>
  grind[aBp]
theorem cE.others(a:cE w B tb vn ve vl vs vm L F S){j:Y}{g:Option Nat}(m:zq w j g)(c:∀i,g=V i->∃f:Obj,w.heap[i]?=V f/\f.isCells=zl):cE j B tb vn ve vl vs vm L F S:=
 a.grown m (λk=>by obtain⟨f,e,l⟩:=c tb k;rw[a.box]at e;simp at e;subst e;cases l) (aBq a.rn c) (aBq a.re c) (aBq a.rl c) (aBq a.rs c)
theorem aQ1(F:List Nat)(a b:Nat):(lF F).set a (iQ b)=lF (F.set a b):=by rw[<-List.map_set]
theorem cE.lead{c i:Nat}(a:cE w B tb vn ve (sQ c (Z L) i) vs vm L F S)(f b:Nat):cE (za w (aQ c f) (iQ b)) B tb vn ve (sQ c (Z L) i) vs vm L (F.set f b) S/\zq w (za w (aQ c f) (iQ b)) (V c):=by
 have g:=cD w (aQ c f) (iQ b);refine⟨⟨?_,a.high,eW a.rn g ?_,eW a.re g (zf a.ab),?_,eW a.rs g (zf λe=>a.bc e.symm),by rw[zn];exact a.lf,a.ls,a.few,a.short,a.ab,a.ac,a.bc⟩,g⟩
 .rw[g.block tb (bA a.box) (λe=>eX a.rl a.box (by decide) e.symm),a.box]
 .rcases dC a.rn a.rl (by decide)with e|e
  .exact zj e
  exact zf e
 have j:=(a.rl.stored f (iQ b)).1;rw[aQ1]at j;exact j
end
theorem aI8(B C:Nat)(P L M R N:zm)(j:List Nd)(e:List Nat)(H:List Int)(rt d:Nat->Nat)(i:Nat)(w:Y)(g:cE w B C P L M R N j e H)(t:jP e rt d)(J:i<Z j):Calls zu 128 #[pQ C,iQ i] w λf S=>f=.returned (iQ (rt i))/\S=w:=by
 obtain⟨T,X,rfl,y⟩:=aI7 g.rl g.lf;have W:=g.c2;have D:=O y;have m:=O t;have z:=g.lf;have a2:=g.few;have o:=O z;clear y t g z;go_enter Tryz.func128,Tryz.ntmps128;go_wp2;go_loop [1] (λc=>∃a:Nat,a<Z j/\rt a=rt i/\c=iQ a) (λc=>d (intOf c).toNat);exact⟨i,J,rfl,rfl⟩;obtain⟨a,x,l,rfl⟩:=hrel;obtain⟨a1,rfl,a0⟩:=D.o a (by rw[o.o];exact x);have a3:(a:Int)<(Z j:Int):=by omega
 have I:a<Z e:=by rw[o.o];exact x
 have k:e[a]?=V e[a]:=zv I;have A:=m.o.lt a _ k;have r:=m.o.step a _ k;have q:=m.o.root a;generalize e[a]=c at *;by_cases f:c=a
 .have p:aE (rt i=a):=O (by rw[<-l];exact q (by rw[k,f]));have u:((c:Int) != (a:Int))=false:=by rw[f];simp
  clear r q k l;subst f;clear u;go_wp2;go_ret;exact⟨lK (by rw[p.o]),rfl⟩
 have u:((c:Int) != (a:Int))=true:=by rw[bne_iff_ne];omega
 have s:=O (r f);have p:=O l;have F:=O (show c<Z j by rw[<-o.o];exact A);clear r q k l A;go_wp2;go_round;·exact⟨c,F.o,by rw[<-s.o.1];exact p.o,rfl⟩
 have:=s.o.2;simpa[intOf]using this
theorem bDv:laidOutB zu=true:=by kernel_rfl
theorem aBr:Maps.Keyed zu 198:=Maps.Keyed.of_law (deep_law_laid bDv (m:=2) (by decide) (of_decide_eq_true (by kernel_rfl)) (by kernel_rfl) (by kernel_rfl))
def tB(a c:Int):zm:=.agg #[iQ a,iQ c]
theorem bDw(n:Nat)(a c:Int)(g:(Lit.int .i64 a).wf=zg)(i:(Lit.int .i64 c).wf=zg):Tryz.prog.keyLits (n+1+1) 198 [.int .i64 a,.int .i64 c]=V [.int .i64 a,.int .i64 c]:=by
 have e:Tryz.prog.cellsOf 198=2:=by kernel_rfl
 have f:Tryz.prog.cellsOf 3=1:=by kernel_rfl
 unfold Program.keyLits;simp only[ze,e];simp[List.mapM_cons,Program.keyLits,z0,f,g,i]
theorem bDx(a c:Int)(e:-1000000000<=a/\a<=1000000000)(f:-1000000000<=c/\c<=1000000000):∃l,keyOf zu 198 (tB a c)=V l:=by
 have j:Tryz.prog.keyType 198=true:=by kernel_rfl
 have g:Tryz.prog.cellsOf 198=2:=by kernel_rfl
 have k:Tryz.prog.types.size+1=(Tryz.prog.types.size-1)+1+1:=by simp_all
 have i:(tB a c).formed zu 198=true:=by unfold Value.formed tB;simp only[ze,g];rfl
 unfold keyOf;simp only[ze,j,i,Bool.and_self,if_true];rw[k];have:=bDw (Tryz.prog.types.size-1) a c (aGu e.1 e.2) (aGu f.1 f.2);exact⟨_,by rw[show (tB a c).cells.toList=[.int .i64 a,.int .i64 c] from rfl,this];rfl⟩
theorem aQ2(a:Nat):(Builtin.zeroCells (iQ 0).cells a).toList=zr a (iQ 0):=by
 apply List.ext_getElem?;intro f;have e:(iQ 0).cells=#[iQ 0]:=rfl;rw[e];by_cases c:f<a
 .simp[Builtin.zeroCells,c,Nat.mod_one]
 simp[Builtin.zeroCells,c]
theorem aQ3(w:Y)(C:TypeId)(m:Nat)(v:zm)(n a:Nat)(f:List zm)(k:zs w m 3 1 v n f)(a1:U v≠zo)(R:0<a)(a3:n+a<=1000000)(H:m<=w.heap.size):∃l r,(Builtin.append_ #[24,3] C #[v,iQ a]).run zu w=.ok l r/\zs r m 3 1 l (n+a) (f++zr a (iQ 0))/\zq w r (U v)/\(U l=U v\/U l=V w.heap.size):=by
 obtain⟨A,t,z,y,q⟩:=info_parts mR;have u:Z (f++zr a (iQ 0))=(n+a)*1:=by rw[List.length_append,k.1];simp
 rcases k.2 with⟨rfl,rfl⟩|⟨c,e,i,rfl,I,s,a5,J,a4,a6⟩
 .exact absurd rfl a1
 by_cases x:n+a<=e
 .have a0:=run_storeCells_at zu c n 3 (zr a (iQ 0)) 0 i w s (by simp;omega) (by intro g p;rw[List.eq_of_mem_replicate p];rfl);have a2:IntKind.i64.wrap (a:Int)=a:=by rw[IntKind.wrap_i64];omega
  have T:¬((a:Int)<0):=by omega
  have F:¬(281474976710656<(a:Int)*8):=by omega
  have S:a≠0:=by omega
  refine⟨sQ c (n+a) e,w.setRow c (i.toList.take n++zr a (iQ 0)++i.toList.drop (n+a)).toArray,?_,⟨u,.inr ⟨c,e,_,rfl,I,setRow_heap w c i _ 3 _ s,x,J,?_,?_⟩⟩,⟨rfl,rfl,rfl,by simp,λj _ o=>setRow_other w c j _ (λD=>o (by simp[U,D]))⟩,zj rfl⟩
  .simp[Builtin.append_,run_underlying zb,run_underlying z0,sizeOf,typeInfo,zeroValue,t,z,y,q,asInt,asIntOf,a2,T,F,x,S,Addr.add_lit,aQ2];rw[a0];simp
  all_goals grind
 have W:∀j g,f[j]?=V g->zt w (((aQ c 0):Addr).add j)=V g:=k.cells (g:=c) rfl;have M:=run_firstCells_some (P:=zu) w.drew A.size n (aQ c 0) n e f (by rw[y];exact k.1) (λj g p=>W j g p);have X:=Go.Lib.run_append_grow_zeros (P:=zu) w 24 3 C 3 A (iQ 0) .i64 .i64 zb z0 t z (V (aQ c 0)) n e f M a R (by omega) (by omega) (by omega) (by rw[q];omega) (growslice_fits (by omega) (by rw[q];omega));have N:=grownCap_ge w (n+a) e 3;have L:grownCap w (n+a) e 3<=maxLen:=grownCap_le_maxLen w (n+a) e 3 (by unfold maxLen;omega);refine⟨_,_,X,⟨u,.inr ⟨w.heap.size,_,_,rfl,H,heap_alloc_new w.drew _,N,L,?_,?_⟩⟩,⟨rfl,rfl,rfl,by simp,λj o _=>Below.heap_alloc w.drew _ j o⟩,zf rfl⟩;all_goals grind[aQ2,Array.toList_append,zr,List.take_left]
abbrev Tg:=Int×Nd
def rE(c e:Int)(a:Tg):Bool:=aK a.2 && (decide (a.1=c) && decide (a.2.2=e))
def lX(a:List Tg)(c e:Int):Option Nat:=a.findIdx? (rE c e)
theorem aI9(a:List Tg)(f:Tg)(c e:Int):lX (a++[f]) c e=(lX a c e).or (if rE c e f then V (Z a) else zo):=by grind[lX,rE]
def pU(a:List Tg)(c:Int)(n:Nd):Nat:=if aK n then (lX a c n.2).getD (Z a) else Z a
structure pV(D:DataW Unit)(M:List Tg):Prop where
 tidy:Maps.Tidy D
 old:∀o x kl p,keyOf zu 198 (tB o x)=V kl->lX M o x=V p->Maps.has D kl=zg/\∀z,D.atKey kl z=.lit (.int .i64 p)
 new:∀o x kl,keyOf zu 198 (tB o x)=V kl->lX M o x=zo->Maps.has D kl=zl
theorem pV.start:pV (.map []) []:=⟨⟨[],rfl,by simp⟩,λe f c p _ a=>by simp[lX]at a,λ_ _ _ _ _=>rfl⟩
theorem pV.skip{k:DataW Unit}{e:List Tg}(f:pV k e){p:Tg}(o:aK p.2=zl\/lX e p.1 p.2.2≠zo):pV k (e++[p]):=by
 have l:∀a c,lX (e++[p]) a c=lX e a c:=by
  intro a c;rw[aI9];cases hf:lX e a c with
  |some m=>rfl
  |none=>
   grind[rE]
 exact⟨f.tidy,λa c j m g i=>f.old a c j m g (by rw[<-l];exact i),λa c j g i=>f.new a c j g (by rw[<-l];exact i)⟩
theorem bDy{a e c f:Int}(g:tB a e=tB c f):a=c/\e=f:=by simpa[tB]using g
theorem pV.put{u:DataW Unit}{g:List Tg}(k:pV u g){o:Int}{n:Nd}(D:aK n=zg)(C:lX g o n.2=zo){t:Lit}(p:keyOf zu 198 (tB o n.2)=V t):pV (u.put t (.lit (.int .i64 (Z g)))) (g++[(o,n)]):=by
 have q:=aBr.key p;have x:∀a c i,keyOf zu 198 (tB a c)=V i->¬(a=o/\c=n.2)->i≠t:=by rintro a c i f l rfl;exact l (bDy (aBr.inj f p))
 have m:∀a c,rE a c (o,n)=zg↔(a=o/\c=n.2):=by
  intro a c;simp[rE,D];constructor
  .rintro⟨rfl,rfl⟩;exact⟨rfl,rfl⟩
  rintro⟨rfl,rfl⟩;exact⟨rfl,rfl⟩
 refine⟨k.tidy.put q _,λa c i z f e=>?_,λa c i f e=>?_⟩
 .rw[aI9]at e;by_cases j:a=o/\c=n.2
  .obtain⟨rfl,rfl⟩:=j;rw[C,(m _ _).2 ⟨rfl,rfl⟩]at e;simp at e;subst e;rw[p]at f;simp at f;subst f;exact⟨Maps.has_put_same k.tidy.isMap q _,λA=>Maps.atKey_put_same k.tidy.isMap q _ _⟩
  have s:lX g a c=V z:=by
   cases hfo:lX g a c with
   |some r=>rw[hfo]at e;simpa using e
   |none=>
    rw[hfo]at e;have:rE a c (o,n)=false:=by rw[<-Bool.not_eq_true,m];exact j
    simp[this]at e
  have y:=k.old a c i z f s;have l:=x a c i f j;exact⟨by rw[Maps.has_put_other l];exact y.1,λA=>by rw[Maps.atKey_put_other l];exact y.2 A⟩
 rw[aI9]at e;by_cases j:a=o/\c=n.2
 .rw[(m _ _).2 j]at e;cases hfo:lX g a c with
  |some r=>rw[hfo]at e;simp at e
  |none=>rw[hfo]at e;simp at e
 have s:lX g a c=none:=by
  cases hfo:lX g a c with
  |some r=>rw[hfo]at e;simp at e
  |none=>rfl
 rw[Maps.has_put_other (x a c i f j)];exact k.new a c i f s
attribute [local go_sem] Oper.semAt_some
def dV(L:List Nd):Prop:=∀(a:Nat) (n:Nd),L[a]?=V n->eY (L.drop (a+1)) (bI n)
def lG(ks:List Nat)(c e:Y):Prop:=∀a∈ks,e.heap[a]?=c.heap[a]?
theorem lG.trans{ks:List Nat}{a B c:Y}(g:lG ks a B)(k:lG ks B c):lG ks a c:=λf e=>(k f e).trans (g f e)
theorem lG.put(c:∀k∈ks,k<w.heap.size)(a:Y)(l:Nat)(o f:Obj)(g:w.heap.size<=l)(_:a.heap[l]?=V o)(_:o.isCells=zl)(_:o.isWalk=zl):lG ks a (a.putObj l f):=λk e=>World.putObj_heap_other (by have:=c k e;omega)
theorem lG.cell{a B:Y}(c:lG ks a B){p:Addr}{v:zm}(f:p.block∈ks)(e:zt a p=V v):zt B p=V v:=(World.cell?_of_block (c _ f)).trans e
abbrev rF(a:List Nat):={x:Nat // x∈a}
structure oH(W:Y)(ba bt tb ge:Nat)(L:List Nd)(a:Nat):Prop where
 ca:zt W (aQ ba 0)=V (iQ a)
 ct:zt W (aQ bt 0)=V (pQ tb)
 ce:∃cap,zt W (aQ tb 1)=V (sQ ge (Z L) cap)
 en:∀p,p<Z L->zt W (aQ ge p)=V (iQ (p+aM (L.drop p) 1))
theorem oH.kept{W j:Y}{e f i g:Nat}{L:List Nd}{a:Nat}(c:oH W e f i g L a)(k:lG [e,f,i,g] W j):oH j e f i g L a:=by obtain⟨l,m⟩:=c.ce;exact⟨k.cell (by simp) c.ca,k.cell (by simp) c.ct,⟨l,k.cell (by simp) m⟩,λp o=>k.cell (by simp) (c.en p o)⟩
theorem aQ4{e:Type}{f:Nat}{a:List e->Y->Prop}(i:AbidesFrom f a){c:List e}{w:Y}(j:a c w)(d:Nat):a c (w.drewN d):=
 i c w _ zo j ⟨rfl,rfl,rfl,zp _,λ_ _ _=>rfl⟩ (λk g=>by cases g)
theorem aIa(n a3 q r C x:Nat)(c:List Nd)(a:Nat)(m:Nd)(g:List Nat)(S:(aF c).ch a=g)(e0:1<=n)(b8:dV c)(d8:Z c<=1000000)(z:c[a]?=V m)(o P:List (rF g)->Y->Prop)(b5:Nat)(T:AbidesFrom b5 o)
  (X:∀f j l,o f l->Z f<Z g->YieldAt Fence.wide (n-1) zu a3 #[iQ (j.1:Nat)] l λs p=>
   (s=.returned (.bool zg)/\o (f++[j]) p/\lG [q,r,C,x] l p)\/(s=.returned (.bool zl)/\P (f++[j]) p))
  (l:Y) (W:oH l q r C x c a) (b7:o [] l):CallsIn Fence.wide n zu 152 #[.func (.yield a3) #[] #[],pQ q,pQ r] l λs p=>(∃v,s=.returned v)/\
   ((∃a4:List (rF g),a4.map (λj=>j.1)=g/\o a4 p)\/(∃f:List (rF g),f.map (λj=>j.1) <+: g/\P f p)):=by
 have a1:=(eE z);have I:=jE z;rw[S]at I;have c1:=b8 a m z;have a2:aM (c.drop a) 1=1+aM (c.drop (a+1)) (bI m):=by rw[List.drop_eq_getElem_cons a1,(List.getElem?_eq_some_iff.1 z).2];simp[aM]
 have d9:a+1+aM (c.drop (a+1)) (bI m)<=Z c:=by have:=oC (c.drop (a+1)) (bI m);simp at this;omega
 have a6:=O I;generalize hE:aM (c.drop (a+1)) (bI m)=E at *;have a7:=O hE;have b4:=O X;have a8:=O a2;clear I hE X S a2;refine callsIn_of_wp Tryz.func152 rfl trivial ?_;simp only[Tryz.ntmps152,List.size_toArray,List.length_cons,List.length_nil,Nat.reduceAdd,Nat.reduceSub,Array.replicate_succ,Array.replicate_zero,List.push_toArray,List.append_toArray,List.nil_append,List.cons_append];have R:=W.ca;gi_wp2
 clear R;gi_loopw [4] (λN wr=>∃(f:List (rF g)) (e i:Nat),N=iQ e/\g=f.map (λj=>j.1)++gE (c.drop e) i e/\e+aM (c.drop e) i=a+1+E/\eY (c.drop e) i/\oH wr q r C x c a/\o f wr)
  (λN _=>a+1+E-(intOf N).toNat)
 exact⟨[],a+1,bI m,by go_num,by rw[a6.o];rfl,by rw[a7.o],c1,W,b7⟩;obtain⟨f,e,i,rfl,u,A,J,k,y⟩:=hrel;have R:=k.ca;have d1:=k.ct;obtain⟨c7,c9⟩:=k.ce;have c0:=k.en a a1;rw[a8.o]at c0;have d7:(a:Int)<(Z c:Int):=by omega
 have F:=O u;cases i with
 |zero=>
  simp at A;have D:=O y;have e1:¬((e:Int)<(a:Int)+((1+E:Nat):Int)):=by omega
  clear u A k y J;gi_wp2
  gi_quiet (fail)
  gi_wp2
  go_end0;exact⟨⟨_,rfl⟩,.inl ⟨f,by have:=F.o;simpa using this.symm,aQ4 T D.o _⟩⟩
 |succ i=>
  have L:=(yH (c.drop e) 1 i).1 (by rw[Nat.add_comm];exact J);have c4:=aHz (q:=0) L.1;rw[Nat.zero_add]at c4;have H:=xC (c.drop e) 1 i;rw[Nat.add_comm 1 i,zd]at H;have e2:(e:Int)<(a:Int)+((1+E:Nat):Int):=by omega
  have e3:(e:Int)<(Z c:Int):=by omega
  have M:e∈g:=by rw[u];simp[oT]
  have c2:Z f<Z g:=by have:=congrArg Z u;simp[oT]at this;omega
  have c3:=k.en e (by omega);have b0:=O k;have a5:=O H;have a9:=O L.2;have a0:=λ(d:Nat)=>b4.o f ⟨e,M⟩ (wr.drewN d) (aQ4 T y d) c2
  have D:=O A;clear u k J y A L H c3;gi_wp2
  gi_quiet (fail)
  obtain⟨d4,e5,c5,c6,e4,b9⟩:=a0 nq;clear a0;gi_wp2
  refine b9.mono ?_;rintro s b6 (⟨rfl,hJ3,hk3⟩|⟨rfl,hJx3⟩)
  .have t:oH b6 q r C x c a:=oH.kept (W:=wr) b0.o hk3;have d2:=t.ct;obtain⟨c8,d0⟩:=t.ce;have d3:=t.en e (by omega);generalize hst:aM (c.drop e) 1=st at *;have b3:=O hst;have b1:=O t;have b2:=O hJ3;clear t hJ3 hk3 hst;gi_wp2
   exact⟨⟨f++[⟨e,M⟩],e+st,i,by go_num,by refine F.o.trans ?_;rw[oT,b3.o,zd];simp,by have d5:=D.o;have d6:=a5.o;omega,by have:=a9.o;rw[zd]at this;exact this,b1.o,b2.o⟩,by simp[intOf];omega⟩
  gi_wp2
  refine bodyPost_ret (results_none rfl _ _ _) rfl ?_;exact⟨⟨_,rfl⟩,.inr ⟨f++[⟨e,M⟩],⟨gE (c.drop (e+aM (c.drop e) 1)) i (e+aM (c.drop e) 1),by refine Eq.trans ?_ F.o.symm;rw[oT,zd];simp⟩,hJx3⟩⟩
end
def eQ(B:Nat)(w:Y)(v:zm)(ks:List Nat):Prop:=zs w B 3 1 v (Z ks) (ks.map λa=>iQ (a:Nat))
theorem eQ.cell{B:Nat}{a:Option Addr}{cap:Nat}(c:eQ B w (.slice a n cap) ks){i:Nat}(f:i<Z ks):∃g,a=V (aQ g 0)/\zt w (aQ g i)=V (iQ (ks[i]:Nat)):=by
 have j:zs w B 3 1 (.slice a n cap) (Z ks) (ks.map λk=>iQ (k:Nat)):=c;obtain⟨_,⟨_,e⟩|⟨g,l,m,e,_⟩⟩:=c
 .omega
 simp at e;refine⟨g,e.1,?_⟩;obtain⟨rfl,rfl,rfl⟩:=e;rw[j.cellAt i (by simpa using f)];simp[f]
theorem eQ.shape{B:Nat}(c:eQ B w v ks):∃a cap,v=.slice a (Z ks) cap:=aZ c
def rG(p:Nat->Bool)(ks:List Nat):Int:=if ks.findIdx p<Z ks then (ks.findIdx p:Nat) else -1
theorem aQ5{p:Nat->Bool}{a:Nat}(g:a<Z ks)(e:p ks[a]=zg)(i:∀c (f:c<a),p (ks[c]'(by omega))=zl):rG p ks=(a:Nat):=by grind[rG,List.findIdx_eq]
theorem aIb{p:Nat->Bool}(e:∀a (c:a<Z ks),p ks[a]=zl):rG p ks=-1:=by grind[rG,List.findIdx_eq_length,z2]
theorem bDz{p:Nat->Bool}:decide (0<=rG p ks)=ks.any p:=by grind[rG,List.any_eq_true,List.findIdx_lt_length]
def aQ6(w:Y)(e f:Nat)(p:Nat->Bool)(ks:List Nat):Prop:=∀c∈ks,∀a,aB w a->Calls zu 135 #[iQ (c:Nat),pQ e,pQ f] a λg i=>g=.returned (.bool (p c))/\aB a i
theorem bE0(B C D:Nat)(p:Nat->Bool)(A:Option Addr)(F:Nat)(ks:List Nat)(w:Y)(g:eQ B w (.slice A (Z ks) F) ks)(a1:Z ks<=1000000)(J:aQ6 w C D p ks):Calls zu 139 #[.slice A (Z ks) F,.func (.func 135) #[] #[pQ C,pQ D]] w λs P=>s=.returned (iQ (rG p ks))/\aB w P:=by
 have M:=O J;have L:=O g;clear J g;go_enter Tryz.func139,Tryz.ntmps139;go_wp2;go_loopw[8] (λy wr=>∃c:Nat,c<=Z ks/\y=iQ c/\(∀a (f:a<Z ks),a<c->p ks[a]=zl)/\aB w wr) (λy _=>Z ks-(intOf y).toNat);exact⟨0,z1 _,rfl,λa _ g=>by omega,dP⟩;obtain⟨c,W,rfl,I,e⟩:=hrel;have q:=O I;have m:=O e;clear I;by_cases x:c<Z ks
 .obtain⟨S,rfl,t⟩:=L.o.cell x;have N:=aC e t;have a0:(c:Int)<(Z ks:Int):=by omega
  obtain⟨l,k⟩:∃l,ks[c]=l:=⟨_,rfl⟩;rw[k]at t N;have j:=O (M.o l (by rw[<-k];exact zk x) wr e);have z:=O k;have H:=e.size;clear t k e;cases hp:p l
  .rw[hp]at j;have r:=O hp;clear hp;go_wp2_with(first
    |(go_at_call 135;refine(aD j).mono ?_;rintro s R ⟨rfl,i⟩;have o:=O (m.o.trans (i.mono H));clear i)
    |go_in)
   exact⟨⟨c+1,by omega,by go_num,λa f T=>by
    rcases(show a<c\/a=c by omega)with g|rfl
    .exact q.o a f g
    rw[z.o];exact r.o,o.o⟩,by simp[intOf];omega⟩
  rw[hp]at j;have r:=O hp;clear hp;go_wp2_with(first
   |(go_at_call 135;refine(aD j).mono ?_;rintro s R ⟨rfl,i⟩;have o:=O (m.o.trans (i.mono H));clear i)
   |go_in)
  go_ret;have u:=aQ5 x (by rw[z.o];exact r.o) (λa f=>q.o a (by omega) f);exact⟨by rw[u];rfl,o.o⟩
 have X:c=Z ks:=by omega
 clear e;go_wp2;go_ret;have u:=aIb (λa f=>q.o a f (by omega));exact⟨by rw[u];rfl,m.o⟩
theorem bE1(B c e:Nat)(p:Nat->Bool)(a:Option Addr)(f:Nat)(ks:List Nat)(w:Y)(i:eQ B w (.slice a (Z ks) f) ks)(t:Z ks<=1000000)(l:aQ6 w c e p ks):Calls zu 134 #[.slice a (Z ks) f,.func (.func 135) #[] #[pQ c,pQ e]] w λg u=>g=.returned (.bool (ks.any p))/\aB w u:=by
 have m:=O (bE0 B c e p a f ks w i t l);have j:=bDz (p:=p) (ks:=ks);clear i l;generalize rG p ks=r at *;generalize ks.any p=q at *;have o:=O j;clear j;go_enter Tryz.func134,Tryz.ntmps134;go_wp2_with(go_at_call 139;refine(aD m).mono ?_;rintro g x ⟨rfl,k⟩;have s:=O k;clear k);go_ret;exact⟨by rw[<-o.o];rfl,s.o⟩
def aQ7(w:Y)(e f:Nat)(i:Nat->Bool)(ks:List Nat):Prop:=∀c∈ks,∀a,aB w a->Calls zu 105 #[iQ (c:Nat),pQ e,pQ f] a λg j=>g=.returned (.bool (i c))/\aB a j
theorem aQ8(B C D:Nat)(p:Nat->Bool)(A:Option Addr)(F:Nat)(ks:List Nat)(w:Y)(g:eQ B w (.slice A (Z ks) F) ks)(a1:Z ks<=1000000)(J:aQ7 w C D p ks):Calls zu 139 #[.slice A (Z ks) F,.func (.func 105) #[] #[pQ C,pQ D]] w λt P=>t=.returned (iQ (rG p ks))/\aB w P:=by
 have M:=O J;have L:=O g;clear J g;go_enter Tryz.func139,Tryz.ntmps139;go_wp2;go_loopw[8] (λi wr=>∃c:Nat,c<=Z ks/\i=iQ c/\(∀a (f:a<Z ks),a<c->p ks[a]=zl)/\aB w wr) (λi _=>Z ks-(intOf i).toNat);exact⟨0,z1 _,rfl,λa _ g=>by omega,dP⟩;obtain⟨c,W,rfl,I,e⟩:=hrel;have r:=O I;have o:=O e;clear I;by_cases y:c<Z ks
 .obtain⟨S,rfl,u⟩:=L.o.cell y;have N:=aC e u;have a0:(c:Int)<(Z ks:Int):=by omega
  obtain⟨m,l⟩:∃m,ks[c]=m:=⟨_,rfl⟩;rw[l]at u N;have k:=O (M.o m (by rw[<-l];exact zk y) wr e);have z:=O l;have H:=e.size;clear u l e;cases hp:p m
  .rw[hp]at k;have s:=O hp;clear hp;go_wp2_with(first
    |(go_at_call 105;refine(aD k).mono ?_;rintro t R ⟨rfl,j⟩;have q:=O (o.o.trans (j.mono H));clear j)
    |go_in)
   exact⟨⟨c+1,by omega,by go_num,λa f T=>by
    rcases(show a<c\/a=c by omega)with g|rfl
    .exact r.o a f g
    rw[z.o];exact s.o,q.o⟩,by simp[intOf];omega⟩
  rw[hp]at k;have s:=O hp;clear hp;go_wp2_with(first
   |(go_at_call 105;refine(aD k).mono ?_;rintro t R ⟨rfl,j⟩;have q:=O (o.o.trans (j.mono H));clear j)
   |go_in)
  go_ret;have x:=aQ5 y (by rw[z.o];exact s.o) (λa f=>r.o a (by omega) f);exact⟨by rw[x];rfl,q.o⟩
 have X:c=Z ks:=by omega
 clear e;go_wp2;go_ret;have x:=aIb (λa f=>r.o a f (by omega));exact⟨by rw[x];rfl,o.o⟩
theorem eQ.set{B:Nat}{g c:Nat}(e:eQ B w (sQ g n c) ks)(f:n=Z ks)(a x:Nat):eQ B (za w (aQ g a) (iQ (x:Nat))) (sQ g n c) (ks.set a x)/\zq w (za w (aQ g a) (iQ (x:Nat))) (V g):=by grind[eQ,cD,aNj,zn,List.map_set]
theorem eQ.take{B:Nat}{w:Y}{g n cap:Nat}{ks:List Nat}(e:eQ B w (sQ g n cap) ks){m:Nat}(t:m<=Z ks):eQ B w (sQ g m cap) (ks.take m):=by
 obtain⟨r,⟨a,_⟩|⟨q,p,c,a,f,i,s,k,o,l⟩⟩:=e
 .cases a
 simp at a;obtain⟨rfl,_,rfl⟩:=a;have j:Z (ks.take m)=m:=by simp;omega
 unfold eQ;rw[j];refine⟨by simp;omega,zf ⟨g,cap,c,rfl,f,i,by omega,k,o,?_⟩⟩;rw[List.map_take,<-l,List.take_take];congr 1
 omega
theorem eQ.cleared{B:Nat}{c n f:Nat}:∀(m a:Nat) (w:Y) (ks:List Nat),eQ B w (sQ c n f) ks->n=Z ks->
  ∃e,eQ B (w.setCells c a (zr m (iQ 0))) (sQ c n f) e/\Z e=Z ks/\e.take a=ks.take a/\zq w (w.setCells c a (zr m (iQ 0))) (V c)
 |0,a,w,ks,h,_=>⟨ks,h,rfl,rfl,⟨rfl,rfl,rfl,zp _,λ_ _ _=>rfl⟩⟩
 |m+1,a,w,ks,h,hn=>by
  obtain⟨g,i⟩:=h.set hn a 0;obtain⟨e,j,k,l,o⟩:=eQ.cleared m (a+1) _ _ g (by rw[zn];exact hn);refine⟨e,j,by rw[k,zn],?_,nL i o⟩;have:=congrArg (List.take a) l;grind[z3,Nat.min_eq_left]
def bE2(w:Y)(i e f:Nat)(p:Nat->Bool)(ks:List Nat):Prop:=∀c∈ks,∀a,zq w a (V i)->Calls zu 105 #[iQ (c:Nat),pQ e,pQ f] a λg j=>g=.returned (.bool (p c))/\aB a j
theorem aQ9{p:Nat->Bool}{a:Nat}(e:a<Z ks):(ks.take (a+1)).filter (λc=>!p c)=(ks.take a).filter (λc=>!p c)++if p ks[a] then [] else [ks[a]]:=by grind[zh]
theorem bE3(B f g:Nat)(e:Nat->Bool)(a:Option Addr)(c:Nat)(ks:List Nat)(w:Y)(l:eQ B w (.slice a (Z ks) c) ks)(s:Z ks<=1000000)(p:aQ7 w f g e ks)(i:ks.any e=zl):Calls zu 104 #[.slice a (Z ks) c,.func (.func 105) #[] #[pQ f,pQ g]] w λk u=>k=.returned (.slice a (Z ks) c)/\aB w u:=by
 have j:=O (aQ8 B f g e a c ks w l s p);have o:rG e ks=-1:=aIb (λx r=>by
  rw[Bool.eq_false_iff];intro t;rw[List.any_eq_true.2 ⟨_,zk r,t⟩]at i;cases i)
 rw[o]at j;clear l p i o;go_enter Tryz.func104,Tryz.ntmps104;go_wp2_with(first
  |(go_at_call 139;refine(aD j).mono ?_;rintro k y ⟨rfl,m⟩;have q:=O m;clear m)
  |go_in)
 go_ret;exact⟨rfl,q.o⟩
theorem bE4(B N P:Nat)(f:Nat->Bool)(g k:Nat)(ks:List Nat)(w:Y)(C:eQ B w (sQ g (Z ks) k) ks)(e3:Z ks<=1000000)(W:bE2 w g N P f ks)(c2:ks.any f=zg):Calls zu 104 #[sQ g (Z ks) k,.func (.func 105) #[] #[pQ N,pQ P]] w λc c6=>c=.returned (sQ g (Z (ks.filter λi=>!f i)) k)/\eQ B c6 (sQ g (Z (ks.filter λi=>!f i)) k) (ks.filter λi=>!f i)/\zq w c6 (V g):=by
 have a4:=O (aQ8 B N P f _ k ks w C e3 (λi e2 y a0=>W i e2 y (jL a0)));have S:ks.findIdx f<Z ks:=List.findIdx_lt_length.2 (List.any_eq_true.1 c2);obtain⟨j,I⟩:∃j,ks.findIdx f=j:=⟨_,rfl⟩;have b5:rG f ks=(j:Nat):=by unfold rG;rw[aT S,I]
 rw[I]at S;have c0:f ks[j]=true:=by have:=List.findIdx_getElem (xs:=ks) (p:=f) (w:=by omega);simpa[I]using this
 have b4:(ks.take j).filter (λi=>!f i)=ks.take j:=by
  rw[List.filter_eq_self];intro q s;obtain⟨e,b8,rfl⟩:=z2 s;have f7:e<j:=by simp at b8;omega
  have:=List.not_of_lt_findIdx (xs:=ks) (p:=f) (i:=e) (by omega);rw[List.getElem_take];simpa using this
 have c1:(ks.take (j+1)).filter (λi=>!f i)=ks.take j:=by rw[aQ9 S,b4,aT c0,List.append_nil]
 rw[b5]at a4;have f1:Z ks<=k:=by
  obtain⟨_,⟨c,_⟩|⟨u,b0,b1,c,_,_,F,_⟩⟩:=C
  .cases c
  simp at c;omega
 have d3:=O c1;have d0:=O C;have d2:=O W;have g0:((j:Int)==-1)=false:=by rw[beq_eq_false_iff_ne];omega
 clear C W c2 b5 I c0 b4 c1;go_enter Tryz.func104,Tryz.ntmps104;go_wp2_with(first
  |(go_at_call 139;refine(aD a4).mono ?_;rintro c g2 ⟨rfl,b3⟩;have a5:=O b3;clear b3)
  |go_in)
 have f9:(j:Int)<(Z ks:Int):=by omega
 go_loopw[5,6] (λe5 a1 wr=>∃(a e:Nat) (l:List Nat),e5=iQ a/\a1=iQ e/\e<=Z ks/\a<e/\Z l=Z ks/\eQ B wr (sQ g (Z ks) k) l/\l.take a=(ks.take e).filter (λi=>!f i)/\(∀o,e<=o->l[o]?=ks[o]?)/\zq w wr (V g)) (λ_ a1 _=>Z ks-(intOf a1).toNat);exact⟨j,j+1,ks,rfl,by simp,by omega,by omega,rfl,bF d0.o a5.o (zp _),d3.o.symm,λ_ _=>rfl,jL a5.o⟩;obtain⟨a,e,l,rfl,rfl,b8,f5,D,p,m,J,x⟩:=hrel;by_cases T:e<Z ks
 .obtain⟨q,s⟩:∃q,ks[e]=q:=⟨_,rfl⟩;have b2:l[e]'(by omega)=q:=by
   have:=J e (zp _);rw[zv (by omega),zv T,s]at this;exact Option.some.inj this
  obtain⟨u,c,F⟩:=p.cell (i:=e) (by omega);cases c;rw[b2]at F;obtain⟨c7,R⟩:∃c7:Nat,cQ wr g a (iQ (c7:Nat)):=by obtain⟨u,c,R⟩:=p.cell (i:=a) (by omega);cases c;exact⟨_,R⟩
  have z:=O (d2.o q (by rw[<-s];exact zk T) wr x);have X:=aQ9 (p:=f) T;rw[s]at X;have e1:(e:Int)<(Z ks:Int):=by omega
  have f4:(a:Int)<(Z ks:Int):=by omega
  have a6:=O p;have a9:=O m;have a7:=O J;have A:=O x;have a8:=O X;have M:=O D;have b7:∀y,zq wr y zo->z4 y (aQ g a)=false:=λy a0=>by
   obtain⟨_,⟨c,_⟩|⟨u,b0,b1,c,_,H,_⟩⟩:=p
   .cases c
   simp at c;obtain⟨rfl,_⟩:=c;have:=a0.block g (bA H) (by simp);simp[z4,this,H]
  have c9:=O b7;clear p m J x X b2 s D b7;cases hp:f q
  .rw[hp]at z;have L:=O hp;clear hp;go_wp2_with(first
    |(go_at_call 105;refine(aD z).mono ?_;rintro c a3 ⟨rfl,r⟩;have e7:=aC r R;have e8:=c9.o a3 (jL r);have t:=O r;clear r)
    |go_in)
   go_roundw;case rel=>
    have d6:eQ B a3 (sQ g (Z ks) k) l:=bF a6.o t.o (zp _);obtain⟨d7,d9⟩:=d6.set M.o.symm a q;have d8:=M.o;refine⟨a+1,e+1,l.set a q,by go_num,by go_num,by omega,by omega,by rw[zn];exact d8,d7,?_,λo m=>?_,nL A.o (nL (jL t.o) d9)⟩
    .rw[a8.o,L.o,<-a9.o,zh (by simp;omega),z3 (zp _)];simp
    rw[List.getElem?_set_ne (by omega)];exact a7.o o (by omega)
   case measure=>simp[intOf];omega
  rw[hp]at z;have L:=O hp;clear hp;go_wp2_with(first
   |(go_at_call 105;refine(aD z).mono ?_;rintro c a3 ⟨rfl,r⟩;have t:=O r;clear r)
   |go_in)
  go_roundw;case rel=>
   refine⟨a,e+1,l,rfl,by go_num,by omega,by omega,M.o,bF a6.o t.o (zp _),?_,λo m=>a7.o o (by omega),nL A.o (jL t.o)⟩;rw[a8.o,L.o,<-a9.o];simp
  case measure=>simp[intOf];omega
 have e0:e=Z ks:=by omega
 rw[e0,List.take_length]at m;have b9:Z (ks.filter λi=>!f i)=a:=by rw[<-m,List.length_take];omega
 have f2:∀a2,(Builtin.clear_ #[24] a2 #[.slice (V (aQ g a)) (Z ks-a) (k-a)]).run zu wr=.ok (.tuple #[]) (wr.setCells g a (zr (Z ks-a) (iQ 0))):=λa2=>
  Lib.run_clear_slice wr _ 3 a2 (iQ 0) zb (λw=>by obtain⟨g1,d4,d5,e9,f0⟩:=info_parts mR;simp[zeroValue,typeInfo,d4,d5]) rfl rfl g a _ _ (by omega) (λo m=>by
   obtain⟨u,c,F⟩:=p.cell (i:=a+o) (by omega);cases c;rw[F];rfl) (λo m=>by
   obtain⟨_,⟨c,_⟩|⟨u,b0,b1,c,_,H,_⟩⟩:=p
   .cases c
   simp at c;obtain⟨rfl,_⟩:=c;simp[z4,H])
 obtain⟨e6,c3,e4,c4,c5⟩:=eQ.cleared (Z ks-a) a wr l p D.symm;have b6:eQ B (wr.setCells g a (zr (Z ks-a) (iQ 0))) (sQ g a k) (ks.filter λi=>!f i):=by have:=c3.take (m:=a) (by omega);rw[c4,m]at this;exact this
 have c8:=O b6;have A:=O (nL x c5);have d1:=O b9;have e1:¬(e:Int)<(Z ks:Int):=by omega
 have f6:(a:Int)<=(Z ks:Int):=by omega
 have f3:(a:Int)<=(k:Int):=by omega
 have f8:(Z ks:Int)<=(k:Int):=by omega
 clear p m J x c3 e4 c4 c5 b6 D b9;go_wp2;go_ret;rw[d1.o];exact⟨rfl,c8.o,A.o⟩
theorem bE5(B i:Nat)(g:Option Addr)(o:Nat)(d:List Lt)(m:bK)(w:Y)(H:Option Addr)(a6:Nat)(a:List Lt)(e:dN w B i (.slice g (Z d) o) m)(r:eC w B g d)(q:eC w B H a)(L:kP d)(J:kP a)(b0:0<Z a):Calls zu 171 #[pQ i,.slice H (Z a) a6] w λI T=>∃p:Nat,I=.returned (iQ p)/\p<Z a/\dN T B i (.slice g (Z d) o) m/\Fr B w T:=by
 have b2:=e.among;have b4:=r.few;have b3:=q.few;have a5:=O e;have a0:=O r;have X:=O q;have a4:=O L;have a3:=O J;clear e r q L J;go_enter Tryz.func171,Tryz.ntmps171;go_wp2_with fail;go_quiet (fail);go_wp2;go_loopw[5,6,18] (λb a8 x wr=>∃c k n:Nat,c<=Z a/\k<Z a/\n<=9/\x=iQ c/\b=iQ k/\a8=iQ n/\dN wr B i (.slice g (Z d) o) m/\Fr B w wr) (λ_ _ x _=>Z a-(intOf x).toNat);exact⟨0,0,Z d+1,z1 _,b0,by omega,rfl,rfl,by go_num,a5.o.drawn (by first|exact dT _ _ _|exact⟨_,rfl⟩),(Fr.refl _ _).drawn (by first|exact dT _ _ _|exact⟨_,rfl⟩)⟩;obtain⟨c,k,n,b5,P,b6,rfl,rfl,rfl,e,f⟩:=hrel;by_cases N:c<Z a
 .obtain⟨b,b8,z,C,rfl,b1,a7,a9,S,s⟩:=(X.o.fr f).cell c N;obtain⟨t,u⟩:=a3.o a[c] (zk _);generalize a[c]=y at *;obtain⟨A,D⟩:=y;simp only at a7 a9 t u s S;have j:aB wr (wr.alloc (.cells #[.bool A,.slice z (Z D) C] 55)):=aI _ _;have W:=O (bAc B i g o d m (wr.alloc (.cells #[.bool A,.slice z (Z D) C] 55)) A z C D (e.below j) (a0.o.fr (f.trans (Fr.of_below j))) (s.fr (Fr.of_below j)) t u a4.o);have a2:=O (f.trans (Fr.of_below j));clear j e f s b1 S t u;go_wp2_with(first
   |(go_at_call 181;refine(aD W).mono ?_;rintro I b9 ⟨p,rfl,b7,R,M⟩;have l:=O R;have F:=O (a2.o.trans M);clear R M))
  .go_roundw;·exact⟨c+1,c,p,by omega,N,by omega,by go_num,rfl,rfl,l.o,F.o⟩
   .simp[intOf];omega
  go_roundw;·exact⟨c+1,k,n,by omega,P,by omega,by go_num,rfl,rfl,l.o,F.o⟩
  simp[intOf];omega
 have l:=O e;have a1:=O f;clear e f;go_wp2;go_ret;exact⟨k,rfl,P,l.o,a1.o⟩
