import Derived.Test.YtenobhkjiebhaaaGreatDoorRCov4S18
open Bool renaming true->U,false->ze
open List renaming length->V,getElem_mem->zv,length_map->zq,map_append->zp,getElem?_eq_getElem->zo,length_append->zn,length_eraseIdx_le->zm,getElem?_map->zl,take_succ_eq_append_getElem->zk,length_eraseIdx_of_lt->zj,take_length->zi,length_take->zg,append_assoc->zf,getElem?_append_left->zd,map_congr_left->z6,getElem_map->z7,getElem?_append_right->z9,map_cons->yy,mem_of_mem_eraseIdx->yx,length_cons->yt,mem_of_mem_take->ys,drop_eq_getElem_cons->yq,getElem?_eq_some_iff->yp,getElem_append_right->yo,map_map->yn,append_nil->yk,mem_append_right->yj,mem_append_left->yh,getElem_of_mem->yf,map_nil->ye,map->yb
open Nat renaming le_refl->zu,zero_le->zh,not_lt_zero->yw,le_trans->yr,lt_trans->yd
open Option renaming some->zr,map_eq_some_iff->ym,none->xy
open Or renaming inr->zc,inl->z8
open Prod renaming snd->zw,fst->zs
namespace Go.Proofs.YtenobhkjiebhaaaGreatDoor
open Go renaming World->zx,Value->zt
open _root_.Go.Proofs.Tryz renaming prog->z5,underlying143->yv,ntmps10->yl,func10->yg,ntmps43->y9,underlying25->xz,func43->xx
open Value renaming ownBlock->za,slice->yi
open World renaming ownsRow->zb,cell?->yz,ownsRow_nil->yu
open Go.RowKit Go.Shelf Go.WideMaps
set_option maxHeartbeats 16000000
set_option maxRecDepth 100000
variable{K P:List (List Lt)}{T:List (aJ×zt)}{c:List Lt}{S ks rs:List Nat}{B:Nat}{v:zt}{w w0 wr:zx}
def uF(a:Gr)(R:Nat->Nat->Prop)(rep:Nat->Nat)(d e:Nat):Prop:=d=e\/∃b,aX a R rep [d] b/\aX a R rep [e] b
theorem aRz{e:List Nd}{f:Nat->Nat->Prop}{k:Nat->Nat}{d:List Nat}{a:List Nd}(g:aX (aF e) f k d a):∀b,aM (a++b) (V d)=V a:=by
 induction g with
 |nil=>intro b;simp
 |@var i r a _ _ ih=>
  grind[aM,oF,kE,yt]
 |@name i j r a _ h2 _ ih=>
  grind[aM,aF,jE,pR,nC,yG,bI,zn,yt,Nat.add_comm]
section
variable {L:List Nd}{R:Nat->Nat->Prop}{rep:Nat->Nat}
theorem bH4:∀(e d:List Nat) (g:List Nd),aX (aF L) R rep e g->aX (aF L) R rep d g->V e=V d->∀(f i j:Nat),e[f]?=zr i->d[f]?=zr j->∃k,aX (aF L) R rep [i] k/\aX (aF L) R rep [j] k:=by
 intro e;induction e with
 |nil=>intro d g _ _ _ f i j m;simp at m
 |cons a e ih=>
  intro d g n o p f i j y z;cases d with
  |nil=>simp at p
  |cons b d=>
   obtain⟨A,q,rfl,l,r⟩:=n.split [a] e rfl;obtain⟨C,D,x,s,t⟩:=o.split [b] d rfl;have u:=aRz l q;grind[aRz,List.append_cancel_left,List.append_inj_left,yt,List.length_nil]
theorem bH5{b d:List Nat}(i:aU (λk l=>∃a,aX (aF L) R rep [k] a/\aX (aF L) R rep [l] a) b d):∃a,aX (aF L) R rep b a/\aX (aF L) R rep d a:=by
 induction i with
 |nil=>exact⟨[],aX.nil,aX.nil⟩
 |cons h1 _ ih=>
  obtain⟨a,e,f⟩:=h1;obtain⟨j,c,g⟩:=ih;exact⟨a++j,e.append c,f.append g⟩
theorem aF6(b:gL (aF L) R)(g:fU (aF L) R)(k:∀a d,R a d->rep a=rep d){a:Nat}{i:List Nd}(f:(aF L).named a)(j:aX (aF L) R rep [a] i):∃e,i=(aF L).lab a::e/\aX (aF L) R rep ((aF L).ch a) e:=by
 cases j with
 |var h1 _=>exact absurd f (h1 a (b.refl a))
 |@name _ d _ e h1 h2 h3=>
  rw[yk]at h3;refine⟨e,by rw[g a d h1 f h2],h3.same b k _ (aA8 b g (sZ L) (b.symm _ _ h1) h2 f)⟩
theorem bH6(j:gL (aF L) R)(i:fU (aF L) R)(l:∀a e,R a e->rep a=rep e):gL (aF L) (uF (aF L) R rep) where
 refl a:=z8 rfl
 symm a e h:=by
  rcases h with rfl|⟨f,b,d⟩
  .exact z8 rfl
  exact zc ⟨f,d,b⟩
 trans a e k h g:=by
  rcases h with rfl|⟨f,b,d⟩
  .exact g
  rcases g with rfl|⟨n,c,s⟩
  .exact zc ⟨f,b,d⟩
  have:=d.one j i (sZ L) l _ c;subst this;exact zc ⟨f,b,s⟩
 down a e k p q h hi hj hp hq:=by
  rcases h with rfl|⟨f,b,d⟩
  .rw[hp]at hq;simp at hq;exact z8 hq
  obtain⟨n,rfl,o⟩:=aF6 j i l hi b;obtain⟨u,m,r⟩:=aF6 j i l hj d;simp at m;obtain⟨t,rfl⟩:=m;exact zc (bH4 _ _ n o r (sZ L a e hi hj t) k p q hp hq)
theorem aS0(i:gL (aF L) R){a d:Nat}(l:uF (aF L) R rep a d)(j:∀b,R a b->¬(aF L).named b):¬(aF L).named d/\(rep a:Int)=rep d:=by
 rcases l with rfl|⟨m,k,f⟩
 .exact⟨j _ (i.refl _),rfl⟩
 cases k with
 |name h1 h2 _=>exact absurd h2 (j _ h1)
 |var _ h2=>
  cases h2;generalize e:([((⟨#[]⟩:ByteArray),(rep a:Int))]:List Nd)=m at f;cases f with
  |var h3 h4=>
   cases h4;simp at e;exact⟨h3 _ (i.refl _),by omega⟩
  |@name _ b _ _ h3 h4 _=>
   simp at e;have g:aK ((aF L).lab b)=false:=h4;rw[<-e.1,oF]at g;cases g
end
section
variable {L N:List Nd}{R R1:Nat->Nat->Prop}{rep rep1:Nat->Nat}{f:Nat->Nat}
structure qD(L N:List Nd)(R R1:Nat->Nat->Prop)(rep:Nat->Nat)(f:Nat->Nat):Prop where
 at':∀p,L[p]?=N[f p]?
 ch:∀p,(aF L).named p->(aF N).ch (f p)=((aF L).ch p).map f
 onto:∀r,∃p,f p=r
 fwd:∀p q,R p q->R1 (f p) (f q)
 bck:∀p q,R1 (f p) (f q)->uF (aF L) R rep p q
 lt:∀p,p<V L↔f p<V N
theorem qD.lab(b:qD L N R R1 rep f)(a:Nat):(aF L).lab a=(aF N).lab (f a):=by show (L[a]?).getD _=(N[f a]?).getD _;rw[b.at']
theorem qD.named(a:qD L N R R1 rep f)(p:Nat):(aF L).named p↔(aF N).named (f p):=by unfold Gr.named;rw[a.lab]
theorem qD.clash(a:qD L N R R1 rep f)(p:gL (aF L) R)(o:fU (aF L) R)(q:∀b d,R b d->rep b=rep d):fU (aF N) R1:=by intro k l c e g;obtain⟨i,rfl⟩:=a.onto k;obtain⟨j,rfl⟩:=a.onto l;rw[<-a.named]at e g;rw[<-a.lab,<-a.lab];rcases a.bck i j c with rfl|⟨r,m,n⟩;all_goals grind[aF6]
theorem qD.ends(b:qD L N R R1 rep f)(y:gL (aF L) R)(u:fU (aF L) R)(C:∀o j,R o j->rep o=rep j):∀(n p:Nat) (a:List Nd),aX (aF L) R rep [p] a->V a<=n->bZ (aF N) R1 (f p):=by
 intro n;induction n with
 |zero=>
  intro p a g i;have:=g.pos;omega
 |succ n ih=>
  intro p a g i;refine⟨_,λH D A x m=>?_⟩;obtain⟨d,rfl⟩:=b.onto H;have l:=(b.named d).2 A;rw[b.ch d l]at m;obtain⟨e,E,rfl⟩:=List.mem_map.1 m;have z:aX (aF L) R rep [d] a:=by rcases b.bck p d D with rfl|⟨F,J,M⟩;all_goals grind[aX.one,sZ]
  obtain⟨F,rfl,k⟩:=aF6 y u C l z;obtain⟨I,q,t⟩:=List.append_of_mem E;rw[t]at k;obtain⟨Q,W,rfl,_,r⟩:=k.split I (e::q) rfl;obtain⟨G,X,rfl,s,_⟩:=r.split [e] q rfl;exact ih e G s (by simp at i;omega)
def CpV(L:List Nd)(R:Nat->Nat->Prop)(rep rep1:Nat->Nat)(f:Nat->Nat)(d e:Int):Prop:=∃a,(∀b,R a b->¬(aF L).named b)/\d=(rep a:Int)/\e=(rep1 (f a):Int)
theorem qD.pairs(d:qD L N R R1 rep f)(k:gL (aF L) R)(m:∀a b,rep a=rep b↔R a b)(e:∀a b,rep1 a=rep1 b↔R1 a b):lW (CpV L R rep rep1 f):=by
 rintro o q p r ⟨g,l,rfl,rfl⟩ ⟨i,n,rfl,rfl⟩;constructor
 .intro j;have:=(e _ _).2 (d.fwd _ _ ((m g i).1 (by omega)));omega
 intro j;have:=d.bck _ _ ((e (f g) (f i)).1 (by omega));exact(aS0 k this l).2
theorem qD.exp(a:qD L N R R1 rep f)(m:gL (aF L) R){k:List Nat}{d:List Nd}(l:aX (aF L) R rep k d):∃e,aX (aF N) R1 rep1 (k.map f) e/\aU (gK (CpV L R rep rep1 f)) d e:=by
 induction l with
 |nil=>exact⟨[],aX.nil,aU.nil⟩
 |@var i r d h1 _ ih=>
  obtain⟨e,b,g⟩:=ih;refine⟨_,aX.var (λs p n=>?_) b,aU.cons (z8 ⟨oF _,oF _,rfl,i,h1,rfl,rfl⟩) g⟩;obtain⟨q,rfl⟩:=a.onto s;have o:=(a.named q).2 n;exact(aS0 m (a.bck _ _ p) h1).1 o
 |@name i j r d h1 h2 _ ih=>
  obtain⟨e,b,g⟩:=ih;rw[zp,<-a.ch j h2]at b;exact⟨_,aX.name (a.fwd _ _ h1) ((a.named j).1 h2) b,aU.cons (zc ⟨h2,a.lab j⟩) g⟩
end
section
variable {X Y Z:List Tg}
def eJ(b d a:Nat):Nat:=if a<b then d+a else a-b
theorem aF7(a:Nat):(X++(Y++X++Z))[a]?=(Y++X++Z)[eJ (V X) (V Y) a]?:=by unfold eJ;grind
theorem aAi(d:dV (X.map zw)){a:Nat}(j:a<V (X++(Y++X++Z))):(aF ((Y++X++Z).map zw)).ch (eJ (V X) (V Y) a)=((aF ((X++(Y++X++Z)).map zw)).ch a).map (eJ (V X) (V Y)):=by
 have m:V (X.map zw)=V X:=by simp
 rw[zp (l₁:=X)];by_cases e:a<V X
 .have b:eJ (V X) (V Y) a=V (Y.map zw)+a:=by unfold eJ;rw[aT e];simp
  rw[b,pY d (by omega),zp,zp,zX d (by omega)];refine z6 λi g=>?_
  have f:(X.map zw)[a]?=zr (X.map zw)[a]:=zo (by omega);rw[jE f]at g;have l:=(sY _ _ _ (d a _ f) i g).2;grind[eJ,aM,oC,yq]
 have b:eJ (V X) (V Y) a=a-V X:=by unfold eJ;rw[aS e]
 have k:a=V (X.map zw)+(a-V X):=by omega
 rw[b];conv=>rhs;rw[k,aC1 (by simp at j ⊢;omega)]
 rw[yn];refine(List.map_id _).symm.trans (z6 λi _=>?_);grind[eJ]
theorem uG(b d a:Nat):eJ b d (a+b)=a:=by unfold eJ;rw[aS (by omega)];omega
theorem bH7{a e b d:Nat}(f:eJ a e b=eJ a e d):b=d\/(b<a/\d=b+a+e)\/(d<a/\b=d+a+e):=by unfold eJ at f;split at f<;>split at f<;>omega
theorem bH8{d e:Nat}(f:aAb (X++(Y++X++Z)) d e):aAb (Y++X++Z) (eJ (V X) (V Y) d) (eJ (V X) (V Y) e):=by
 rcases f with rfl|⟨i,j,a,b,g⟩
 .exact z8 rfl
 rw[aF7]at a b;exact zc ⟨i,j,a,b,g⟩
theorem bH9{a b:Nat}(d:aAb (Y++X++Z) a b):aAb (X++(Y++X++Z)) (a+V X) (b+V X):=by
 rcases d with rfl|⟨f,v,g,i,e⟩
 .exact z8 rfl
 refine zc ⟨f,v,?_,?_,e⟩;all_goals grind
variable (hX:dV (X.map zw))(hx:0<V X)
include hX hx
theorem aS1{e:Nat->Nat}(Q:∀o p,cX (X++(Y++X++Z)) 0 (V X) o p->e o=e p)(J:∀a,a<V (X++(Y++X++Z))->∃b,aX (aF ((X++(Y++X++Z)).map zw)) (cX (X++(Y++X++Z)) 0 (V X)) e [a] b):∀(g a:Nat),a+g=V X->a<V X->∃b,aX (aF ((X++(Y++X++Z)).map zw)) (cX (X++(Y++X++Z)) 0 (V X)) e [a] b/\aX (aF ((X++(Y++X++Z)).map zw)) (cX (X++(Y++X++Z)) 0 (V X)) e [a+V X+V Y] b:=by
 intro g;induction g using Nat.strongRecOn with
 |_ g ih=>
  intro a a1 i;have t:(X++(Y++X++Z))[a]?=zr X[a]:=by rw[zd i,zo i]
  have u:(X++(Y++X++Z))[a+V X+V Y]?=zr X[a]:=by
   rw[z9 (by omega),zf,z9 (by omega),zd (by omega),<-zo i];congr 1
   omega
  cases hv:aK X[a].2 with
  |true=>
   obtain⟨b,m⟩:=J a (by simp;omega);have M:cX (X++(Y++X++Z)) 0 (V X) a (a+V X+V Y):=Cl.base (z8 ((xL _ _ _).2 (zc ⟨_,_,t,u,hv,hv,rfl,rfl⟩)));exact⟨b,m,m.same (Cl.isDown _ _) Q _ (aU.cons M aU.nil)⟩
  |false=>
   have x:((X++(Y++X++Z)).map zw)[a]?=zr X[a].2:=by rw[zl,t];rfl
   have y:((X++(Y++X++Z)).map zw)[a+V X+V Y]?=zr X[a].2:=by rw[zl,u];rfl
   have E:=(iF x).2 hv;have F:=(iF y).2 hv;have a2:V (X.map zw)=V X:=by simp
   have C:(aF ((X++(Y++X++Z)).map zw)).ch a=(aF (X.map zw)).ch a:=by rw[zp];exact pY hX (by omega)
   have D:(aF ((X++(Y++X++Z)).map zw)).ch (a+V X+V Y)=((aF (X.map zw)).ch a).map (· + (V X+V Y)):=by
    have G:a+V X+V Y=V (X.map zw++Y.map zw)+a:=by simp;omega
    have H:(X++(Y++X++Z)).map zw=(X.map zw++Y.map zw)++X.map zw++Z.map zw:=by simp
    rw[G,H,zX hX (by omega)];simp
   have N:∀d∈(aF (X.map zw)).ch a,a<d/\d<V X:=by intro d j;have k:(X.map zw)[a]?=zr (X.map zw)[a]:=zo (by omega);rw[jE k]at j;have I:=sY _ _ _ (hX a _ k) d j;have l:aM ((X.map zw).drop a) 1<=V ((X.map zw).drop a):=oC _ _;rw[yq (by omega)]at l;simp[aM]at l;simp at I;omega
   have L:∀f:List Nat,(∀d∈f,a<d/\d<V X)->aU (λz A=>∃b,aX (aF ((X++(Y++X++Z)).map zw)) (cX (X++(Y++X++Z)) 0 (V X)) e [z] b/\aX (aF ((X++(Y++X++Z)).map zw)) (cX (X++(Y++X++Z)) 0 (V X)) e [A] b) f (f.map (· + (V X+V Y))):=by
    intro f n;induction f with
    |nil=>exact aU.nil
    |cons d f ihx=>
     refine aU.cons ?_ (ihx λa0 W=>n a0 (by simp[W]));have j:=n d (by simp);have:=ih (V X-d) (by omega) d (by omega) (by omega);rwa[Nat.add_assoc]at this
   obtain⟨b,q,s⟩:=bH5 (L _ N);rw[<-C]at q;rw[<-D]at s;refine⟨X[a].2::b,?_,?_⟩
   .have:=aX.name (rep:=e) (R:=cX (X++(Y++X++Z)) 0 (V X)) (r:=[]) (Cl.refl a) E (by rw[yk];exact q);rwa[pR x]at this
   have:=aX.name (rep:=e) (R:=cX (X++(Y++X++Z)) 0 (V X)) (r:=[]) (Cl.refl _) F (by rw[yk];exact s);rwa[pR y]at this
theorem aJ8{b d:Nat}(e:cX (X++(Y++X++Z)) 0 (V X) b d):cX (Y++X++Z) (V Y) 0 (eJ (V X) (V Y) b) (eJ (V X) (V Y) d):=by
 refine Cl.le (R:=λb d=>cX (Y++X++Z) (V Y) 0 (eJ (V X) (V Y) b) (eJ (V X) (V Y) d)) ⟨λ_=>Cl.refl _,λ_ _=>Cl.symm,λ_ _ _=>Cl.trans,?_⟩ ?_ e
 .intro a o k b d c g i j l;have f:∀{a:Nat},(aF ((X++(Y++X++Z)).map zw)).named a->(aF ((Y++X++Z).map zw)).named (eJ (V X) (V Y) a)/\a<V (X++(Y++X++Z)):=by
   grind[aF7,iF,nC,yp]
  obtain⟨m,n⟩:=f g;obtain⟨p,q⟩:=f i;exact Cl.down (k:=k) c m p (by rw[aAi hX n,zl,j];rfl) (by rw[aAi hX q,zl,l];rfl)
 rintro a o (e|⟨rfl,rfl⟩)
 .exact Cl.base (z8 ((xL _ _ _).2 (bH8 ((xL _ _ _).1 e))))
 refine Cl.base (zc ⟨?_,?_⟩);all_goals grind[eJ]
theorem bHa(a0:fU (aF ((X++(Y++X++Z)).map zw)) (cX (X++(Y++X++Z)) 0 (V X))){rep:Nat->Nat}(p:∀d l,cX (X++(Y++X++Z)) 0 (V X) d l->rep d=rep l)(y:∀a,a<V (X++(Y++X++Z))->∃n,aX (aF ((X++(Y++X++Z)).map zw)) (cX (X++(Y++X++Z)) 0 (V X)) rep [a] n)
  {a b:Nat} (e:cX (Y++X++Z) (V Y) 0 (eJ (V X) (V Y) a) (eJ (V X) (V Y) b)):uF (aF ((X++(Y++X++Z)).map zw)) (cX (X++(Y++X++Z)) 0 (V X)) rep a b:=by
 have f:=bH6 (rep:=rep) (Cl.isDown _ _) a0 p;have k:∀a b,eJ (V X) (V Y) a=eJ (V X) (V Y) b->uF (aF ((X++(Y++X++Z)).map zw)) (cX (X++(Y++X++Z)) 0 (V X)) rep a b:=by
  intro a b m;rcases bH7 m with rfl|⟨j,rfl⟩|⟨j,rfl⟩
  .exact z8 rfl
  .exact zc (aS1 hX hx p y (V X-a) a (by omega) j)
  obtain⟨n,s,t⟩:=aS1 hX hx p y (V X-b) b (by omega) j;exact zc ⟨n,t,s⟩
 have D:∀a b,a<V (X++(Y++X++Z))->cX (X++(Y++X++Z)) 0 (V X) a b->uF (aF ((X++(Y++X++Z)).map zw)) (cX (X++(Y++X++Z)) 0 (V X)) rep a b:=by intro a b a2 c;obtain⟨n,E⟩:=y a a2;exact zc ⟨n,E,E.same (Cl.isDown _ _) p _ (aU.cons c aU.nil)⟩
 have a8:∀J L,eJ (V X) (V Y) J=eJ (V X) (V Y) a->eJ (V X) (V Y) L=eJ (V X) (V Y) b->uF (aF ((X++(Y++X++Z)).map zw)) (cX (X++(Y++X++Z)) 0 (V X)) rep J L:=by
  refine Cl.le (R:=λq r=>∀a b,eJ (V X) (V Y) a=q->eJ (V X) (V Y) b=r->uF (aF ((X++(Y++X++Z)).map zw)) (cX (X++(Y++X++Z)) 0 (V X)) rep a b) ⟨?_,?_,?_,?_⟩ ?_ e
  .rintro d a b rfl m;exact k _ _ m.symm
  .intro d l e a b g i;exact f.symm _ _ (e b a i g)
  .intro d l H e N a b g i;exact f.trans _ _ _ (e a (l+V X) g (uG _ _ _)) (N (l+V X) b (uG _ _ _) i)
  .intro d l H q r e z a1 F G a b g i;have I:∀{d:Nat},(aF ((Y++X++Z).map zw)).named d->(aF ((X++(Y++X++Z)).map zw)).named (d+V X)/\d+V X<V (X++(Y++X++Z)):=by
    intro d z;obtain⟨a9,j,u⟩:=nC z;have o:=(eE j);have x:((X++(Y++X++Z)).map zw)[d+V X]?=zr a9:=by rw[zp (l₁:=X),z9 (by simp)];simpa using j
    exact⟨(iF x).2 u,by simp at o ⊢;omega⟩
   obtain⟨a4,a5⟩:=I z;obtain⟨a6,a7⟩:=I a1;have A:=aAi hX a5;have C:=aAi hX a7;rw[uG]at A C;rw[A,zl,ym]at F;rw[C,zl,ym]at G;obtain⟨M,b0,b1⟩:=F;obtain⟨v,b2,b3⟩:=G;have a3:=f.down _ _ H M v (e _ _ (uG _ _ _) (uG _ _ _)) a4 a6 b0 b2;exact f.trans _ _ _ (f.trans _ _ _ (k a M (by rw[g,b1])) a3) (k v b (by rw[i,b3]))
  rintro q r (e|⟨rfl,rfl⟩) a b g i
  .have u:=bH9 ((xL _ _ _).1 e);have:uF (aF ((X++(Y++X++Z)).map zw)) (cX (X++(Y++X++Z)) 0 (V X)) rep (q+V X) (r+V X):=by
    rcases u with m|⟨s,t,o,x,W⟩
    .exact z8 m
    exact D _ _ (eE o) (Cl.base (z8 ((xL _ _ _).2 (zc ⟨s,t,o,x,W⟩))))
   exact f.trans _ _ _ (f.trans _ _ _ (k a _ (by rw[g,uG])) this) (k _ b (by rw[i,uG]))
  have Q:eJ (V X) (V Y) 0=V Y:=by unfold eJ;rw[aT hx];rfl
  have j:eJ (V X) (V Y) (V X)=0:=by unfold eJ;rw[aS (by omega)];omega
  have:uF (aF ((X++(Y++X++Z)).map zw)) (cX (X++(Y++X++Z)) 0 (V X)) rep 0 (V X):=D _ _ (by simp;omega) (Cl.base (zc ⟨rfl,rfl⟩));exact f.trans _ _ _ (f.trans _ _ _ (k a 0 (by rw[g,Q])) this) (k _ b (by rw[i,j]))
 exact a8 a b rfl rfl
end
theorem bHb{T:List Tg}{d e:List (Int×Lt)}{r:Int×Lt}(b3:∀g∈d,aP g.2.2 1=U)(b4:∀g∈e,aP g.2.2 1=U)(L:aP r.2.2 1=U){a7:List Lt}{a9:Bool}{a1:Int}
  (F:fD T (V T+V (aL d)) 0 (d++r::e) a7 a9 a1):fD (aW r.1 r.2.2++T) 0 (V r.2.2) (d++r::e) a7 a9 a1:=by
 obtain⟨a,x⟩:∃a,aW r.1 r.2.2=a:=⟨_,rfl⟩;have a6:V r.2.2=V a:=by rw[<-x];simp[aW]
 have hx:0<V a:=by rw[<-a6];exact lP L
 have n:dV (a.map zw):=by rw[<-x,vU];exact tD L
 have c8:∀g∈d++r::e,aP g.2.2 1=true:=by
  intro g hx;simp only[List.mem_append,List.mem_cons]at hx;rcases hx with hx|rfl|hx
  .exact b3 g hx
  .exact L
  exact b4 g hx
 have E:T++aL (d++r::e)=(T++aL d)++a++aL e:=by rw[sP,tR,x];simp
 have b2:a++T++aL (d++r::e)=a++((T++aL d)++a++aL e):=by rw[zf,E]
 have b5:V (T++aL d)=V T+V (aL d):=by simp
 have c6:bO (V (a++T)) (d++r::e)=(bO (V T) (d++r::e)).map (· + V a):=by rw[wY _ (V (a++T)),wY _ (V T),yn];apply z6;intro d6 _;simp;omega
 unfold fD at F ⊢;rw[x,a6,c6];rw[E,<-b5]at F;rw[b2];generalize hYe:T++aL d=Y at *;generalize hZe:aL e=Z at *;obtain⟨j,N⟩:=aCv (a++(Y++a++Z)) 0 (V a);have M:∀k i,cX (a++(Y++a++Z)) 0 (V a) k i->j k=j i:=λk i c=>(N k i).2 c
 have a2:nW (a++(Y++a++Z)) 0 (V a)->qD ((a++(Y++a++Z)).map zw) ((Y++a++Z).map zw) (cX (a++(Y++a++Z)) 0 (V a)) (cX (Y++a++Z) (V Y) 0) j (eJ (V a) (V Y)):=by
  rintro⟨C,D⟩;have b6:∀b,b<V (a++(Y++a++Z))->∃l,aX (aF ((a++(Y++a++Z)).map zw)) (cX (a++(Y++a++Z)) 0 (V a)) j [b] l:=λb f=>(D b f).exp
  refine⟨λb=>?_,λb f=>?_,λm=>⟨m+V a,uG _ _ _⟩,λb R c=>aJ8 n hx c,λb R c=>bHa n hx C M b6 c,λb=>?_⟩
  .rw[zl,aF7,zl]
  .obtain⟨q,A,_⟩:=nC f;have:=(eE A);exact aAi n (by simpa using this)
  simp only[zq,zn];unfold eJ;split<;>omega
 have d1:nW (Y++a++Z) (V Y) 0->nW (a++(Y++a++Z)) 0 (V a):=by
  rintro⟨C,D⟩;have I:∀b,(aF ((a++(Y++a++Z)).map zw)).lab b=(aF ((Y++a++Z).map zw)).lab (eJ (V a) (V Y) b):=by intro b;show (_:Option Nd).getD _=(_:Option Nd).getD _;rw[zl,aF7,zl]
  have J:∀b,(aF ((a++(Y++a++Z)).map zw)).named b->(aF ((Y++a++Z).map zw)).named (eJ (V a) (V Y) b):=by intro b f;unfold Gr.named at f ⊢;rw[<-I];exact f
  refine⟨λk i c b9 H=>?_,?_⟩
  .rw[I,I];exact C _ _ (aJ8 n hx c) (J k b9) (J i H)
  have b7:∀m,bZ (aF ((Y++a++Z).map zw)) (cX (Y++a++Z) (V Y) 0) m->∀b,eJ (V a) (V Y) b=m->bZ (aF ((a++(Y++a++Z)).map zw)) (cX (a++(Y++a++Z)) 0 (V a)) b:=by
   intro m b8;induction b8 with
   |mk m _ ih=>
    rintro b rfl;refine⟨_,λi H a4 a8 d0=>?_⟩;obtain⟨q,A,_⟩:=nC a4;have c1:=(eE A);refine ih _ (aJ8 n hx H) (J i a4) (eJ (V a) (V Y) a8) ?_ a8 rfl;rw[aAi n (by simpa using c1)];exact List.mem_map_of_mem d0
  intro b f;refine b7 _ (D (eJ (V a) (V Y) b) ?_) b rfl;simp only[zn]at f ⊢;unfold eJ;split<;>omega
 have c4:nW (a++(Y++a++Z)) 0 (V a)->nW (Y++a++Z) (V Y) 0:=by intro c;have t:=a2 c;refine⟨t.clash (Cl.isDown _ _) c.1 M,λm c9=>?_⟩;obtain⟨l,c2⟩:=(c.2 (m+V a) (by simp at c9 ⊢;omega)).exp (rep:=j);have:=t.ends (Cl.isDown _ _) c.1 M (V l) _ l c2 (zu _);rwa[uG]at this
 rcases F with⟨q,rfl,rfl,rfl⟩|⟨q,W,o,X,b0,a0⟩
 .exact z8 ⟨λc=>q (c4 c),rfl,rfl,rfl⟩
 have c:=d1 q;have t:=a2 c;have d4:∀(s:List Nat) (o:List (List Nd)),(∀b∈s,b<V (Y++a++Z))->aU (λb l=>aX (aF ((Y++a++Z).map zw)) (cX (Y++a++Z) (V Y) 0) W [b] l) s o->∃p,aU (λb u=>aX (aF ((a++(Y++a++Z)).map zw)) (cX (a++(Y++a++Z)) 0 (V a)) j [b] u) (s.map (· + V a)) p/\aU (λu l=>aU (gK (CpV ((a++(Y++a++Z)).map zw) (cX (a++(Y++a++Z)) 0 (V a)) j W (eJ (V a) (V Y)))) u l) p o:=by
  intro s;induction s with
  |nil=>
   intro o _ G;cases G;exact⟨[],aU.nil,aU.nil⟩
  |cons b s ih=>
   intro o a5 G;cases G with
   |cons y hy=>
    obtain⟨p,d2,d3⟩:=ih _ (λR c7=>a5 R (by simp[c7])) hy;have f:=a5 b (by simp);obtain⟨u,a3⟩:=(c.2 (b+V a) (by simp at f ⊢;omega)).exp (rep:=j);obtain⟨d5,z,Q⟩:=t.exp (rep1:=W) (Cl.isDown _ _) a3;simp only[yy,ye,uG]at z;have b1:=z.one (Cl.isDown _ _) q.1 (sZ _) (λk i c0=>(X k i).2 c0) _ y;subst b1;exact⟨u::p,aU.cons a3 d2,aU.cons Q d3⟩
 have c3:∀g∈d++r::e,0<V g.2.2:=λg hx=>lP (c8 g hx)
 obtain⟨p,z,Q⟩:=d4 (bO (V T) (d++r::e)) o (λb f=>by have:=xX _ _ c3 b f;rw[<-E];simp;omega) b0;have c5:=aF5 (t.pairs (Cl.isDown _ _) N X) (aEp (d++r::e) Q);rw[<-c5]at a0;exact zc ⟨c,j,p,N,z,a0⟩
theorem yS{g:Nat}{a b:TypeId}{q r m n:Nat}{f:zt}{o p:List zt}(i:zb w B a q v m o)(j:zb w g b r f n p)(l:a≠b):za v=xy\/za v≠za f:=by
 obtain⟨_,⟨rfl,_⟩|⟨y,s,u,rfl,_,k,_⟩⟩:=i
 .exact z8 rfl
 refine zc λd=>?_
 obtain⟨_,⟨rfl,_⟩|⟨z,t,x,rfl,_,e,_⟩⟩:=j
 .cases d
 cases d;rw[k]at e;cases e;exact l rfl
structure gT(w0:zx)(B tp:Nat)(L:List (Int×Lt))(S rs:List Nat)(ns:List Bool)(rv nv:zt)(wr:zx)(v:zt)(P:Tb)(g:Nat->Nat):Prop where
 tab:dO wr B tp v P
 rows:Rows (aL L) (P.map zs) g
 len:V P<=V (aL L)
 pos:∀r∈L,0<V r.2.2
 sts:(bO 0 L).map g=S
 orv:eQ B wr rv rs
 onv:zb wr B 4 1 nv (V ns) (ns.map Value.bool)
 apart:∀p∈P,za p.2=xy\/za p.2≠za rv
 low:Below B w0 wr
 big:B<=wr.heap.size
section
variable {w0:zx}{B tp:Nat}{L:List (Int×Lt)}{S rs:List Nat}{ns:List Bool}{rv nv:zt}{wr:zx}{v:zt}{P:Tb}{g:Nat->Nat}
theorem gT.put(a:gT w0 B tp L S rs ns rv nv wr v P g){o r:Int}{x:Lt}(y:r=60*o)(m:aP x.2 1=U){k:Nat}{C:List Nd}{w':zx}{s:zt}{f:Tb}(b:oR wr B tp v P r x.2 k C w' s f):∃t,gT w0 B tp (L++[(o,x)]) (S++[k]) rs ns rv nv w' s f t:=by
 subst y;obtain⟨D,q⟩:=b.put.inv;have hr:=a.rows.put (o:=o) m q;have i:aL (L++[(o,x)])=aL L++x.2.map λn=>(o,n):=by simp[aL]
 have l:=q.ps;simp[gE]at l;have F:=b.len;refine⟨_,b.tab,by rw[i];exact hr,?_,?_,?_,?_,?_,λp d=>?_,?_,yr a.big b.far.size⟩
 .rw[i];have:=a.len;simp;omega
 .intro A hr;rcases List.mem_append.1 hr with hr|hr
  .exact a.pos A hr
  simp at hr;subst hr;exact lP m
 .rw[wW,zp,<-a.sts];congr 1
  .apply z6;intro p d;have:=xX L 0 a.pos p d;exact nZ (by omega)
  simp only[bO,yy,ye];rw[show 0+V (aL L)=0+V (aL L) from rfl,aF2,l]
 .exact b.far.own a.orv (eX a.orv a.tab.box (by decide)) (yS a.orv a.tab.row (by decide))
 .exact b.far.own a.onv (eX a.onv a.tab.box (by decide)) (yS a.onv a.tab.row (by decide))
 .rcases b.old p d with⟨z,u,e⟩|e|⟨g,e,E⟩
  .rw[e];exact a.apart z u
  .exact z8 e
  refine zc λj=>?_
  rw[e]at j;have:=(bS a.orv g j.symm).2;omega
 exact a.low.trans (b.far.low a.tab.high (λk e=>(bS a.tab.row k e).1) a.big)
theorem gT.row(a:gT w0 B tp L S rs ns rv nv wr v P g){b:Nat}{l:zt}{w':zx}{X:Obj}(t:zb w' B 3 1 l (V rs+1) ((rs.map λb=>iQ (b:Nat))++[iQ (b:Nat)]))(f:World.grownBy (wr.alloc X) w' (za rv))(s:dM (wr.alloc X) rv l):gT w0 B tp L S (rs++[b]) ns l nv w' v P g:=by
 have d:aB wr (wr.alloc X):=aI wr _;have k:=a.tab.below d;have j:=bF a.orv d (zu _);have n:=bF a.onv d (zu _);refine⟨k.grown f (eX j k.box (by decide)) (yS k.row j (by decide)) a.apart,a.rows,a.len,a.pos,a.sts,?_,eW n f ?_,λp o=>?_,?_,?_⟩
 .unfold eQ;simpa using t
 .rcases yS n j (by decide)with e|e
  .exact z8 e
  exact zc e
 .rcases a.apart p o with e|e
  .exact z8 e
  rcases s with i|⟨q,i,r⟩
  .exact zc (by rw[i];exact e)
  refine zc λm=>?_
  rw[i]at m;have:=(bS (a.tab.parts p o) q m).2;simp at r;omega
 .exact a.low.trans ((d.mono a.big).trans (aBx (λb e=>(bS a.orv b e).1) (by simp;have:=a.big;omega) f))
 have:=a.big;exact yr this (yr (by simp) f.size)
theorem gT.sign(a:gT w0 B tp L S rs ns rv nv wr v P g){k:Bool}{m:zt}{i:zx}{j:Obj}(o:zb i B 4 1 m (V ns+1) (ns.map Value.bool++[.bool k]))(d:World.grownBy (wr.alloc j) i (za nv)):gT w0 B tp L S rs (ns++[k]) rv m i v P g:=by
 have b:aB wr (wr.alloc j):=aI wr _;have f:=a.tab.below b;have l:=bF a.orv b (zu _);have e:=bF a.onv b (zu _);refine⟨f.grown d (eX e f.box (by decide)) (yS f.row e (by decide)) (λr p=>yS (f.parts r p) e (by decide)),a.rows,a.len,a.pos,a.sts,eW l d (yS l e (by decide)),?_,a.apart,?_,?_⟩
 .simpa using o
 .exact a.low.trans ((b.mono a.big).trans (aBx (λq n=>(bS a.onv q n).1) (by simp;have:=a.big;omega) d))
 have:=a.big;exact yr this (yr (by simp) d.size)
end
theorem aAj{e:Type}{b:List e}{d:e}{a:Nat}(f:a≠V b):(b++[d]).eraseIdx a=b.eraseIdx a++[d]:=by grind[List.eraseIdx_append_of_lt_length,List.eraseIdx_of_length_le,Nat.lt_or_ge]
theorem aAk{d:Type}{b:List d}{f:d}{a:Nat}(e:a=V b):(b++[f]).eraseIdx a=b.eraseIdx a:=by subst e;grind
structure bHc(P:Tb)(S:List Nat):Prop where
 ok:jY P
 few:V P<=1000000
 pts:∀p∈P,V p.1.parts<=1000000
 short:∀i (h:i<V P),P[i].1.node.1.size<=1000000
 lt:∀r∈S,r<V P
theorem aS2{a:List (Int×Lt)}{b:Tg}(e:b∈aL a):∃d∈a,b.2∈d.2.2:=by grind[aL]
theorem gT.facts{u:Nat}{d:List (Int×Lt)}{r:List Bool}{t s:zt}{P:Tb}{l:Nat->Nat}(a:gT w0 B u d S rs r t s wr v P l)(o:∀g∈d,aP g.2.2 1=U)(x:V (aL d)<=1000000):bHc P S:=by
 have n:∀b∈aL d,dQ b.2=true:=λb j=>by
  grind[aS2,aH1]
 refine⟨a.rows.tabOk rfl λp b e=>?_,by have:=a.len;omega,λp e=>?_,λq i=>?_,λg f=>?_⟩
 .obtain⟨g,f,m⟩:=aS2 (List.mem_of_getElem? e);exact bFt (o g f) _ m
 .obtain⟨q,i,rfl⟩:=yf e;obtain⟨b,j,_,k,y⟩:=a.rows.node rfl i;grind[aK,aIn]
 .obtain⟨b,j,k,_⟩:=a.rows.node rfl i;rw[k];have:=aH0 (n b j);omega
 rw[<-a.sts]at f;obtain⟨p,e,rfl⟩:=List.mem_map.1 f;have:=xX d 0 a.pos p e;have:=a.rows.lt (p:=p) (by omega);simpa using this
theorem gT.start(w0:zx):gT w0 w0.heap.size w0.heap.size [] [] [] [] (nQ) (nQ) (w0.alloc (.cells #[nQ] 142)) (nQ) [] id:=
 ⟨dO.new w0,Rows.start,by simp,by simp,rfl,yu _ _ _ _,yu _ _ _ _,by simp,aI w0 _,by simp⟩
def aJ9(w0:zx)(c:List Lt)(a b:Nat)(j i e:zt)(wr:zx):Prop:=
 ∃(S:List Nat) (v:zt) (P:Tb) (f:Nat->Nat) (d:Nat),e=iQ (d:Nat)/\(a<b->S[a]?=zr d)/\V S=b/\gT w0 w0.heap.size w0.heap.size ((c.take b).map λg=>((0:Int),g)) S (S.eraseIdx a) (((c.take b).map zs).eraseIdx a) j i wr v P f
def aF8(w0:zx)(c j:List Lt)(f d e k:Nat)(o n l:zt)(wr:zx):Prop:=
 ∃(a b:List Nat) (v:zt) (P:Tb) (m:Nat->Nat) (i:Nat),l=iQ (i:Nat)/\a[f]?=zr k/\V a=V c/\(d<e->b[d]?=zr i)/\V b=e/\gT w0 w0.heap.size w0.heap.size ((c.map λg=>((0:Int),g))++(j.take e).map λg=>((1:Int),g)) (a++b) (a.eraseIdx f++b.eraseIdx d) ((c.map zs).eraseIdx f++((j.take e).map zs).eraseIdx d) o n wr v P m
theorem gT.putT{b:Nat}{L0:List (Int×Lt)}{k:Nat}{g:List Bool}{j i:zt}{P:Tb}{n:Nat->Nat}{o up:Int}(p:gT w0 B b (L0++(c.take k).map λa=>(o,a)) S rs g j i wr v P n)(y:k<V c)(r:up=60*o)(s:kB c){f:Nat}{t:List Nd}{m:zx}{l:zt}{d:Tb}(q:oR wr B b v P up c[k].2 f t m l d):∃e,gT w0 B b (L0++(c.take (k+1)).map λa=>(o,a)) (S++[f]) rs g j i m l d e:=by obtain⟨e,u⟩:=p.put (o:=o) (x:=c[k]) r (s.term c[k] (zv _)).1 q;grind[zf,zk]
theorem gT.few{l:Nat}{a:List (Int×Lt)}{i:List Bool}{k j:zt}{P:Tb}{g:Nat->Nat}(d:gT w0 B l a S rs i k j wr v P g)(e:∀b∈a,V b.2.2<=60)(o:V a<=16):V P<=1000:=by
 have f:∀a:List (Int×Lt),(∀b∈a,V b.2.2<=60)->V (aL a)<=60*V a:=by
  intro a;induction a with
  |nil=>intro _;simp[aL]
  |cons b a ih=>
   grind[tR]
 have m:=f a e;have n:=d.len;omega
theorem aJa{i:Option Addr}(u:bU w i c)(g:aB w w0)(F:kB c)(up:Int)(C:0<=up/\up<=1000){k:Nat}(y:k<V c):∃b d e f,i=zr (aQ b d)/\∀wr v P,aB w0 wr->dO wr w0.heap.size w0.heap.size v P->V P<=10000->w0.heap.size<=wr.heap.size->
  cQ wr b (d+k*2) (.bool c[k].1)/\cQ wr b (d+k*2+1) (.slice e c[k].2.length f)/\(∀a,aB w0 a->cQ a b (d+k*2) (.bool c[k].1))/\
  Calls z5 76 #[pQ w0.heap.size,.slice e c[k].2.length f,iQ 0,iQ up] wr λr a=>∃(o E:Nat) (J:zt) (q:Tb) (H:List Nd),r=.returned (.tuple #[iQ (o:Nat),iQ (E:Nat)])/\oR wr w0.heap.size w0.heap.size v P up c[k].2 o H a J q:=by
 obtain⟨b,d,e,f,rfl,s,t,m⟩:=u.cell k y;obtain⟨p,I⟩:=F.term c[k] (zv _);refine⟨b,d,e,f,rfl,λwr v P j A L D=>?_⟩;have l:aB w wr:=g.trans (j.mono g.size);have n:∀a,aB w0 a->cQ a b (d+k*2) (.bool c[k].1):=λa x=>aC (g.trans (x.mono g.size)) s
 refine⟨n wr j,aC l t,n,?_⟩;refine(bB6 w0.heap.size w0.heap.size up C e f c[k].2 I (λG z=>Nat.lt_of_lt_of_le (aAc m p G z) g.size) c[k].2.length 0 0 v P wr (by simp) (by simpa using p) (m.below l (zu _)) A (by simp;omega) D).mono ?_;grind[aO9,aP]
theorem aS3{a:List (Int×Lt)}(d:∀b∈a,V b.2.2<=60):V (aL a)<=60*V a:=by
 induction a with
 |nil=>simp[aL]
 |cons b a ih=>
  grind[tR]
section
variable {D1 D2:List (Int×Lt)}{rd:Int×Lt}{R:List Rw}{g:Nat->Nat}
theorem bHd(b:Rows (aL (D1++rd::D2)) R g)(e:∀a∈D1,aP a.2.2 1=U)(f:∀a∈D2,aP a.2.2 1=U)(i:aP rd.2.2 1=U):Rows (aW rd.1 rd.2.2++aL (D1++D2)) R (λk=>g (eK 0 (V rd.2.2) (V (aL D1)) k)):=by
 have l:dV ((aW rd.1 rd.2.2).map zw):=by rw[vU];exact tD i
 have d:aL (D1++rd::D2)=[]++aL D1++aW rd.1 rd.2.2++aL D2:=by simp[sP,tR]
 rw[d]at b;have m:=b.swap (by intro n o j;simp at j) (tS e) l (tS f);grind[aL,sP,List.length_nil]
theorem bHe(k:∀d∈D1,0<V d.2.2)(l:∀d∈D2,0<V d.2.2):(bO (V rd.2.2) (D1++D2)).map (eK 0 (V rd.2.2) (V (aL D1)))=bO 0 D1++bO (V (aL D1)+V rd.2.2) D2:=by
 rw[wW,zp];have j:∀(a:List (Int×Lt)) (f e:Nat),(∀d∈a,0<V d.2.2)->(∀b,b<V (aL a)->eK 0 (V rd.2.2) (V (aL D1)) (f+b)=e+b)->(bO f a).map (eK 0 (V rd.2.2) (V (aL D1)))=bO e a:=by intro a f e m i;rw[wY a f,wY a e,yn];apply z6;intro b n;have:=xX a 0 m b n;exact i b (by omega)
 rw[j D1 _ 0 k ?_,j D2 _ (V (aL D1)+V rd.2.2) l ?_];all_goals
  intro b i;unfold eK;repeat' split
  all_goals omega
end
theorem bHf{u o:Nat}(D:u<o)(E:o<V c)(t:∀l∈c,aP l.2 1=U){P:Tb}{k:Nat->Nat}(s:Rows (aL (c.map (λi=>((0:Int),i)))) (P.map zs) k)(b3:jY P){S:List Nat}
  (n:(bO 0 (c.map λi=>((0:Int),i))).map k=S) (c8:u<V S) (c9:o<V S)
  {G:List Lt}{H:Bool}{y:Int} (F:tM P S[u] S[o] (S.eraseIdx o) ((c.map zs).eraseIdx o) G H y):fD (aW 0 (c[u]'(yd D E)).2++aW 0 c[o].2) 0 (c[u]'(yd D E)).2.length (bY 0 [(c,o)]) G H y:=by
 obtain⟨c7,f,p,rfl,rfl⟩:=aDx E;obtain⟨g,b,j,rfl,rfl⟩:=aDx D;have a6:(g++b::j++f::p)[(g++b::j).length]=f:=by simp
 have a5:(g++b::j++f::p)[g.length]'(yd D E)=b:=by simp
 rw[a5,a6];have b5:bY 0 [(g++b::j++f::p,V (g++b::j))]=g.map (λi=>((0:Int),i))++((0:Int),b)::(j.map (λi=>((0:Int),i))++p.map (λi=>((0:Int),i))):=by unfold bY bY;simp only;rw[xA];simp
 rw[b5];have L:∀(I:List Lt),(∀l∈I,aP l.2 1=U)->∀a∈I.map (λi=>((0:Int),i)),aP a.2.2 1=true:=λI a9 a hr=>by
  obtain⟨l,q,rfl⟩:=List.mem_map.1 hr;exact a9 l q
 have N:=L g (λl q=>t l (by simp[q]));have Q:=L j (λl q=>t l (by simp[q]));have x:=L p (λl q=>t l (by simp[q]));have W:=t b (by simp);have a4:=t f (by simp);have d1:=lP a4;have d0:=lP W;obtain⟨d,z⟩:∃r,g.map (λi=>((0:Int),i))=r:=⟨_,rfl⟩;obtain⟨e,A⟩:∃r,j.map (λi=>((0:Int),i))=r:=⟨_,rfl⟩;obtain⟨m,J⟩:∃r,p.map (λi=>((0:Int),i))=r:=⟨_,rfl⟩;have M:V d=V g:=by rw[<-z];simp
 have a2:V e=V j:=by rw[<-A];simp
 have c0:g.map zs=d.map λa=>a.2.1:=by rw[<-z];simp
 have c1:j.map zs=e.map λa=>a.2.1:=by rw[<-A];simp
 have c2:p.map zs=m.map λa=>a.2.1:=by rw[<-J];simp
 simp only[zp,yy]at s n F;rw[z]at N s n;rw[A]at Q s n;rw[J]at x s n;rw[z,A,J];rw[c0,c1,c2]at F;have R:∀a∈d++((0:Int),b)::e,aP a.2.2 1=true:=by
  intro a hr;simp only[List.mem_append,List.mem_cons]at hr;rcases hr with hr|rfl|hr
  .exact N a hr
  .exact W
  exact Q a hr
 have b7:V (d++((0:Int),b)::e)=V (g++b::j):=by simp[M,a2]
 have b0:=bHd (rd:=((0:Int),f)) s R x a4;have b4:=bHe (rd:=((0:Int),f)) (λa hr=>lP (R a hr)) (λa hr=>lP (x a hr));have b1:=n;rw[aHd,zp,yy]at n;have a1:V (yb k (bO 0 (d++((0:Int),b)::e)))=V (g++b::j):=by rw[zq,yN,b7]
 have c4:S[(g++b::j).length]=k (0+V (aL (d++((0:Int),b)::e))):=by subst n;rw[yo (by omega)];simp[a1]
 have c3:S[g.length]=k (0+V (aL d)):=by
  have b6:V (yb k (bO 0 d))=V g:=by rw[zq,yN,M]
  have X:=b1;rw[zf,List.cons_append,aHd,zp,yy]at X;subst X;rw[yo (by omega)];simp[b6]
 have a8:S.eraseIdx (V (g++b::j))=yb k (bO 0 (d++((0:Int),b)::e))++yb k (bO (0+V (aL (d++((0:Int),b)::e))+V f.2) m):=by rw[<-n,<-a1];exact xA _ _ _
 have b8:(((d.map λa=>a.2.1)++b.1::e.map λa=>a.2.1)++f.1::m.map λa=>a.2.1).eraseIdx (V (g++b::j))=((d.map λa=>a.2.1)++b.1::e.map λa=>a.2.1)++m.map λa=>a.2.1:=by have:=xA ((d.map λa=>a.2.1)++b.1::e.map λa=>a.2.1) (m.map λa=>a.2.1) f.1;rwa[show V ((d.map λa=>a.2.1)++b.1::e.map λa=>a.2.1)=V (g++b::j) by simp[M,a2]]at this
 rw[c3,c4,a8,b8]at F;have a3:V (aL (d++((0:Int),b)::e))=V (aL d)+(V b.2+V (aL e)):=by simp[sP,tR,aW]
 have C:V (aW 0 f.2)=V f.2:=by simp[aW]
 have b2:fD (aW 0 f.2) (V (aW 0 f.2)+V (aL d)) 0 (d++((0:Int),b)::(e++m)) G H y:=by
  have a7:d++((0:Int),b)::(e++m)=(d++((0:Int),b)::e)++m:=by simp
  rw[a7];refine aK5 b0 rfl b3 (by rw[zn,sP,zn,a3,C];omega) (by rw[zn,C];omega) ?_ ?_
  .intro a hr;rcases List.mem_append.1 hr with hr|hr
   .exact lP (R a hr)
   exact lP (x a hr)
  have c5:eK 0 (V f.2) (V (aL (d++((0:Int),b)::e))) (V (aW 0 f.2)+V (aL d))=0+V (aL d):=by
   rw[C,a3];unfold eK;repeat' split
   all_goals omega
  have c6:eK 0 (V f.2) (V (aL (d++((0:Int),b)::e))) 0=0+V (aL (d++((0:Int),b)::e)):=by
   unfold eK;repeat' split
   all_goals omega
  show tM P (k (eK 0 (V f.2) _ _)) (k (eK 0 (V f.2) _ 0)) _ _ G H y;rw[c5,c6,C];have a0:=congrArg (yb k) b4;rw[yn]at a0;rw[show (λb9=>k (eK 0 (V f.2) (V (aL (d++((0:Int),b)::e))) b9))=k∘eK 0 (V f.2) (V (aL (d++((0:Int),b)::e))) from rfl,a0];simpa using F
 exact bHb (T:=aW 0 f.2) (r:=((0:Int),b)) N (λa hr=>by
  rcases List.mem_append.1 hr with hr|hr
  .exact Q a hr
  exact x a hr) W b2
def aJb(w0:zx)(c:List Lt)(f b a:Nat)(m l g i:zt)(wr:zx):Prop:=
 ∃(S:List Nat) (v:zt) (P:Tb) (j:Nat->Nat) (d e:Nat),g=iQ (d:Nat)/\i=iQ (e:Nat)/\(f<a->S[f]?=zr d)/\(b<a->S[b]?=zr e)/\V S=a/\gT w0 w0.heap.size w0.heap.size ((c.take a).map λk=>((0:Int),k)) S (S.eraseIdx b) (((c.take a).map zs).eraseIdx b) m l wr v P j
def uH(S:List Lt->Bool->Int->Prop)(w:zx)(g:Ending)(d:zx):Prop:=
 ∃b i a f e,g=.returned (.tuple #[.slice b (V a) i,.bool f,iQ e])/\S a f e/\bU d b a/\(V a<=16/\kQ d b a)/\aB w d
theorem uH.none{S:List Lt->Bool->Int->Prop}{b:zx}{a:Int}(d:S [] ze a)(e:aB w b):uH S w (.returned (.tuple #[nQ,.bool ze,iQ a])) b:=
 ⟨xy,0,[],ze,a,rfl,d,aHb _,aHc _,e⟩
theorem aS4(g5 g6:Option Addr)(e1 e2:Nat)(c b:List Lt)(d e:Nat)(w:zx)(z:bU w g5 c)(x:bU w g6 b)(e7:bD c=U/\bD b=U)(c1:d<V c)(c2:e<V b):Calls z5 46 #[.slice g5 (V c) e1,iQ d,.slice g6 (V b) e2,iQ e] w λn j=>uH (jA c b d e) w n j:=by
 have f8:=O (aHl g5 e1 c w z e7.1);have f9:=O (λwx (Q:aB w wx)=>aHl g6 e2 b wx (x.below Q (zu _)) e7.2);have i2:=O z;have i3:=O x;have b9:=O e7;clear z x e7;have n8:(d:Int)<(V c:Int):=by omega
 have o0:(e:Int)<(V b:Int):=by omega
 have n9:(0:Int)<=(d:Int):=by omega
 have o1:(0:Int)<=(e:Int):=by omega
 have o3:decide ((d:Int)<0)=false:=by simp
 have o5:decide ((e:Int)<0)=false:=by simp
 have o4:decide (V c<=d)=false:=by simp;omega
 have o6:decide (V b<=e)=false:=by simp;omega
 obtain⟨i6,k0,n2,n3,rfl,J,_,_⟩:=i2.o.cell d c1;obtain⟨i7,k1,n4,n5,rfl,e5,_,_⟩:=i3.o.cell e c2;by_cases c3:c[d].1=b[e].1
 .have k5:aE (jA c b d e [] ze 6):=O (zc ⟨b9.o.1,b9.o.2,z8 ⟨λ⟨k7,l1,o8,o9,p0,p1,m7⟩=>by
   obtain rfl:d=k7:=by omega
   obtain rfl:e=l1:=by omega
   exact m7 c3,rfl,rfl,rfl⟩⟩)
  rw[c3]at J;clear c3;go_enter Tryz.func46,Tryz.ntmps46;go_upto_region 5 with(first
   |(go_at_call_of 75 (yi (some (aQ i6 k0)) (V c) e1);refine(aD f8).mono ?_;rintro n n1 ⟨rfl,a8⟩;have b7:=O a8;have e8:=a8.size;clear a8)
   |(go_at_call_of 75 (yi (some (aQ i7 k1)) (V b) e2);refine(aD f9 _ b7.o).mono ?_;rintro n f6 ⟨rfl,N⟩;have W:=O (b7.o.trans (N.mono e8));clear N))
  have e3:=aC W.o J;have i8:=aC W.o e5;go_quiet (fail);go_wp2;go_returns;exact uH.none k5.o (bE W.o (aN ⟨_,rfl⟩))
 have e9:(c[d].1==b[e].1)=false:=by simpa using c3
 obtain⟨n6,h2⟩:∃k,c[d].1=k:=⟨_,rfl⟩;obtain⟨n7,h4⟩:∃k,b[e].1=k:=⟨_,rfl⟩;rw[h2]at J;rw[h4]at e5;rw[h2,h4]at e9;have k6:=O c3;clear h2 h4 c3;go_enter Tryz.func46,Tryz.ntmps46;go_upto_region 5 with(first
  |(go_at_call_of 75 (yi (some (aQ i6 k0)) (V c) e1);refine(aD f8).mono ?_;rintro n n1 ⟨rfl,a8⟩;have b7:=O a8;have e8:=a8.size;clear a8)
  |(go_at_call_of 75 (yi (some (aQ i7 k1)) (V b) e2);refine(aD f9 _ b7.o).mono ?_;rintro n f6 ⟨rfl,N⟩;have W:=O (b7.o.trans (N.mono e8));clear N))
 have e3:=aC W.o J;have i8:=aC W.o e5;go_quiet (fail);have h3:aB w (f6.drewN nq):=bE W.o (aN (w1:=f6.drewN nq) ⟨nq,rfl⟩);generalize f6.drewN nq=w0 at *;have g1:=O h3;have m0:=h3.size;clear J e5 e3 i8 h3 e9 f8 f9 b7 W e8;have f2:=mB b9.o.1;have f3:=mB b9.o.2;have g2:=O f2;have g3:=O f3;have o2:=f2.len;have o7:=f3.len;have g4:aE (∀a g,g∈(c.take a).map (λy=>((0:Int),y))->aP g.2.2 1=U/\V g.2.2<=60):=O λa g hr=>by
  obtain⟨k,Q,rfl⟩:=List.mem_map.1 hr;exact f2.term k (ys Q)
 have i5:aE (∀a g,g∈(b.take a).map (λy=>((1:Int),y))->aP g.2.2 1=U/\V g.2.2<=60):=O λa g hr=>by
  obtain⟨k,Q,rfl⟩:=List.mem_map.1 hr;exact f3.term k (ys Q)
 clear f2 f3;go_wp2;go_loopw[14,15,16,18] (λi0 h8 l0 b4 wr=>∃a:Nat,b4=iQ a/\a<=V c/\aJ9 w0 c d a i0 h8 l0 wr) (λ_ _ _ b4 _=>V c-(intOf b4).toNat);exact⟨0,rfl,zh _,[],_,_,_,0,rfl,λg8=>absurd g8 (yw _),rfl,gT.start w0⟩;obtain⟨a,rfl,j3,S,v,P,i9,E,rfl,A,I,i⟩:=hrel;by_cases X:a<V c
 .obtain⟨l2,m6,k8,k9,d0,b2⟩:=aJa i2.o g1.o g2.o 0 (by omega) X;simp at d0;obtain⟨rfl,rfl⟩:=d0;have c9:V P<=1000:=i.few (λg hr=>(g4.o a g hr).2) (by rw[zq,zg];omega);obtain⟨J,e3,a6,a0⟩:=b2 wr v P i.low i.tab (by omega) i.big;have l7:(a:Int)<(V c:Int):=by omega
  obtain⟨k2,k3,rfl⟩:=i.orv.shape;obtain⟨j8,j9,rfl⟩:=aZ i.onv;have f1:V (S.eraseIdx d)<=16:=by have:=zm S d;omega
  have f0:V (((c.take a).map zs).eraseIdx d)<=16:=by have:=zm ((c.take a).map zs) d;rw[zq,zg]at this;omega
  have H:=O (λ(f:Nat) (m:zt) (l:Tb) (R:List Nd) (j:zx) (hr:oR wr w0.heap.size w0.heap.size v P 0 c[a].2 f R j m l)=>gT.putT (L0:=[]) (o:=0) (up:=0) (c:=c) (k:=a) i X rfl g2.o hr);simp only[List.nil_append]at H;have c5:=O a0;have a2:=O a6;have b3:(c.take (a+1)).map zs=(c.take a).map zs++[c[a].1]:=by rw[zk X,zp];rfl
  have a3:=O b3;have u:=O I;obtain⟨g7,a9⟩:∃k,c[a].1=k:=⟨_,rfl⟩;rw[a9]at J a2 a3;have b0:V ((c.take a).map zs)=a:=by rw[zq,zg];omega
  have c6:=O b0;by_cases d4:a=d
  .subst d4;have e0:=O (λ(f:Nat) (m:zt) (l:Tb) (R:List Nd) (j:zx) (hr:oR wr w0.heap.size w0.heap.size v P 0 c[a].2 f R j m l)=>(show aJ9 w0 c a (a+1) _ _ (iQ (f:Nat)) j from by
    obtain⟨L,a7⟩:=H.o f m l R j hr;refine⟨S++[f],m,l,L,f,rfl,λ_=>?_,by simp;exact u.o,?_⟩
    .have:=u.o;simp[<-this]
    rw[a3.o,aAk u.o.symm,aAk c6.o.symm];exact a7))
   clear a0 a6 b3 I a9 b0 A i b2 H c9;generalize V (S.eraseIdx a)=rl at *;generalize V (((c.take a).map zs).eraseIdx a)=nl at *;go_wp2_with(first
    |(go_at_call 76;refine(aD c5).mono ?_;rintro n G ⟨f,h6,b6,a4,b5,rfl,F⟩;have a1:=O (e0.o f b6 a4 b5 G F);clear F)
    |go_in)
   exact⟨⟨a+1,by go_num,by omega,a1.o⟩,by simp[intOf];omega⟩
  obtain⟨h9,q⟩:∃k,S.eraseIdx d=k:=⟨_,rfl⟩;obtain⟨h7,p⟩:∃k,((c.take a).map zs).eraseIdx d=k:=⟨_,rfl⟩;have b8:=O (λ(f:Nat) (m:zt) (l:Tb) (L:Nat->Nat) (d9 d7:zt) (j:zx) (a7:gT w0 w0.heap.size w0.heap.size ((c.take (a+1)).map λy=>((0:Int),y)) (S++[f]) (h9++[f]) (h7++[g7]) d9 d7 j m l L)=>(show aJ9 w0 c d (a+1) d9 d7 (iQ (E:Nat)) j from by
   refine⟨S++[f],m,l,L,E,rfl,λl8=>?_,by simp;exact u.o,?_⟩
   .have z:=A (by omega);have x:=u.o;rw[zd (by omega)];exact z
   rw[a3.o,aAj (by rw[u.o];omega),aAj (by rw[c6.o];omega),q,p];exact a7))
  have e9:((a:Int)==(d:Int))=false:=by simp;omega
  rw[q,p]at H;rw[q]at f1;rw[p]at f0;rw[q,p];clear a0 a6 b3 I a9 b0 A i b2 c9 d4 q p;go_wp2_with(first
   |(at_builtin;refine aBe rfl (.tmp 87) (.tmp 89) rfl w0.heap.size _ _ _ rfl (c7.o.orv.alloc _) (by omega) (by simp;omega) G.heap.size 1 (f:Nat) rfl (by simp) ?_;intro n0 c4 b1 d2 d5;have s:=c7.o.row b1 d2 d5;have l5:=a2.o c4 s.low;have m2:=s.big;obtain⟨m8,m9,rfl⟩:=aZ b1;have c8:=O s;clear b1 d2 d5 s)
   |(at_builtin;refine eU aCa yv (c8.o.onv.alloc _) ?_;intro m5 i1 d6 d3 _;have a1:=O (b8.o f _ _ _ _ _ i1 (c8.o.sign d6 d3));clear d6 d3)
   |(go_at_call 76;refine(aD c5).mono ?_;rintro n G ⟨f,h6,b6,a4,b5,rfl,F⟩;obtain⟨l6,r⟩:=H.o f b6 a4 b5 G F;have l4:=a2.o G r.low;have m1:=r.big;have c7:=O r;clear F r)
   |go_in)
  exact⟨⟨a+1,by go_num,by omega,a1.o⟩,by simp[intOf];omega⟩
 obtain rfl:a=V c:=by omega
 have t:=i;rw[zi]at t;have i4:aE (aF8 w0 c b d e 0 E _ _ (iQ 0) wr):=O ⟨S,[],v,P,i9,0,rfl,A c1,I,λg8=>absurd g8 (yw _),rfl,by simpa using t⟩;clear i t A I X j3;go_wp2;go_loopw[14,15,17,21] (λi0 h8 l3 b4 wr=>∃a:Nat,b4=iQ a/\a<=V b/\aF8 w0 c b d e a E i0 h8 l3 wr) (λ_ _ _ b4 _=>V b-(intOf b4).toNat);exact⟨0,rfl,zh _,i4.o⟩;clear i4;obtain⟨a,rfl,j3,C,D,v,P,i9,a5,rfl,A,c0,d1,I,i⟩:=hrel;by_cases X:a<V b
 .obtain⟨l2,m6,k8,k9,d0,b2⟩:=aJa i3.o g1.o g3.o 60 (by omega) X;simp at d0;obtain⟨rfl,rfl⟩:=d0;have c9:V P<=1000:=i.few (λg hr=>by
   rcases List.mem_append.1 hr with hr|hr
   .have:=g4.o (V c) g (by rw[zi];exact hr);exact this.2
   exact(i5.o a g hr).2) (by rw[zn,zq,zq,zg];omega)
  obtain⟨J,e3,a6,a0⟩:=b2 wr v P i.low i.tab (by omega) i.big;have l7:(a:Int)<(V b:Int):=by omega
  obtain⟨k2,k3,rfl⟩:=i.orv.shape;obtain⟨j8,j9,rfl⟩:=aZ i.onv;have f1:V (C.eraseIdx d++D.eraseIdx e)<=16:=by have z:=zm C d;have x:=zm D e;rw[zn];omega
  have f0:V ((c.map zs).eraseIdx d++((b.take a).map zs).eraseIdx e)<=16:=by have z:=zm (c.map zs) d;have x:=zm ((b.take a).map zs) e;rw[zq]at z;rw[zq,zg]at x;rw[zn];omega
  have H:=O (λ(f:Nat) (m:zt) (l:Tb) (R:List Nd) (j:zx) (hr:oR wr w0.heap.size w0.heap.size v P 60 b[a].2 f R j m l)=>gT.putT (o:=1) (up:=60) (c:=b) (k:=a) i X rfl g3.o hr);have c5:=O a0;have a2:=O a6;have b3:(b.take (a+1)).map zs=(b.take a).map zs++[b[a].1]:=by rw[zk X,zp];rfl
  have a3:=O b3;have u:=O I;obtain⟨g7,a9⟩:∃k,b[a].1=k:=⟨_,rfl⟩;rw[a9]at J a2 a3;have b0:V ((b.take a).map zs)=a:=by rw[zq,zg];omega
  have c6:=O b0;obtain⟨h9,q⟩:∃k,C.eraseIdx d++D.eraseIdx e=k:=⟨_,rfl⟩;obtain⟨h7,p⟩:∃k,(c.map zs).eraseIdx d++((b.take a).map zs).eraseIdx e=k:=⟨_,rfl⟩;by_cases d4:a=e
  .subst d4;have e0:=O (λ(f:Nat) (m:zt) (l:Tb) (R:List Nd) (j:zx) (hr:oR wr w0.heap.size w0.heap.size v P 60 b[a].2 f R j m l)=>(show aF8 w0 c b d a (a+1) E _ _ (iQ (f:Nat)) j from by
    obtain⟨L,a7⟩:=H.o f m l R j hr;refine⟨C,D++[f],m,l,L,f,rfl,A,c0,λ_=>?_,by simp;exact u.o,?_⟩
    .have:=u.o;simp[<-this]
    rw[a3.o,aAk u.o.symm,aAk c6.o.symm,<-zf];exact a7))
   rw[q,p]at e0;rw[q]at f1;rw[p]at f0;rw[q,p];clear a0 a6 b3 I a9 b0 d1 i b2 H c9 q p A c0;go_wp2_with(first
    |(go_at_call 76;refine(aD c5).mono ?_;rintro n G ⟨f,h6,b6,a4,b5,rfl,F⟩;have a1:=O (e0.o f b6 a4 b5 G F);clear F)
    |go_in)
   exact⟨⟨a+1,by go_num,by omega,a1.o⟩,by simp[intOf];omega⟩
  have b8:=O (λ(f:Nat) (m:zt) (l:Tb) (L:Nat->Nat) (d9 d7:zt) (j:zx) (a7:gT w0 w0.heap.size w0.heap.size ((c.map λy=>((0:Int),y))++(b.take (a+1)).map λy=>((1:Int),y)) (C++D++[f]) (h9++[f]) (h7++[g7]) d9 d7 j m l L)=>(show aF8 w0 c b d e (a+1) E d9 d7 (iQ (a5:Nat)) j from by
   refine⟨C,D++[f],m,l,L,a5,rfl,A,c0,λl8=>?_,by simp;exact u.o,?_⟩
   .have z:=d1 (by omega);have x:=u.o;rw[zd (by omega)];exact z
   rw[a3.o,aAj (by rw[u.o];omega),aAj (by rw[c6.o];omega),<-zf,<-zf,<-zf,q,p];exact a7))
  have e9:((a:Int)==(e:Int))=false:=by simp;omega
  rw[q,p]at H;rw[q]at f1;rw[p]at f0;rw[q,p];clear a0 a6 b3 I a9 b0 d1 i b2 c9 d4 q p A c0;go_wp2_with(first
   |(at_builtin;refine aBe rfl (.tmp 119) (.tmp 121) rfl w0.heap.size _ _ _ rfl (c7.o.orv.alloc _) (by omega) (by simp;omega) G.heap.size 1 (f:Nat) rfl (by simp) ?_;intro n0 c4 b1 d2 d5;have s:=c7.o.row b1 d2 d5;have l5:=a2.o c4 s.low;have m2:=s.big;obtain⟨m8,m9,rfl⟩:=aZ b1;have c8:=O s;clear b1 d2 d5 s)
   |(at_builtin;refine eU aCa yv (c8.o.onv.alloc _) ?_;intro m5 i1 d6 d3 _;have a1:=O (b8.o f _ _ _ _ _ i1 (c8.o.sign d6 d3));clear d6 d3)
   |(go_at_call 76;refine(aD c5).mono ?_;rintro n G ⟨f,h6,b6,a4,b5,rfl,F⟩;obtain⟨l6,r⟩:=H.o f b6 a4 b5 G F;have l4:=a2.o G r.low;have m1:=r.big;have c7:=O r;clear F r)
   |go_in)
  exact⟨⟨a+1,by go_num,by omega,a1.o⟩,by simp[intOf];omega⟩
 obtain rfl:a=V b:=by omega
 have t:=i;rw[zi]at t;have h5:∀g∈(c.map λy=>((0:Int),y))++(b.map λy=>((1:Int),y)),aP g.2.2 1=U/\V g.2.2<=60:=λg hr=>by
  rcases List.mem_append.1 hr with hr|hr
  .exact g4.o (V c) g (by rw[zi];exact hr)
  exact i5.o (V b) g (by rw[zi];exact hr)
 have j2:=aS3 (λg hr=>(h5 g hr).2);rw[zn,zq,zq]at j2;have M:=t.facts (λg hr=>(h5 g hr).1) (by omega);have g9:d<V C:=by omega
 have N:e<V D:=by omega
 have h0:C[d]=E:=by have:=A;rw[zo g9]at this;simpa using this
 have h1:D[e]=a5:=by have:=d1 c2;rw[zo N]at this;simpa using this
 have j0:E<V P:=M.lt E (by rw[<-h0];exact yh _ (zv _));have j1:a5<V P:=M.lt a5 (by rw[<-h1];exact yj _ (zv _));have j4:V (C.eraseIdx d++D.eraseIdx e)=V c-1+(V b-1):=by rw[zn,zj g9,zj N];omega
 have j5:V ((c.map zs).eraseIdx d++(b.map zs).eraseIdx e)=V c-1+(V b-1):=by rw[zn,zj (by simpa using c1),zj (by simpa using c2)];simp
 have g0:=O (aOd w0.heap.size w0.heap.size v P E a5 _ _ _ _ wr t.tab M.ok M.few M.pts M.short j0 j1 t.orv t.onv (by rw[j4,j5]) (by omega) (λg hr=>M.lt g (by
  rcases List.mem_append.1 hr with hr|hr
  .exact yh _ (yx hr)
  exact yj _ (yx hr))) t.big)
 have b8:aE (∀n j,aDw P E a5 (C.eraseIdx d++D.eraseIdx e) ((c.map zs).eraseIdx d++(b.map zs).eraseIdx e) w0.heap.size wr n j->uH (jA c b d e) w n j):=O λn j ⟨f4,f5,d8,f7,e4,z,x,r,s,e6⟩=>by
  have j7:=t.sts;rw[wW,zp,Nat.zero_add]at j7;obtain⟨m3,m4⟩:=List.append_inj j7 (by rw[zq,yN,zq];exact c0.symm);refine⟨f4,f5,d8,f7,e4,z,zc ⟨b9.o.1,b9.o.2,zc ⟨d,e,⟨c1,c2,rfl,rfl,k6.o⟩,?_⟩⟩,r,s,g1.o.trans (((t.low.trans e6)).mono m0)⟩;have:=bBb c1 c2 (λk Q=>(g2.o.term k Q).1) (λk Q=>(g3.o.term k Q).1) t.rows M.ok m3 m4 g9 N (by rw[h0,h1];exact x);simpa[c1,c2]using this
 obtain⟨k2,k3,rfl⟩:=i.orv.shape;obtain⟨j8,j9,rfl⟩:=aZ i.onv;rw[zi]at g0 ⊢;clear i t M j2 h5 A d1 c0 I h0 h1 j4 j5 j0 j1;generalize V (C.eraseIdx d++D.eraseIdx e)=rl at *;generalize V ((c.map zs).eraseIdx d++(b.map zs).eraseIdx e)=nl at *;go_wp2_with(first
  |(go_at_call 77;refine(aD g0).mono ?_)
  |go_in)
 intro n c4 j6;have l9:=b8.o n c4 j6;obtain⟨f4,f5,d8,f7,e4,rfl,x,r,s,e6⟩:=l9;have k4:aE (uH (jA c b d e) w (.returned (.tuple #[.slice f4 (V d8) f5,.bool f7,iQ e4])) c4):=O ⟨f4,f5,d8,f7,e4,rfl,x,r,s,e6⟩;clear j6 x r s e6 g0 b8;generalize V d8=ol at *;go_wp2;go_returns;exact k4.o
theorem aS5(e2:Option Addr)(g3:Nat)(c:List Lt)(e d:Nat)(w:zx)(C:bU w e2 c)(e7:bD c=U)(g7:e<d)(H:d<V c):Calls z5 45 #[.slice e2 (V c) g3,iQ e,iQ d] w λn m=>uH (kL c e d) w n m:=by
 have d3:=O (aHl e2 g3 c w C e7);have d5:=O C;have d9:=O e7;have m9:decide ((e:Int)<0)=false:=by simp
 clear C e7;have c3:e<V c:=by omega
 have m4:(e:Int)<(V c:Int):=by omega
 have m6:(d:Int)<(V c:Int):=by omega
 have m5:(0:Int)<=(e:Int):=by omega
 have m7:(0:Int)<=(d:Int):=by omega
 have n0:decide (d<=e)=false:=by simp;omega
 have n1:decide (V c<=d)=false:=by simp;omega
 obtain⟨l8,n7,l4,l6,rfl,x,_,_⟩:=d5.o.cell e c3;obtain⟨m0,n9,m1,m2,h2,a4,_,_⟩:=d5.o.cell d H;simp at h2;obtain⟨rfl,rfl⟩:=h2;by_cases F:c[e].1=c[d].1
 .have i3:=O F;rw[F]at x;obtain⟨g4,J⟩:∃f,c[d].1=f:=⟨_,rfl⟩;rw[J]at x a4;clear J F;go_enter Tryz.func45,Tryz.ntmps45;go_upto_region 4 with(go_at_call 75;refine(aD d3).mono ?_;rintro n f8 ⟨rfl,a7⟩;have b8:=O a7;clear a7);have e4:=aC b8.o x;have g5:=aC b8.o a4;go_quiet (fail);have f3:aB w (f8.drewN nq):=bE b8.o (aN (w1:=f8.drewN nq) ⟨nq,rfl⟩);generalize f8.drewN nq=w0 at *;have g0:=O f3;have j8:=f3.size;clear x a4 e4 g5 f3 d3 b8;have c8:=mB d9.o;have e0:=O c8;have m8:=c8.len;have g2:aE (∀a g,g∈(c.take a).map (λb3=>((0:Int),b3))->aP g.2.2 1=U/\V g.2.2<=60):=O λa g i=>by
   obtain⟨f,b2,rfl⟩:=List.mem_map.1 i;exact c8.term f (ys b2)
  clear c8;go_wp2;go_loopw[11,12,13,14,15] (λl2 k4 i5 i7 f7 wr=>∃a:Nat,f7=iQ a/\a<=V c/\aJb w0 c e d a l2 k4 i5 i7 wr) (λ_ _ _ _ f7 _=>V c-(intOf f7).toNat);exact⟨0,rfl,zh _,[],_,_,_,0,0,rfl,rfl,λe5=>absurd e5 (yw _),λe5=>absurd e5 (yw _),rfl,gT.start w0⟩;obtain⟨a,rfl,n2,S,v,P,m3,p,u,rfl,rfl,D,I,a6,l⟩:=hrel;by_cases f5:a<V c
  .obtain⟨l9,n8,l5,l7,g9,c6⟩:=aJa d5.o g0.o e0.o 0 (by omega) f5;simp at g9;obtain⟨rfl,rfl⟩:=g9;have e8:V P<=1000:=l.few (λg i=>(g2.o a g i).2) (by rw[zq,zg];omega);obtain⟨x,e4,b9,b7⟩:=c6 wr v P l.low l.tab (by omega) l.big;have n3:(a:Int)<(V c:Int):=by omega
   obtain⟨k7,l0,rfl⟩:=l.orv.shape;obtain⟨k1,k2,rfl⟩:=aZ l.onv;have j7:V (S.eraseIdx d)<=16:=by have:=zm S d;omega
   have j5:V (((c.take a).map zs).eraseIdx d)<=16:=by have:=zm ((c.take a).map zs) d;rw[zq,zg]at this;omega
   have G:=O (λ(b:Nat) (z:zt) (t:Tb) (d1:List Nd) (m:zx) (i:oR wr w0.heap.size w0.heap.size v P 0 c[a].2 b d1 m z t)=>gT.putT (L0:=[]) (o:=0) (up:=0) (c:=c) (k:=a) l f5 rfl e0.o i);simp only[List.nil_append]at G;have d8:=O b7;have W:=O b9;have c7:(c.take (a+1)).map zs=(c.take a).map zs++[c[a].1]:=by rw[zk f5,zp];rfl
   have e1:=O c7;have A:=O a6;obtain⟨i9,c4⟩:∃f,c[a].1=f:=⟨_,rfl⟩;rw[c4]at x W e1;have c5:V ((c.take a).map zs)=a:=by rw[zq,zg];omega
   have g1:=O c5;have a0:aE (∀(N:Nat) (f b:Nat),N≠a->(N<a->S[N]?=zr f)->N<a+1->(S++[b])[N]?=zr f):=O λN f b n4 b2 n5=>by
    have C:=b2 (by omega);have a5:=A.o;rw[zd (by omega)];exact C
   by_cases f4:a=d
   .subst f4;have j4:((a:Int)==(e:Int))=false:=by simp;omega
    have i1:=O (λ(b:Nat) (z:zt) (t:Tb) (d1:List Nd) (m:zx) (i:oR wr w0.heap.size w0.heap.size v P 0 c[a].2 b d1 m z t)=>(show aJb w0 c e a (a+1) _ _ (iQ (p:Nat)) (iQ (b:Nat)) m from by
     obtain⟨c1,e6⟩:=G.o b z t d1 m i;refine⟨S++[b],z,t,c1,p,b,rfl,rfl,a0.o e p b (by omega) D,λ_=>?_,by simp;exact A.o,?_⟩
     .have:=A.o;simp[<-this]
     rw[e1.o,aAk A.o.symm,aAk g1.o.symm];exact e6))
    clear b7 b9 c7 a6 c4 c5 D I l c6 G e8;generalize V (S.eraseIdx a)=rl at *;generalize V (((c.take a).map zs).eraseIdx a)=nl at *;go_wp2_with(first
     |(go_at_call 76;refine(aD d8).mono ?_;rintro n s ⟨b,h7,b6,a3,b5,rfl,y⟩;have R:=O (i1.o b b6 a3 b5 s y);clear y)
     |go_in)
    exact⟨⟨a+1,by go_num,by omega,R.o⟩,by simp[intOf];omega⟩
   obtain⟨l1,M⟩:∃f,S.eraseIdx d=f:=⟨_,rfl⟩;obtain⟨k3,L⟩:∃f,((c.take a).map zs).eraseIdx d=f:=⟨_,rfl⟩;have X:=O (λ(b e3:Nat) (z:zt) (t:Tb) (c1:Nat->Nat) (h9 h8:zt) (m:zx) (j3:e<a+1->(S++[b])[e]?=zr e3) (e6:gT w0 w0.heap.size w0.heap.size ((c.take (a+1)).map λb3=>((0:Int),b3)) (S++[b]) (l1++[b]) (k3++[i9]) h9 h8 m z t c1)=>(show aJb w0 c e d (a+1) h9 h8 (iQ (e3:Nat)) (iQ (u:Nat)) m from by
    refine⟨S++[b],z,t,c1,e3,u,rfl,rfl,j3,a0.o d u b (by omega) I,by simp;exact A.o,?_⟩;rw[e1.o,aAj (by rw[A.o];omega),aAj (by rw[g1.o];omega),M,L];exact e6))
   have j4:((a:Int)==(d:Int))=false:=by simp;omega
   rw[M,L]at G;rw[M]at j7;rw[L]at j5;rw[M,L];by_cases h3:a=e
   .subst h3;have d6:aE (∀b:Nat,a<a+1->(S++[b])[a]?=zr b):=O λb _=>by
     have:=A.o;simp[<-this]
    clear b7 b9 c7 a6 c4 c5 D I l c6 e8 f4 M L a0;go_wp2_with(first
     |(at_builtin;refine aBe rfl (.tmp 74) (.tmp 76) rfl w0.heap.size _ _ _ rfl (a1.o.orv.alloc _) (by omega) (by simp;omega) s.heap.size 1 (b:Nat) rfl (by simp) ?_;intro l3 Q E a8 b0;have k:=a1.o.row E a8 b0;have j1:=W.o Q k.low;have k0:=k.big;obtain⟨k8,k9,rfl⟩:=aZ E;have a2:=O k;clear E a8 b0 k)
     |(at_builtin;refine eU aCa yv (a2.o.onv.alloc _) ?_;intro k5 f9 b1 a9 _;have R:=O (X.o b b _ _ _ _ _ f9 (d6.o b) (a2.o.sign b1 a9));clear b1 a9)
     |(go_at_call 76;refine(aD d8).mono ?_;rintro n s ⟨b,h7,b6,a3,b5,rfl,y⟩;obtain⟨j2,j⟩:=G.o b b6 a3 b5 s y;have j0:=W.o s j.low;have j9:=j.big;have a1:=O j;clear y j)
     |go_in)
    exact⟨⟨a+1,by go_num,by omega,R.o⟩,by simp[intOf];omega⟩
   have n6:((a:Int)==(e:Int))=false:=by simp;omega
   have d6:aE (∀b:Nat,e<a+1->(S++[b])[e]?=zr p):=O λb=>a0.o e p b (by omega) D
   clear b7 b9 c7 a6 c4 c5 D I l c6 e8 f4 h3 M L a0;go_wp2_with(first
    |(at_builtin;refine aBe rfl (.tmp 74) (.tmp 76) rfl w0.heap.size _ _ _ rfl (a1.o.orv.alloc _) (by omega) (by simp;omega) s.heap.size 1 (b:Nat) rfl (by simp) ?_;intro l3 Q E a8 b0;have k:=a1.o.row E a8 b0;have j1:=W.o Q k.low;have k0:=k.big;obtain⟨k8,k9,rfl⟩:=aZ E;have a2:=O k;clear E a8 b0 k)
    |(at_builtin;refine eU aCa yv (a2.o.onv.alloc _) ?_;intro k5 f9 b1 a9 _;have R:=O (X.o b p _ _ _ _ _ f9 (d6.o b) (a2.o.sign b1 a9));clear b1 a9)
    |(go_at_call 76;refine(aD d8).mono ?_;rintro n s ⟨b,h7,b6,a3,b5,rfl,y⟩;obtain⟨j2,j⟩:=G.o b b6 a3 b5 s y;have j0:=W.o s j.low;have j9:=j.big;have a1:=O j;clear y j)
    |go_in)
   exact⟨⟨a+1,by go_num,by omega,R.o⟩,by simp[intOf];omega⟩
  obtain rfl:a=V c:=by omega
  have q:=l;rw[zi]at q;have f6:∀g∈c.map λb3=>((0:Int),b3),aP g.2.2 1=U/\V g.2.2<=60:=λg i=>g2.o (V c) g (by rw[zi];exact i)
  have h1:=aS3 (λg i=>(f6 g i).2);rw[zq]at h1;have r:=q.facts (λg i=>(f6 g i).1) (by omega);have g6:e<V S:=by omega
  have f0:d<V S:=by omega
  have e9:S[e]=p:=by have:=D c3;rw[zo g6]at this;simpa using this
  have f1:S[d]=u:=by have:=I H;rw[zo f0]at this;simpa using this
  have g8:p<V P:=r.lt p (by rw[<-e9];exact zv _);have h0:u<V P:=r.lt u (by rw[<-f1];exact zv _);have h4:V (S.eraseIdx d)=V c-1:=by rw[zj f0];omega
  have h5:V ((c.map zs).eraseIdx d)=V c-1:=by rw[zj (by simpa using H)];simp
  have d4:=O (aOd w0.heap.size w0.heap.size v P p u _ _ _ _ wr q.tab r.ok r.few r.pts r.short g8 h0 q.orv q.onv (by rw[h4,h5]) (by omega) (λg i=>r.lt g (yx i)) q.big);have X:aE (∀n m,aDw P p u (S.eraseIdx d) ((c.map zs).eraseIdx d) w0.heap.size wr n m->uH (kL c e d) w n m):=O λn m ⟨c9,d0,b4,d2,c0,C,a5,j,k,c2⟩=>by
   refine⟨c9,d0,b4,d2,c0,C,zc ⟨d9.o,zc ⟨e,d,⟨c3,H,rfl,rfl,g7,i3.o⟩,?_⟩⟩,j,k,g0.o.trans (((q.low.trans c2)).mono j8)⟩;have:=bHf g7 H (λf b2=>(e0.o.term f b2).1) q.rows r.ok q.sts g6 f0 (by rw[e9,f1];exact a5);simpa[c3,H]using this
  obtain⟨k7,l0,rfl⟩:=l.orv.shape;obtain⟨k1,k2,rfl⟩:=aZ l.onv;rw[zi]at d4 ⊢;clear l q r h1 f6 D I a6 e9 f1 h4 h5 g8 h0;generalize V (S.eraseIdx d)=rl at *;generalize V ((c.map zs).eraseIdx d)=nl at *;go_wp2_with(first
   |(go_at_call 77;refine(aD d4).mono ?_)
   |go_in)
  intro n Q h6;have j6:=X.o n Q h6;obtain⟨c9,d0,b4,d2,c0,rfl,a5,j,k,c2⟩:=j6;have i0:aE (uH (kL c e d) w (.returned (.tuple #[.slice c9 (V b4) d0,.bool d2,iQ c0])) Q):=O ⟨c9,d0,b4,d2,c0,rfl,a5,j,k,c2⟩;clear h6 a5 j k c2 d4 X;generalize V b4=ol at *;go_wp2;go_returns;exact i0.o
 have i2:aE (kL c e d [] ze 6):=O (zc ⟨d9.o,z8 ⟨λ⟨i4,i6,o0,o1,o2,o3,o4,k6⟩=>by
  obtain rfl:e=i4:=by omega
  obtain rfl:d=i6:=by omega
  exact F k6,rfl,rfl,rfl⟩⟩)
 obtain⟨i8,f2⟩:∃f,c[e].1=f:=⟨_,rfl⟩;obtain⟨g4,J⟩:∃f,c[d].1=f:=⟨_,rfl⟩;rw[f2]at x;rw[J]at a4;rw[f2,J]at F;clear f2 J;cases i8<;>cases g4<;>first|exact absurd rfl F|clear F
 all_goals
  go_enter Tryz.func45,Tryz.ntmps45;go_upto_region 4 with(go_at_call 75;refine(aD d3).mono ?_;rintro n o5 ⟨rfl,a7⟩;have d7:=O a7;clear a7);have e4:=aC d7.o x;have g5:=aC d7.o a4;go_quiet (fail);go_wp2;go_returns;exact uH.none i2.o (bE d7.o (aN ⟨_,rfl⟩))
structure qF(w:zx)(ad:Option Addr)(K:List (List Lt)):Prop where
 few:V K<=1000
 cell:∀k (h:k<V K),∃g a cp,ad=zr (aQ g 0)/\yz w (aQ g k)=zr (.slice a K[k].length cp)/\bU w a K[k]/\kQ w a K[k]
theorem qF.below{w1:zx}{a:Option Addr}(b:qF w a K)(k:aB w w1):qF w1 a K:=
 ⟨b.few,λn m=>by
  obtain⟨g,f,i,e,j,d,l⟩:=b.cell n m;exact⟨g,f,i,e,aC k j,d.below k (zu _),l.below d k (zu _)⟩⟩
noncomputable def mM(K:List (List Lt))(c:List Lt):Bool:=dU c || K.any λa=>bL a c
theorem bHg{a:Nat}(b:a<V K)(d:bL K[a] c=U):mM K c=true:=by grind[mM,List.any_eq_true,zv]
theorem bHh(d:dU c=ze)(b:∀a (b:a<V K),bL K[a] c=ze):mM K c=false:=by grind[mM,List.any_eq_false,yf]
theorem aS6(M:Option Addr)(a3:Nat)(K:List (List Lt))(i:Option Addr)(t:Nat)(c:List Lt)(w:zx)(hK:qF w M K)(j:∀a∈K,bD a=U)(l:bU w i c)(y:kQ w i c)(x:bD c=U\/dU c=U):Calls z5 22 #[.slice M (V K) a3,.slice i (V c) t] w λd a5=>d=.returned (.bool (mM K c))/\aB w a5:=by
 have f:=O (aRv i t c w l);cases hi:dU c with
 |true=>
  rw[hi]at f;have g:aE (mM K c=U):=O (by unfold mM;rw[hi];rfl);generalize V c=cn at *;generalize V K=kn at *;clear hK j l y x hi;go_enter Tryz.func22,Tryz.ntmps22;go_wp2_with(first
   |(go_at_call 21;refine(aD f).mono ?_;rintro d a6 ⟨rfl,m⟩;have s:=O (aN m);clear m)
   |go_in)
  go_ret;exact⟨eB g.o.symm,s.o⟩
 |false=>
  rw[hi]at f;have I:bD c=true:=x.resolve_right (by rw[hi];decide);obtain⟨u,N⟩:=uV I;have a8:=hK.few;have Q:=O (λ(a:Nat) (r:a<V K) (o:Option Addr) (C:Nat) (n:zx) (L:aB w n) (p:bU n o K[a]) (q:kQ n o K[a])=>bAl n.heap.size o C K[a] i t c n (eC.of p q (uV (j _ (zv r))).2 (uV (j _ (zv r))).1) (eC.of (l.below L (zu _)) (y.below l L (zu _)) N u) (uV (j _ (zv r))).1 u);have X:=O hK;have W:=O hi;clear hK j l y x hi I u N;go_enter Tryz.func22,Tryz.ntmps22;go_wp2_with(first
   |(go_at_call 21;refine(aD f).mono ?_;rintro d a6 ⟨rfl,m⟩;have s:=O (aN m);clear m)
   |go_in)
  clear f;go_loopw[6] (λA wr=>∃a:Nat,a<=V K/\A=iQ a/\aB w wr/\aE (∀b (e:b<V K),b<a->bL K[b] c=ze)) (λA _=>V K-(intOf A).toNat);exact⟨0,zh _,rfl,s.o,O λb _ e=>absurd e (yw _)⟩;obtain⟨a,r,rfl,k,E⟩:=hrel;by_cases z:a<V K
  .have a9:(a:Int)<(V K:Int):=by omega
   obtain⟨a7,o,C,rfl,a2,p,q⟩:=(X.o.below k).cell a z;have D:=O (aD Q a z o C wr k p q);have R:=O k;clear p q k;have a0:=O z;go_upto_region 8 with(first
    |(go_at_call 44;refine(aD D).mono ?_;rintro d b1 ⟨a4,rfl,J,H⟩;have G:=O J;have F:=O (bE R.o H);clear J H)
    |go_in)
   clear D a2;cases a4 with
   |true=>
    have g:aE (mM K c=U):=O (bHg a0.o (aDd.2 (G.o.1 rfl)));go_wp2;go_ret;exact⟨eB g.o.symm,F.o⟩
   |false=>
    have a1:aE (bL K[a] c=ze):=O (by
     cases hcb:bL K[a] c with
     |false=>rfl
     |true=>exact absurd (G.o.2 (aDd.1 hcb)) (by decide))
    go_wp2;exact⟨⟨a+1,by omega,by go_num,F.o,O λb e b0=>by
     by_cases d:b<a
     .exact E.o b e d
     obtain rfl:b=a:=by omega
     exact a1.o⟩,by simp[intOf];omega⟩
  have g:aE (mM K c=ze):=O (bHh W.o λb e=>E.o b e (by omega));go_wp2;go_ret;exact⟨eB g.o.symm,k⟩
structure aS7(K:List (List Lt)):Prop where
 cl:∀k∈K,bD k=U
 fac:∀n (h:n<V K) (i j:Nat) out yes e,kL K[n] i j out yes e->e≠4/\(yes=U->mM K out=U)/\(bD out=U\/dU out=U)
 res:∀n m (h:n<V K) (h2:m<V K),m<=n->∀(i j:Nat) out yes e,jA K[n] K[m] i j out yes e->e≠4/\(yes=U->mM K out=U)/\(bD out=U\/dU out=U)
theorem bHi(a8:Option Addr)(c2:Nat)(K:List (List Lt))(w:zx)(hK:qF w a8 K)(x:aS7 K):Calls z5 23 #[.slice a8 (V K) c2] w λn Q=>n=.returned (.bool U)/\aB w Q:=by
 have f4:=hK.few;have b5:=O (λ(a0:Option Addr) (d0:Nat) (c:List Lt) (m:zx) (q:aB w m) (p:bU m a0 c) (o:kQ m a0 c) (y:bD c=U\/dU c=U)=>aS6 a8 c2 K a0 d0 c m (hK.below q) x.cl p o y);have c8:=O (λ(a:Nat) (C:a<V K) (D:Option Addr) (R:Nat) (f e:Nat) (m:zx) (q:aB w m) (t:bU m D K[a]) (c1:f<e) (G:e<K[a].length)=>(aS5 D R K[a] f e m t (x.cl _ (zv C)) c1 G).mono (R':=λn s=>∃j r d k l,n=.returned (.tuple #[.slice j (V d) r,.bool k,iQ l])/\(l==4)=ze/\(k=U->mM K d=U)/\(bD d=U\/dU d=U)/\bU s j d/\kQ s j d/\aB w s) (λn s a2=>by
  obtain⟨j,r,d,k,l,rfl,a7,p,⟨_,o⟩,b⟩:=a2;obtain⟨b1,b2,b3⟩:=x.fac a C f e d k l a7;exact⟨j,r,d,k,l,rfl,yV b1,b2,b3,p,o,q.trans (b.mono q.size)⟩))
 have c9:=O (λ(a g:Nat) (C:a<V K) (a4:g<V K) (a6:g<=a) (D c7:Option Addr) (R e5:Nat) (f e:Nat) (w0:zx) (f7:aB w w0) (m:zx) (q:∃d1,m=w0.drewN d1) (t:bU w0 D K[a]) (z:bU w0 c7 K[g]) (c0:f<K[a].length) (G:e<K[g].length)=>(aS4 D c7 R e5 K[a] K[g] f e m (t.below (aN q) (zu _)) (z.below (aN q) (zu _)) ⟨x.cl _ (zv C),x.cl _ (zv a4)⟩ c0 G).mono (R':=λn s=>∃j r d k l,n=.returned (.tuple #[.slice j (V d) r,.bool k,iQ l])/\(l==4)=ze/\(k=U->mM K d=U)/\(bD d=U\/dU d=U)/\bU s j d/\kQ s j d/\aB w0 s) (λn s a2=>by
  obtain⟨j,r,d,k,l,rfl,a7,p,⟨_,o⟩,b⟩:=a2;obtain⟨b1,b2,b3⟩:=x.res a g C a4 a6 f e d k l a7;exact⟨j,r,d,k,l,rfl,yV b1,b2,b3,p,o,(aN q).trans (b.mono (aN q).size)⟩))
 have M:=O hK;have b6:=O x.cl;clear hK x;go_enter Tryz.func23,Tryz.ntmps23;go_wp2;go_loopw[3] (λf wr=>∃i:Nat,i<=V K/\f=iQ i/\aB w wr) (λf _=>V K-(intOf f).toNat);exact⟨0,zh _,rfl,dP⟩;obtain⟨a,C,rfl,b⟩:=hrel;by_cases A:a<V K
 .have f6:(a:Int)<(V K:Int):=by omega
  have f0:=(uV (b6.o _ (zv A))).2;go_wp2;go_loopw[4] (λf wr=>∃i:Nat,i<=K[a].length/\f=iQ i/\aB w wr) (λf _=>K[a].length-(intOf f).toNat);exact⟨0,zh _,rfl,b⟩;clear b;obtain⟨f,c0,rfl,b⟩:=hrel;obtain⟨b9,D,R,rfl,N,t,z⟩:=(M.o.below b).cell a A;have e6:=O b;clear t z;by_cases d8:f<K[a].length
  .have f2:(f:Int)<(K[a].length:Int):=by omega
   go_wp2;go_loopw[5] (λe wr=>∃i:Nat,f+1<=i/\i<=K[a].length/\e=iQ i/\aB w wr) (λe _=>K[a].length-(intOf e).toNat);exact⟨f+1,zu _,by omega,by go_num,b⟩;clear b N;obtain⟨e,c1,G,rfl,b⟩:=hrel;obtain⟨e7,e3,e4,d5,N,t,z⟩:=(M.o.below b).cell a A;cases d5;by_cases a3:e<K[a].length
   .have d9:(e:Int)<(K[a].length:Int):=by omega
    have E:=O (aD c8 a A e3 e4 f e wr b t (by omega) a3);have W:=O b;clear t z b;generalize K[a].length=ln at *;go_upto_region 12 with(first
     |(go_at_call 45;refine(aD E).mono ?_;rintro n b4 ⟨j,r,d,k,l,rfl,d4,H,y,p,o,u⟩;have I:=O (aD b5 j r d b4 u p o y);have X:=O H;have J:=O u;generalize (V d)=on at *;clear H y p o u)
     |(go_at_call 22;refine(aD I).mono ?_;rintro n s ⟨rfl,F⟩;have L:=O (bE J.o F);clear F)
     |go_in)
    clear E I N;cases k with
    |false=>
     go_wp2;exact⟨⟨e+1,by omega,by omega,by go_num,L.o⟩,by simp[intOf];omega⟩
    |true=>
     have a1:=X.o rfl;generalize mM K d=cv at *;subst a1;go_wp2;exact⟨⟨e+1,by omega,by omega,by go_num,L.o⟩,by simp[intOf];omega⟩
   have f3:¬(e:Int)<(K[a].length:Int):=by omega
   clear t z;go_wp2;go_loopw[10] (λc wr=>∃i:Nat,i<=a+1/\c=iQ i/\aB w wr) (λc _=>a+1-(intOf c).toNat);exact⟨0,zh _,rfl,b⟩;clear b N;obtain⟨g,a4,rfl,b⟩:=hrel;by_cases a6:g<=a
   .have e0:(g:Int)<=(a:Int):=by omega
    have a5:g<V K:=by omega
    have f5:(g:Int)<(V K:Int):=by omega
    have f1:=(uV (b6.o _ (zv a5))).2;go_wp2;go_loopw[11] (λc wr=>∃i:Nat,i<=K[g].length/\c=iQ i/\aB w wr) (λc _=>K[g].length-(intOf c).toNat);exact⟨0,zh _,rfl,b⟩;clear b;obtain⟨e,G,rfl,b⟩:=hrel;obtain⟨e8,c3,c5,d6,b7,a9,e1⟩:=(M.o.below b).cell a A;obtain⟨e9,c4,c6,d7,b8,b0,e2⟩:=(M.o.below b).cell g a5;cases d6;cases d7;clear e1 e2;by_cases a3:e<K[g].length
    .have d9:(e:Int)<(K[g].length:Int):=by omega
     have E:=O (λm q=>aD c9 a g A a5 a6 c3 c4 c5 c6 f e wr b m q a9 b0 d8 a3);have W:=O b;clear a9 b0 b;generalize K[a].length=ln1 at *;generalize K[g].length=lm at *;go_wp2;go_region_held3 (λQ=>cQ Q b9 a (.slice c3 ln1 c5)/\cQ Q b9 g (.slice c4 lm c6)) (first|trivial|go_keep)
      (first
       |(go_at_call 46;refine(aD E _ (by first|exact⟨0,rfl⟩|exact⟨1,rfl⟩|exact⟨_,rfl⟩)).mono ?_;rintro n b4 ⟨j,r,d,k,l,rfl,d4,H,y,p,o,u⟩;have d2:=aC u b7;have d3:=aC u b8;have J:=O (bE W.o u);have I:=O (aD b5 j r d b4 (bE W.o u) p o y);have X:=O H;generalize (V d)=on at *;clear H y p o u)
       |go_in)
     all_goals
      clear E b7 b8 d2 d3;cases k with
      |false=>
       go_wp2;exact⟨⟨e+1,by omega,by go_num,J.o⟩,by simp[intOf];omega⟩
      |true=>
       have a1:=X.o rfl;generalize mM K d=cv at *;subst a1;go_wp2_with(first
        |(go_at_call 22;refine(aD I).mono ?_;rintro n s ⟨rfl,F⟩;have L:=O (bE J.o F);clear F)
        |go_in)
       exact⟨⟨e+1,by omega,by go_num,L.o⟩,by simp[intOf];omega⟩
    clear a9 b0;generalize K[g].length=lm at *;go_wp2;exact⟨⟨g+1,by omega,by go_num,b⟩,by simp[intOf];omega⟩
   have e0:¬(g:Int)<=(a:Int):=by omega
   go_wp2;exact⟨⟨f+1,by omega,by go_num,b⟩,by simp[intOf];omega⟩
  generalize K[a].length=ln at *;go_wp2;exact⟨⟨a+1,by omega,by go_num,b⟩,by simp[intOf];omega⟩
 go_wp2;go_ret;exact⟨rfl,b⟩
theorem bHj(T:List (aJ×zt))(a:Nat):uM ((T.map zs).map pA) (a:Int)=aO T a:=by grind[aO,uM,Int.toNat_natCast,Option.map_map,pA]
theorem bHk{g:Nat}{a:aJ}(i:kU P T g a)(j:bD a.c=U):zA P ((T.map zs).map pA) g (pA a):=by
 refine⟨?_,aGn j⟩;rcases i with⟨b,d,e,f,k⟩|⟨b,d,e,f⟩|⟨b,d,e,f⟩
 .grind[pA,yp,kL,aCr,aFs,jA,zA,kU,aO,uM,bN,bD]
 all_goals grind[kL,jA,uM,bHj,pA,aCr,aFs,zA,kU,aO,bN,bD]
theorem SvE.right{g:Nat}{i:Nat}{f:Bool}(b:SvE g P i T ks f):∀a (d:a<V ((T.map zs).map pA)),zA P ((T.map zs).map pA) a ((T.map zs).map pA)[a]:=λa d=>by
 have e:a<V T:=by simpa using d
 simp only[z7];exact bHk (b.step a e) (b.cl _ (zv e))
structure Sx(w:zx)(b o:Nat)(r a b' i j:Int)(v:zt):Prop where
 c0:yz w (aQ b o)=zr (iQ r)
 c1:yz w (aQ b (o+1))=zr (iQ a)
 c2:yz w (aQ b (o+2))=zr (iQ b')
 c3:yz w (aQ b (o+3))=zr (iQ i)
 c4:yz w (aQ b (o+4))=zr (iQ j)
 c5:yz w (aQ b (o+5))=zr v
theorem bHl(o l J p x j D e b:Nat)(d k:Option Addr)(f y:Nat)(c:List Lt)(w:zx)(I:Sx w p (x+e*6) 1 b 0 0 0 (.slice d (V c) f))(F:e<j)(i:bU w d c)(E:b<l)(q:cQ w o b (.slice k (V c) y))(r:bU w k c)(s:bN c=U):Calls z5 43 #[sQ o l J,.slice (zr (aQ p x)) j D,iQ e] w λg X=>g=.returned (.bool U)/\aB w X:=by
 obtain⟨z,H,a,G,a5,a6,a7,a8,a9,b0⟩:=aCt w 1 b 0 0 0 (.slice d (V c) f);have m:=O (aAt d f c z (i.below a (zu _)));have n:=O (aAs k d y f c c z (r.below a (zu _)) (i.below a (zu _)));rw[s]at m;rw[fL rfl]at n;obtain⟨L,M,N,Q,R,W⟩:=I;have a3:(e:Int)<(j:Int):=by omega
 have a1:(b:Int)<(l:Int):=by omega
 have a2:(0:Int)<=(b:Int):=by omega
 have b1:=aC a q;have A:=O a;clear a G i F E q r s;generalize V c=cn at *;go_enter xx,y9;go_upto_region 2 with(go_in);clear H L M N Q R W;go_wp2_with(first
  |(go_at_call 42;refine(aD m).mono ?_;rintro g a0 ⟨rfl,u⟩;rw[u];clear u a0)
  |(go_at_call 12;refine(aD n).mono ?_;rintro g a4 ⟨rfl,t⟩;have C:=O (bE A.o (aN t));clear t)
  |go_in)
 go_ret;exact⟨rfl,C.o⟩
theorem bHm(d2:Option Addr)(d4 d3 o s x c3 i d e q r:Nat)(z A C:Option Addr)(D G H:Nat)(c k l:List Lt)(w:zx)(f:Sx w o (s+i*6) 2 d e q r (.slice z (V c) D))(c8:i<x)(J:bU w z c)(c5:d<i)(c6:e<i)(W:cQ w o (s+d*6+5) (.slice A (V k) G))(X:cQ w o (s+e*6+5) (.slice C (V l) H))(a0:bU w A k)(a1:bU w C l)(a2:bD k=U/\bD l=U)(a5:q<V k)(a6:r<V l){c4:Int}(a3:jA k l q r c U c4)(a4:bN c=U):Calls z5 43 #[.slice d2 d4 d3,.slice (zr (aQ o s)) x c3,iQ i] w λm j=>m=.returned (.bool U)/\aB w j:=by
 obtain⟨E,d1,g,c9,e1,b2,b3,b4,b5,b6⟩:=aCt w 2 d e q r (.slice z (V c) D);have L:=O (λ(b:zx) (f:aB E b)=>aAt z D c b ((J.below g (zu _)).below f (zu _)));have Q:=O (λ(b:zx) (f:aB E b) (b7:Option Addr) (e2:Nat) (b1:List Lt) (p:bU b b7 b1)=>aAs b7 z e2 D b1 c b p ((J.below g (zu _)).below f (zu _)));have N:=O (λ(b:zx) (f:∃n,b=E.drewN n)=>(aS4 A C G H k l q r b (by obtain⟨n,rfl⟩:=f;exact(a0.below g (zu _)).below (aN ⟨n,rfl⟩) (zu _)) (by obtain⟨n,rfl⟩:=f;exact(a1.below g (zu _)).below (aN ⟨n,rfl⟩) (zu _)) a2 a5 a6).mono (R':=λm u=>∃t y I,m=.returned (.tuple #[.slice t (V c) y,.bool U,iQ I])/\bU u t c/\aB E u) (λm u c7=>by
  obtain⟨n,rfl⟩:=f;obtain⟨t,y,f6,f9,I,rfl,d0,p,_,a⟩:=c7;obtain⟨rfl,rfl,rfl⟩:=d0.one a3;exact⟨t,y,_,rfl,p,(aN ⟨n,rfl⟩).trans a⟩))
 have c1:=O a4;clear a2 a5 a6 a3 a4;obtain⟨d5,d6,d7,d8,d9,e0⟩:=f;have f5:(i:Int)<(x:Int):=by omega
 have e9:(d:Int)<(i:Int):=by omega
 have f2:(e:Int)<(i:Int):=by omega
 have f0:(d:Int)<(x:Int):=by omega
 have f3:(e:Int)<(x:Int):=by omega
 have f1:(0:Int)<=(d:Int):=by omega
 have f4:(0:Int)<=(e:Int):=by omega
 have a9:=aC g W;have b0:=aC g X;have b8:=O g;clear g c9 J c8 c5 c6 W X a0 a1;go_enter xx,y9;go_upto_region 2 with(go_in);clear d1 d5 d6 d7 d8 d9 e0;generalize V k=n1 at *;generalize V l=n2 at *;go_wp2;go_region_held3 (λj=>cQ j w.heap.size 1 (iQ d)/\cQ j w.heap.size 2 (iQ e)/\cQ j w.heap.size 3 (iQ q)/\cQ j w.heap.size 4 (iQ r)/\cQ j o (s+d*6+5) (.slice A n1 G)/\cQ j o (s+e*6+5) (.slice C n2 H)) (first|trivial|go_keep)
  (first
   |(go_at_call 46;refine(aD N _ (by first|exact⟨0,rfl⟩|exact⟨1,rfl⟩|exact⟨_,rfl⟩)).mono ?_;rintro m u ⟨t,y,I,rfl,p,a⟩;have c2:=O p;have F:=O a;have e3:=aC a b2;have e4:=aC a b3;have e5:=aC a b4;have e6:=aC a b5;have f8:=aC a b6;have e7:=aC a a9;have e8:=aC a b0;clear p a)
   |go_in)
 have M:=O (aD L u F.o);have R:=O (aD Q u F.o t y c c2.o);have c0:=O (bE b8.o F.o);clear L Q N a9 b0 e1 b2 b3 b4 b5 b6 e3 e4 e5 e6 e7 e8;rw[c1.o]at M;rw[fL rfl]at R;generalize V c=cn at *;go_wp2_with(first
  |(go_at_call 42;refine(aD M).mono ?_;rintro m b ⟨rfl,a8⟩;rw[a8];clear a8 b)
  |(go_at_call 12;refine(aD R).mono ?_;rintro m f7 ⟨rfl,a7⟩;have b9:=O (bE c0.o (aN a7));clear a7)
  |go_in)
 go_ret;exact⟨rfl,b9.o⟩
theorem bHn(c4:Option Addr)(c6 c5 t x u b6 m d l i:Nat)(s y:Option Addr)(z D:Nat)(c f:List Lt)(w:zx)(e:Sx w t (x+m*6) 3 d 0 l i (.slice s (V c) z))(c0:m<u)(F:bU w s c)(b8:d<m)(M:cQ w t (x+d*6+5) (.slice y (V f) D))(N:bU w y f)(Q:bD f=U)(X:l<i)(a0:i<V f){b7:Int}(R:kL f l i c U b7)(W:bN c=U):Calls z5 43 #[.slice c4 c6 c5,.slice (zr (aQ t x)) u b6,iQ m] w λg o=>g=.returned (.bool U)/\aB w o:=by
 obtain⟨A,c3,j,c1,d3,a5,a6,a7,a8,a9⟩:=aCt w 3 d 0 l i (.slice s (V c) z);have G:=O (λ(a:zx) (e:aB A a)=>aAt s z c a ((F.below j (zu _)).below e (zu _)));have J:=O (λ(a:zx) (e:aB A a) (b0:Option Addr) (d4:Nat) (a4:List Lt) (k:bU a b0 a4)=>aAs b0 s d4 z a4 c a k ((F.below j (zu _)).below e (zu _)));have I:=O (λ(a:zx) (e:∃q,a=A.drewN q)=>(aS5 y D f l i a (by obtain⟨q,rfl⟩:=e;exact(N.below j (zu _)).below (aN ⟨q,rfl⟩) (zu _)) Q X a0).mono (R':=λg p=>∃n r E,g=.returned (.tuple #[.slice n (V c) r,.bool U,iQ E])/\bU p n c/\aB A p) (λg p b9=>by
  obtain⟨q,rfl⟩:=e;obtain⟨n,r,e4,e7,E,rfl,c2,k,_,b⟩:=b9;obtain⟨rfl,rfl,rfl⟩:=c2.one R;exact⟨n,r,_,rfl,k,(aN ⟨q,rfl⟩).trans b⟩))
 have b4:=O W;clear Q X a0 R W;obtain⟨c7,c8,c9,d0,d1,d2⟩:=e;have e3:(m:Int)<(u:Int):=by omega
 have e0:(d:Int)<(m:Int):=by omega
 have e1:(d:Int)<(u:Int):=by omega
 have e2:(0:Int)<=(d:Int):=by omega
 have a3:=aC j M;have b1:=O j;clear j c1 F c0 b8 M N;go_enter xx,y9;go_upto_region 2 with(go_in);clear c3 c7 c8 c9 d0 d1 d2;generalize V f=n1 at *;go_wp2;go_region_held3 (λo=>cQ o w.heap.size 1 (iQ d)/\cQ o w.heap.size 3 (iQ l)/\cQ o w.heap.size 4 (iQ i)/\cQ o t (x+d*6+5) (.slice y n1 D)) (first|trivial|go_keep)
  (first
   |(go_at_call 45;refine(aD I _ (by first|exact⟨0,rfl⟩|exact⟨1,rfl⟩|exact⟨_,rfl⟩)).mono ?_;rintro g p ⟨n,r,E,rfl,k,b⟩;have b5:=O k;have C:=O b;have d5:=aC b a5;have d6:=aC b a6;have d7:=aC b a7;have d8:=aC b a8;have e6:=aC b a9;have d9:=aC b a3;clear k b)
   |go_in)
 have H:=O (aD G p C.o);have L:=O (aD J p C.o n r c b5.o);have b3:=O (bE b1.o C.o);clear G J I a3 d3 a5 a6 a7 a8 a9 d5 d6 d7 d8 d9;rw[b4.o]at H;rw[fL rfl]at L;generalize V c=cn at *;go_wp2_with(first
  |(go_at_call 42;refine(aD H).mono ?_;rintro g a ⟨rfl,a2⟩;rw[a2];clear a2 a)
  |(go_at_call 12;refine(aD L).mono ?_;rintro g e5 ⟨rfl,a1⟩;have b2:=O (bE b3.o (aN a1));clear a1)
  |go_in)
 go_ret;exact⟨rfl,b2.o⟩
theorem bHo(z:Option Addr)(A:Nat)(P:List (List Lt))(b0:Option Addr)(r e:Nat)(b:List Rs)(w:zx)(b8:zC w z P)(u:zB w b0 b)(x:e<V b)(b9:zA P b e b[e]):Calls z5 43 #[.slice z (V P) A,.slice b0 (V b) r,iQ e] w λa c7=>a=.returned (.bool U)/\aB w c7:=by
 obtain⟨t,y,C,D,rfl,R,i,q,W,X,a0,I⟩:=u.cell e x;generalize b[e]=s at *;have j:Sx w t (y+e*6) s.r s.a s.b s.i s.j (.slice C (V s.c) D):=⟨R,i,q,W,X,a0⟩;clear R i q W X a0;obtain⟨c0,F⟩:=b9;rcases c0 with⟨b5,⟨⟨⟨c9,d0⟩,c4,c5,c6⟩,a7,-⟩|⟨-,-,a⟩⟩|⟨b6,⟨b4,a1,b3,f⟩|⟨-,-,a⟩⟩|⟨b7,⟨b4,a1,b3,f⟩|⟨-,-,a⟩⟩|⟨-,-,a⟩
 .obtain⟨d,a6⟩:∃d:Nat,s.a=d:=⟨s.a.toNat,by omega⟩;have H:d<V P:=by omega
  obtain⟨E,k,l,rfl,a3,a4⟩:=b8.cell d H;rw[a6,Int.toNat_natCast,zo H]at a7;rw[Option.some.inj a7]at a3 a4;rw[b5,a6,c4,c5,c6]at j;exact bHl E (V P) A t y (V b) r e d C k D l s.c w j x I H a3 a4 F
 .cases a
 .obtain⟨g,o⟩:∃d:Nat,s.a=d:=⟨s.a.toNat,by omega⟩;obtain⟨N,a2⟩:∃d:Nat,s.b=d:=⟨s.b.toNat,by omega⟩;have p:g<V b:=by omega
  have a8:N<V b:=by omega
  obtain⟨E,a9,k,l,a,-,-,-,-,-,i,Q⟩:=u.cell g p;cases a;obtain⟨c8,a9,b1,b2,a,-,-,-,-,-,q,c3⟩:=u.cell N a8;cases a;rw[o,a2,aFr p,aFr a8]at f;rcases id f with⟨_,_,a,_⟩|⟨L,c2,⟨_,_,a,_⟩|⟨J,M,⟨a5,G,m,n,_⟩,_⟩⟩
  .cases a
  .cases a
  rw[b6,o,a2,m,n]at j;rw[m,n]at f;exact bHm z (V P) A t y (V b) r e g N J M C k b1 D l b2 s.c _ _ w j x I (by omega) (by omega) i q Q c3 ⟨L,c2⟩ a5 G f F
 .cases a
 .obtain⟨g,o⟩:∃d:Nat,s.a=d:=⟨s.a.toNat,by omega⟩;have p:g<V b:=by omega
  obtain⟨E,a9,k,l,a,-,-,-,-,-,i,Q⟩:=u.cell g p;cases a;rw[o,aFr p]at f;rcases id f with⟨_,_,a,_⟩|⟨L,⟨_,_,a,_⟩|⟨J,M,⟨a5,G,m,n,c1,_⟩,_⟩⟩
  .cases a
  .cases a
  rw[b7,o,a1,m,n]at j;rw[m,n]at f;exact bHn z (V P) A t y (V b) r e g J M C k D l s.c _ w j x I (by omega) i Q L c1 G f F
 .cases a
 cases a
theorem bHp(i:Option Addr)(s:Nat)(P:List (List Lt))(j:Option Addr)(k:Nat)(a:List Rs)(w:zx)(m:zC w i P)(e:zB w j a)(n:∀b (C:b<V a),zA P a b a[b]):Calls z5 20 #[.slice i (V P) s,.slice j (V a) k] w λl A=>l=.returned (.bool U)/\aB w A:=by
 have D:=e.few;have x:=O (λ(g:Nat) (q:g<V a) (t:zx) (r:aB w t)=>bHo i s P j k g a t (m.below r (zu _)) (e.below r (zu _)) q (n g q));clear m e n;go_enter Tryz.func20,Tryz.ntmps20;go_wp2;go_loopw[5] (λf wr=>∃b:Nat,b<=V a/\f=iQ b/\aB w wr) (λf _=>V a-(intOf f).toNat);exact⟨0,zh _,rfl,dP⟩;obtain⟨b,E,rfl,o⟩:=hrel;have d:=O o;clear o;by_cases z:b<V a
 .have F:(b:Int)<(V a:Int):=by omega
  have u:=O (aD x b z wr d.o);go_wp2_with(first
   |(go_at_call 43;refine(aD u).mono ?_;rintro l G ⟨rfl,p⟩;have y:=O (bE d.o p);clear p)
   |go_in)
  exact⟨⟨b+1,by omega,by go_num,y.o⟩,by simp[intOf];omega⟩
 go_wp2;go_ret;exact⟨rfl,d.o⟩
theorem bHq(a:ByteArray)(w:zx)(o:a.size<=140737488355328):Calls z5 7 #[.string a] w λb p=>RdQ a w b p:=by
 have g:=O (aKv a w o);go_enter Tryz.func7,Tryz.ntmps7;go_wp2_with(first
  |(go_at_call 16;refine(aD g).mono ?_;rintro b q ⟨v,l,m,n,rfl,d,e,f⟩;have i:=O d;have j:=O e;have k:=O f;clear d e f)
  |go_in)
 go_returns;exact⟨_,l,m,n,rfl,i.o,j.o,k.o⟩
theorem lR.one{P:List Pl}{a b:Int}(d:lR P a)(e:lR P b):a=b:=by grind[lR,lQ]
theorem pK.one{d:List (Nat×List Lt)}{g i:List (List Lt)}{a b e f:Int}(j:pK d g a e)(k:pK d i b f):g=i/\a=b/\e=f:=by grind[pK,lS,bB]
theorem iS.one{i:ByteArray}{f g:List (List Lt)}{a b e d:Int}(j:iS i f a e)(k:iS i g b d):f=g/\a=b/\e=d:=by grind[pK.one,lR.one,sV,pK,lR,iS]
section
open scoped Classical
theorem qF.clsL{a:Option Addr}(b:qF w a K):zC w a K:=
 ⟨by have:=b.few;omega,λl k=>by
  obtain⟨g,d,e,f,i,j,_⟩:=b.cell l k;exact⟨g,d,e,f,i,j⟩⟩
theorem nS.clsC{z:ByteArray}{e:List (List (Lt×zt)×zt)}{o:Int}(d:nS B w v e)(r:(e.map λx=>x.1.map zs)=P)(u:iS z P o 0):∃l y,v=.slice l (V P) y/\qF w l P:=by
 have C:=u.few.1;subst r;obtain⟨m,c,j⟩:=aZ d.1;refine⟨m,c,by rw[j];simp,by omega,λk s=>?_⟩;have g:k<V e:=by simpa using s
 obtain⟨q,A,b⟩:=mJ d.1 (by omega);have a:=d.2 _ (zv g);obtain⟨n,p,f,t⟩:=aA3 a.1.1 a.1.2 a.2.1 a.2.2.1 (by have:=a.2.2.2;omega);have i:=d.1;rw[b]at i;rw[j]at b;injection b with b;refine⟨q,n,p,b,?_,by simpa using t,by simpa using aHf a.1.1 a.1.2 f⟩;rw[i.cellAt k (by omega)];simp[g,f]
theorem aJc(a:uT T ks c):mM (ks.map (aO T)) c=true:=by grind[mM,uT,aO,bL,dU]
theorem wQ.shuts(e:wQ P T ks):aS7 (ks.map (aO T)):=by
 refine⟨λA o=>?_,λa k s t u y n b=>?_,λa d k q z s t u y n b=>?_⟩
 .obtain⟨x,r,rfl⟩:=List.mem_map.1 o;exact(e.good x r).1
 .have f:a<V ks:=by simpa using k
  rw[z7]at b;obtain⟨g,i,j⟩:=e.fac1 (zv f) b;exact⟨g,λl=>aJc (i l),j⟩
 have f:a<V ks:=by simpa using k
 have m:d<V ks:=by simpa using q
 rw[z7,z7]at b;have p:ks[d]<=ks[a]:=by
  rcases Nat.lt_or_ge d a with hl|hl
  .exact Nat.le_of_lt (List.pairwise_iff_getElem.1 e.srt d a m f hl)
  have:d=a:=by omega
  subst this;exact zu _
 obtain⟨g,i,j⟩:=e.res1 (zv f) (zv m) p b;exact⟨g,λl=>aJc (i l),j⟩
theorem bHr(k:ByteArray)(i:Int)(P:List (List Lt))(D g e:Int)(w:zx)(J:k.size<=140737488355328)(s:iS k P D g)(E:(g≠0/\e=g)\/(g=0/\¬(1<=i/\i<=100)/\e=7)):Calls z5 10 #[.string k,iQ i,qK,iQ e] w λb M=>b=.returned (.bool U)/\aB w M:=by
 obtain⟨u,a2,t,L,n,o,p,q,r⟩:=aCs w (iQ 0) (nQ) (nQ) (iQ 0) (.bool ze);have l:=O ((aM7 k u J).mono (R':=λb j=>∃v d,b=.returned (.tuple #[v,iQ d,iQ g])/\aB u j) (λb j H=>by
  obtain⟨v,N,d,Q,rfl,I,a0,G⟩:=H;obtain⟨-,-,rfl⟩:=I.one s;exact⟨v,d,rfl,G⟩))
 have m:=O t;clear t L s;unfold qK;rcases E with⟨F,rfl⟩|⟨rfl,R,rfl⟩
 .have a1:(e != 0)=true:=bne_iff_ne.2 F;have a3:(e==e)=true:=by simp
  go_enter yg,yl;go_upto_region 3 with(first
   |(go_at_call 19;refine(aD l).mono ?_;rintro b j ⟨v,d,rfl,a⟩;have x:=aC a n;have y:=aC a o;have z:=aC a p;have A:=aC a q;have C:=aC a r;have f:=O (bE m.o a);clear a)
   |go_in)
  go_wp2;go_ret;exact⟨rfl,f.o⟩
 by_cases W:i<1
 .go_enter yg,yl;go_upto_region 3 with(first
   |(go_at_call 19;refine(aD l).mono ?_;rintro b j ⟨v,d,rfl,a⟩;have x:=aC a n;have y:=aC a o;have z:=aC a p;have A:=aC a q;have C:=aC a r;have f:=O (bE m.o a);clear a)
   |go_in)
  go_wp2;go_ret;exact⟨rfl,f.o⟩
 have X:100<i:=by omega
 go_enter yg,yl;go_upto_region 3 with(first
  |(go_at_call 19;refine(aD l).mono ?_;rintro b j ⟨v,d,rfl,a⟩;have x:=aC a n;have y:=aC a o;have z:=aC a p;have A:=aC a q;have C:=aC a r;have f:=O (bE m.o a);clear a)
  |go_in)
 go_wp2;go_ret;exact⟨rfl,f.o⟩
theorem aJd:∀(b:List Nat) (e d:Nat),b.Pairwise (· < ·)->(∀a∈b,e<=a/\a<d)->V b<=d-e
 |[],_,_,_,_=>zh _
 |x::b,e,d,h,hk=>by
  have f:=List.pairwise_cons.1 h;have i:=aJd b (x+1) d f.2 (λa g=>⟨f.1 a g,(hk a (by simp[g])).2⟩);have j:=hk x (by simp);rw[yt];omega
theorem iW.below{w':zx}(a:iW B w v T)(hb:aB w w'):iW B w' v T:=⟨bF a.row hb (zu _),λp b=>(a.cl p b).below hb⟩
def qG(a:Nat)(ks:List Nat):List Nat:=if a=2 then ks else []
def wB(T:List (aJ×zt))(k:Nat):zt:=((T[k]?).map zw).getD (nQ)
theorem bHs{A:zt}(p:iW B wr A T)(q:∀z∈T,bD z.1.c=U)(s:∀k∈ks,k<V T)(u:V ks<=1000)(e:zb wr w.heap.size 36 1 v (V ks) (ks.map (wB T))):∃d f,v=.slice d (V (ks.map (aO T))) f/\qF wr d (ks.map (aO T)):=by
 obtain⟨d,f,rfl⟩:=aZ e;refine⟨d,f,by simp,⟨by simpa using u,λk t=>?_⟩⟩;have g:k<V ks:=by simpa using t
 have a:=s _ (zv g);obtain⟨o,E,b⟩:=mJ e (by omega);have i:=e;rw[b]at i;injection b with b;obtain⟨_,_,j,l,_,m,_,y⟩:=p.cell a;obtain⟨C,D,n,_,x,r⟩:=y.lits (mB (q _ (zv a)));cases n;rw[z7,qB a];refine⟨o,j,l,b,?_,x,r⟩;rw[i.cellAt k (by omega)];simp[g,wB,a,m]
theorem bHt(c3:ByteArray)(k:Int)(P:List (List Lt))(l2:Int)(B d m:Nat)(i6 c4:zt)(b3:Bool)(T:List (aJ×zt))(ks:List Nat)(w:zx)(m7:c3.size<=140737488355328)(a2:iS c3 P l2 0)(p2:1<=k)(p3:k<=100)(c8:iW B w i6 T)(j4:(d=2/\eQ B w c4 ks)\/(d≠2/\c4=nQ))(j5:m=if d=1 then V T-1 else V T)(E:aCc (tP k.toNat P) d T ks b3):Calls z5 10 #[.string c3,iQ k,mN d i6 c4 m b3,iQ 0] w λe o0=>e=.returned (.bool U)/\aB w o0:=by
 have r:=E.1.1;have c0:V T<=101/\(m:Int)<=k/\(d≠1->m=V T):=by
  have N:=j5;by_cases e:d=1
  .obtain⟨d5,R,d8,_,g0⟩:=r.unsat e;rw[aT e]at N;have:V T=V d5+1:=by rw[d8];simp
   exact⟨by omega,by omega,λd9=>absurd e d9⟩
  have:=r.len e;rw[aS e]at N;exact⟨by omega,by omega,λ_=>N⟩
 obtain⟨i4,i5,rfl⟩:=aZ c8.row;obtain⟨-,-,h9⟩:=c8.sts r.cl (by omega);have h6:V ((T.map zs).map pA)=V T:=by simp
 have b8:eQ B w c4 (qG d ks):=by
  unfold qG;rcases j4 with⟨n,b5⟩|⟨n,rfl⟩
  .rw[aT n];exact b5
  rw[aS n];exact yu _ _ _ _
 have b7:∀a∈qG d ks,a<V T:=by
  unfold qG;intro a i;split at i
  .rename_i e;exact(r.sat e).lt a i
  simp at i
 have b9:(qG d ks).Pairwise (· < ·):=by
  unfold qG;split
  .rename_i e;exact(r.sat e).srt
  simp
 have m2:V (qG d ks)<=101:=by
  have:=aJd _ 0 (V T) b9 λa i=>⟨zh _,b7 a i⟩
  omega
 obtain⟨n2,n3,rfl⟩:=b8.shape;obtain⟨K,hK⟩:∃K,qG d ks=K:=⟨_,rfl⟩;rw[hK]at b8 b7 b9 m2 ⊢;have a7:=O hK;clear hK;have q6:((d:Int)==0)=false:=yV (by rcases E.2 with⟨e,_⟩|e|e<;>omega);obtain⟨i7,n0,g7,m8,i9,j0,j1,j2,j3⟩:=aCs w (iQ d) (.slice i4 (V T) i5) (.slice n2 (V K) n3) (iQ m) (.bool b3);have f0:=O ((aM7 c3 i7 m7).mono (R':=λe a6=>∃l G b2,e=.returned (.tuple #[.slice l (V P) G,iQ b2,iQ 0])/\qF a6 l P/\aB i7 a6) (λe a6 l9=>by
  obtain⟨v,o1,b2,o4,rfl,m6,m4,f⟩:=l9;obtain⟨C,-,rfl⟩:=m6.one a2;obtain⟨l,G,rfl,z⟩:=m4.clsC C a2;exact⟨l,G,b2,rfl,z,f⟩))
 have d0:=O (λ(l:Option Addr) (G:Nat) (p:zx) (n1:aB w p) (z:qF p l P)=>bHp l G P i4 i5 ((T.map zs).map pA) p z.clsL (h9.below n1 (zu _)) r.right);rw[h6]at d0;have g5:=c8;have J:=O g5;have t:=O r;have b1:=O E.2;have a9:=O c0;have X:=O b8;have W:=O b7;have a8:=O b9;have o7:=c0.1;have q5:¬k<(m:Int):=by have:=c0.2.1;omega
 have q4:¬(m:Int)<0:=by omega
 have c1:¬k<1:=by omega
 have p6:¬100<k:=by omega
 have k6:=O g7;have o6:=a2.few.1;have d4:=O (aFn a2);clear g7 m8 a2 r h9 h6 b8 b7 b9 g5 c8 j4 j5 E c0;unfold mN;go_enter yg,yl;go_upto_region 10 with(first
  |(go_at_call 19;refine(aD f0).mono ?_;rintro e a6 ⟨l,G,b2,rfl,z,u⟩;have j6:=aC u i9;have j7:=aC u j0;have j8:=aC u j1;have j9:=aC u j2;have k0:=aC u j3;have f3:=O (bE k6.o u);have e8:=O (aD d0 l G a6 f3.o z);have f5:=O z;clear u z)
  |(go_at_call 20;refine(aD e8).mono ?_;rintro e c5 ⟨rfl,s⟩;have k1:=aC s j6;have c9:=aC s j7;have k2:=aC s j8;have k3:=aC s j9;have k4:=aC s k0;have k7:=O (bE f3.o s);have k8:=O (f5.o.below s);clear s)
  |go_in)
 clear f0 d0 e8 f5 i9 j0 j1 j2 j3 j6 j7 j8 j9 k0 n0;go_wp2;go_loopw[14,15] (λn4 j wr=>∃a:Nat,a<=V K/\j=iQ a/\aB c5 wr/\zb wr c5.heap.size 36 1 n4 a ((K.take a).map (wB T))) (λ_ j _=>V K-(intOf j).toNat);exact⟨0,zh _,rfl,dP,yu _ _ _ _⟩;obtain⟨a,i,rfl,f,C⟩:=hrel;have i2:=aC f k1;have i3:=aC f c9;have n5:=aC f k2;have n6:=aC f k3;have n7:=aC f k4;have y:=bE k7.o f;have g9:=f.size;by_cases A:a<V K
 .have m3:(a:Int)<(V K:Int):=by omega
  have E:=W.o _ (zv A);obtain⟨l5,rfl,g1⟩:=X.o.cell A;replace g1:=aC y g1
  obtain⟨l6,l4,d6,d7,a5,h3,M,-⟩:=J.o.cell E;simp at a5;obtain⟨rfl,rfl⟩:=a5;replace M:=aC y M
  have h2:wB T K[a]=.slice d6 T[K[a]].1.c.length d7:=by unfold wB;simp[E,h3]
  have i0:(K.take (a+1)).map (wB T)=(K.take a).map (wB T)++[.slice d6 T[K[a]].1.c.length d7]:=by rw[zk A,zp,yy,ye,h2]
  have f8:=O i0;have e2:∀Q,a=Q+1->∃R:Nat,cQ wr l5 Q (iQ (R:Nat))/\R<K[a]:=λQ e=>by
   subst e;obtain⟨o5,d8,g0⟩:=X.o.cell (i:=Q) (by omega);cases d8;exact⟨_,aC y g0,List.pairwise_iff_getElem.1 a8.o Q (Q+1) (by omega) A (by omega)⟩
  have f2:=O f;have b0:=O C;generalize T[K[a]].1.c.length=cn at *;generalize K[a]=q at *;have q0:¬(q:Int)<0:=by omega
  have q1:¬(V T:Int)<=(q:Int):=by omega
  have q2:(q:Int)<(V T:Int):=by omega
  clear h3 h2 i0 f C y;cases a with
  |zero=>
   clear e2;go_wp2_with(first
    |(at_builtin;refine eU aE7 xz (b0.o.alloc _) ?_;intro e6 e7 D a4 _;have d2:=O ((f2.o.alloc g9 _).grown a4 (by simp;omega) λe4 e=>(bS b0.o e4 e).1);have d3:aE (zb e7 c5.heap.size 36 1 e6 (0+1) ((K.take (0+1)).map (wB T))):=O (by rw[f8.o];exact D);obtain⟨n8,n9,rfl⟩:=aZ D;clear D a4)
    |go_in)
   exact⟨⟨1,by omega,rfl,d2.o,d3.o⟩,by simp[intOf];omega⟩
  |succ a=>
   obtain⟨R,o3,p7⟩:=e2 a rfl;have p9:¬(q:Int)<=(R:Int):=by omega
   have p1:(0:Int)<(a:Int)+1:=by omega
   have p0:(a:Int)<(V K:Int):=by omega
   clear e2;go_wp2_with(first
    |(at_builtin;refine eU aE7 xz (b0.o.alloc _) ?_;intro e6 e7 D a4 _;have d2:=O ((f2.o.alloc g9 _).grown a4 (by simp;omega) λe4 e=>(bS b0.o e4 e).1);have d3:aE (zb e7 c5.heap.size 36 1 e6 (a+1+1) ((K.take (a+1+1)).map (wB T))):=O (by rw[f8.o];exact D);obtain⟨n8,n9,rfl⟩:=aZ D;clear D a4)
    |go_in)
   exact⟨⟨a+1+1,by omega,by go_num,d2.o,d3.o⟩,by simp[intOf];omega⟩
 have m1:a=V K:=by omega
 subst m1;rw[zi]at C;obtain⟨e5,i1,rfl,h1⟩:=bHs (J.o.below y) t.o.cl W.o (by omega) C;have g:=O h1;have H:=O y;have b6:=k8.o.below f;clear C h1 y;have l7:=b1.o;rcases l7 with⟨rfl,m5⟩|rfl|rfl
 .obtain⟨o,c1⟩:∃o,V T=o+1:=⟨V T-1,by omega⟩;obtain⟨d5,R,g6,h8,-⟩:=t.o.unsat rfl;obtain⟨l6,l4,d6,d7,a5,-,M,-⟩:=J.o.cell (k:=o) (by omega);simp at a5;obtain⟨rfl,rfl⟩:=a5;have h0:T[o].1.c.length=0:=by
   subst g6;have e:o=V d5:=by simp at c1;omega
   subst e;simp[h8]
  rw[h0]at M;replace M:=aC H.o M
  rw[c1]at i3;have q3:(o:Int)<(o:Int)+1:=by omega
  have p8:(0:Int)<(o:Int)+1:=by omega
  have p5:o<=100:=by omega
  clear c9 J t a7 W a8 X a9 b1 d4 g6 h8 h0 c1 m5 g b6;go_wp2;go_ret;exact⟨rfl,H.o⟩
 .obtain rfl:ks=K:=by have:=a7.o;simpa[qG]using this
  have c2:=t.o.sat rfl;have e0:=c2.shuts;obtain⟨b,a1⟩:∃b,ks.map (aO T)=b:=⟨_,rfl⟩;rw[a1]at e0 g;have h5:∀a (d9:a<V b),(((b[a].length:Nat):Int)==0)=ze/\dU b[a]=ze/\b[a].length<=8:=λa i=>by
   subst a1;have m0:a<V ks:=by simpa using i
   obtain⟨g3,b4,g4⟩:=c2.good _ (zv m0);rw[z7];exact⟨yV λe=>b4 (List.length_eq_zero_iff.1 (by omega)),g4,(uV g3).2⟩
  have h4:∀a (d9:a<V P),mM b P[a]=true:=λa i=>by
   rw[<-a1];exact aJc (c2.giv _ (zv i))
  have f6:=O h5;have l1:=O h4;have f7:=O e0;have a0:=O b6;have o9:=g.o.few;rw[show V (ks.map (aO T))=V b by rw[a1]];clear c2 e0 h5 h4 b6 a1 J t a7 W a8 X a9 b1 k1 c9 k2 k3 k4;have m9:((2:Nat):Int)=2:=rfl;rw[m9]at i2 ⊢;go_wp2;go_loopw[17] (λj p=>∃a:Nat,a<=V b/\j=iQ a/\aB wr p) (λj _=>V b-(intOf j).toNat);exact⟨0,zh _,rfl,dP⟩;clear i2 i3 n5 n6 n7;obtain⟨a,i,rfl,a3⟩:=hrel;by_cases A:a<V b
  .have m3:(a:Int)<(V b:Int):=by omega
   obtain⟨g2,c6,c7,rfl,f9,n,-⟩:=(g.o.below a3).cell a A;obtain⟨g3,b4,g4⟩:=f6.o a A;have e9:=O (aRv c6 c7 b[a] _ n);rw[b4]at e9;have l3:∀L,yz (wr.drewN L) (aQ g2 a)=zr (.slice c6 b[a].length c7):=λL=>aC (aN ⟨L,rfl⟩) f9
   have I:=O a3;generalize b[a].length=kl at *;clear n a3 b4;go_wp2_with(first
    |(go_at_call 21;refine(aD e9).mono ?_;rintro e i8 ⟨rfl,L,rfl⟩;have o2:=l3 L)
    |go_in)
   exact⟨⟨a+1,by omega,by go_num,bE I.o (aN ⟨L,rfl⟩)⟩,by simp[intOf];omega⟩
  have I:=O a3;clear a3;go_wp2;go_loopw[19] (λj p=>∃a:Nat,a<=V P/\j=iQ a/\aB w p/\aE (qF p e5 b)/\aE (qF p l P)) (λj _=>V P-(intOf j).toNat);exact⟨0,zh _,rfl,bE H.o I.o,O (g.o.below I.o),O (a0.o.below I.o)⟩;clear g a0 I H f6;obtain⟨F,o8,rfl,g8,g,a0⟩:=hrel;have f4:=O g8
  clear g8
  by_cases e1:F<V P
  .have p4:(F:Int)<(V P:Int):=by omega
   obtain⟨g2,c6,c7,rfl,f9,n,b5⟩:=a0.o.cell F e1;have f1:=O (aS6 e5 i1 b c6 c7 P[F] _ g.o f7.o.cl n b5 (z8 (d4.o _ (zv e1))));rw[l1.o F e1]at f1;generalize P[F].length=pl at *;clear n b5;go_wp2_with(first
    |(go_at_call 22;refine(aD f1).mono ?_;rintro e i8 ⟨rfl,x⟩;have d1:=O (bE f4.o x);have k9:=O (g.o.below x);have l0:=O (a0.o.below x);clear x)
    |go_in)
   exact⟨⟨F+1,by omega,by go_num,d1.o,k9,l0⟩,by simp[intOf];omega⟩
  have k5:=O (bHi e5 i1 b _ g.o f7.o);go_wp2_with(first
   |(go_at_call 23;refine(aD k5).mono ?_;rintro e i8 ⟨rfl,x⟩;have d1:=O (bE f4.o x);clear x)
   |go_in)
  go_ret;exact⟨rfl,d1.o⟩
 have N:=a9.o.2.2 (by decide);have h7:=t.o.out rfl;clear c9 J t a7 W a8 X a9 b1 d4 g b6;by_cases e3:(m:Int)=k
 .have l8:((m:Int)==k)=true:=beq_iff_eq.2 e3;clear h7 N;go_wp2;go_ret;exact⟨rfl,H.o⟩
 have l8:((m:Int)==k)=false:=yV e3;obtain rfl:b3=true:=h7.resolve_left λe=>e3 (by omega)
 clear N;go_wp2;go_ret;exact⟨rfl,H.o⟩
end
