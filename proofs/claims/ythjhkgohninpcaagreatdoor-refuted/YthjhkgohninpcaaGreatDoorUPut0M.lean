import Derived.Test.YthjhkgohninpcaaGreatDoorONumM
import Derived.Test.YthjhkgohninpcaaGreatDoorRClauseM
import Derived.RangeFuncNested
import Derived.RangeFuncBound
import Derived.RangeFuncCalls
import Derived.RangeFuncLeaves
import Derived.Lib.AppendZerosOnto
import Derived.DeepKeys4
import Derived.Shelf.RegionOpen
import Derived.OwnWalkIn
import Derived.TacticsInMore
import Derived.LoopNIn
import Derived.LoopIn
import Derived.Sort.QuietIn
open Array renaming getElem?_eq_some_iff→zw
open List renaming getElem?_eq_some_iff→zz,getElem?_eq_getElem→zx,replicate→zu,getElem?_set→zr,drop_drop→zn,length_set→zm,getElem?_append_right→zl,getElem?_append_left→zi,cons_append→zh,getElem?_eq_none→zf,mem_of_getElem?→ze,drop_succ_cons→za
open Nat renaming add_comm→zv,le_refl→zt,zero_add→z0
open Or renaming inl→zs,inr→zo
namespace Go.Proofs.YthjhkgohninpcaaGreatDoor
open _root_.Go.Proofs.Tryz renaming prog→zy,underlying195→zk,underlying155→zj,underlying3→zg,underlying25→z1
open Value renaming int→zq,ownBlock→zb
open World renaming cell?→zc
open Go.RowKit Go.Shelf Go.WideMaps
set_option maxHeartbeats 2000000
set_option maxRecDepth 100000
variable{G:Gr}{R:List Rw}{a b:Nat}{d rt:Nat->Nat}{B E E' Q:Nat->Nat->Prop}{v:Value}
theorem uY(e:List Nd):∀c q,aN e (c+q)=aN e c+aN (e.drop (aN e c)) q:=by
 induction e with
 |nil=>intro c q;cases c<;>cases q<;>simp [aN]
 |cons n r ih=>
  intro c q;cases c with
  |zero=>simp
  |succ c=>
   rw [show c+1+q=(c+q)+1 by omega];simp only [aN];rw [show c+q+bP n=(c+bP n)+q by omega,ih (c+bP n) q,zv 1 (aN r (c+bP n)),za];omega
def gD:List Nd->Nat->Nat->List Nat
 |_,0,_=>[]
 |s,k+1,b=>b::gD (s.drop (aN s 1)) k (b+aN s 1)
@[simp] theorem bCs(s:List Nd)(b:Nat):gD s 0 b=[]:=rfl
theorem mF(c:List Nd)(e b:Nat):gD c (e+1) b=b::gD (c.drop (aN c 1)) e (b+aN c 1):=rfl
theorem tV(e:List Nd)(c:Nat):∀b,(gD e c b).length=c:=by
 induction c generalizing e with
 |zero=>intro b;rfl
 |succ c ih=>intro b;rw [mF];simp [ih]
theorem aBl(e:Nat):∀(c:List Nd) (b d:Nat),gD c e (b+d)=(gD c e b).map (· + d):=by
 induction e with
 |zero=>intro c b d;rfl
 |succ e ih=>
  intro c b d;rw [mF,mF,List.map_cons,show b+d+aN c 1=b+aN c 1+d by omega,ih]
theorem aK4(e:Nat):∀(c:List Nd) (f b:Nat),gD c (e+f) b=gD c e b++gD (c.drop (aN c e)) f (b+aN c e):=by
 induction e with
 |zero=>intro c f b;simp
 |succ e ih=>
  intro c f b;rw [show e+1+f=(e+f)+1 by omega,mF,mF,ih,show aN c (e+1)=aN c 1+aN (c.drop (aN c 1)) e by rw [<-uY];congr 1;omega,zn,zh];simp [Nat.add_assoc,zv (aN c 1)]
def eR:List Nd->Nat->Prop
 |_,0=>True
 |[],_+1=>False
 |n::r,q+1=>eR r (q+bP n)
@[simp] theorem aWy(l:List Nd):eR l 0:=by cases l<;>trivial
theorem aWz(f:List Nd):∀c,bA f c=true->eR f c:=by
 induction f with
 |nil=>intro c e;simp [bA] at e;subst e;trivial
 |cons n r ih=>
  intro c e;cases c with
  |zero=>trivial
  |succ c=>rw [uQ,Bool.and_eq_true] at e;exact ih _ e.2
theorem xF(e:List Nd):∀c q,eR e (c+q)↔eR e c/\eR (e.drop (aN e c)) q:=by
 induction e with
 |nil=>
  intro c q;cases c with
  |zero=>simp
  |succ c=>rw [show c+1+q=(c+q)+1 by omega];simp [eR]
 |cons n r ih=>
  intro c q;cases c with
  |zero=>simp
  |succ c=>
   rw [show c+1+q=(c+q)+1 by omega];simp only [eR,aN];rw [show c+q+bP n=(c+bP n)+q by omega,ih,zv 1,za]
theorem aEp{c:List Nd}{q:Nat}(e:eR c (q+1)):0<aN c (q+1):=by
 cases c with
 |nil=>exact e.elim
 |cons n r=>simp [aN];omega
theorem qI(e:Nat):∀(c:List Nd) (b:Nat),eR c e->∀f∈gD c e b,b<=f/\f<b+aN c e:=by
 induction e with
 |zero=>intro c b _ f h;simp at h
 |succ e ih=>
  intro c b i f h;rw [mF] at h;have k:aN c (e+1)=aN c 1+aN (c.drop (aN c 1)) e:=by rw [<-uY];congr 1;omega
  have g:=(xF c 1 e).1 (by rw [zv];exact i);have j:=aEp (q:=0) g.1;rw [z0] at j;rcases List.mem_cons.1 h with rfl|h
  ·omega
  ·have:=ih _ _ g.2 f h;omega
theorem aK5(e g:List Nd):∀c,eR e c->aN (e++g) c=aN e c:=by
 induction e with
 |nil=>intro c f;cases c with
  |zero=>simp
  |succ c=>exact f.elim
 |cons n r ih=>
  intro c f;cases c with
  |zero=>simp
  |succ c=>simp only [zh,aN];rw [ih _ f]
theorem aX0(f g:List Nd):∀c,eR f c->eR (f++g) c:=by
 induction f with
 |nil=>intro c e;cases c with
  |zero=>simp
  |succ c=>exact e.elim
 |cons n r ih=>
  intro c e;cases c with
  |zero=>simp
  |succ c=>exact ih _ e
theorem aX1(c:Nat):∀(e f:List Nd) (b:Nat),eR e c->gD (e++f) c b=gD e c b:=by
 induction c with
 |zero=>intro e f b _;rfl
 |succ c ih=>
  intro e f b i;have g:=(xF e 1 c).1 (by rw [zv];exact i);rw [mF,mF,aK5 _ _ _ g.1,List.drop_append_of_le_length (nR _ _),ih _ _ _ g.2]
theorem aEq(g:List Nd):∀(c e:Nat),eR g c->e<aN g c->∃f,g[e]?=some f/\eR (g.drop (e+1)) (bP f)/\e+1+aN (g.drop (e+1)) (bP f)<=aN g c:=by
 induction g with
 |nil=>intro c e j i;cases c<;>simp [aN] at i
 |cons f r ih=>
  intro c e j i;cases c with
  |zero=>simp at i
  |succ c=>
   simp only [aN] at i ⊢;have m:=(xF r (bP f) c).1 (by rw [zv];exact j);have n:=uY r (bP f) c;rw [zv (bP f) c] at n;cases e with
   |zero=>exact ⟨f,rfl,by simpa using m.1,by simp;omega⟩
   |succ e=>
    obtain ⟨o,k,l,p⟩:=ih (c+bP f) e j (by omega);exact ⟨o,by simpa using k,by simpa using l,by simp;omega⟩
def mR(e:Int)(c:Nd):Nd:=(c.1,c.2+e)
theorem bCt(e:Int)(c:Nd):aM (mR e c)=aM c:=rfl
def setParts(R:List Rw)(c:Nat)(e:List Nat):List Rw:=R.modify c λf=>{f with parts:=e}
theorem aK6(R:List Rw)(c:Nat)(e:List Nat):(setParts R c e).length=R.length:=by simp [setParts]
theorem uZ(R:List Rw)(e:Nat)(g:List Nat)(c:Nat):(setParts R e g)[c]?=if c=e then (R[c]?).map λj=>{j with parts:=g} else R[c]?:=by
 simp [setParts,List.getElem?_modify];by_cases f:c=e
 ·subst f;simp
 ·have:¬e=c:=λi=>f i.symm
  simp [f,this]
inductive fK(up:Int):List Rw->Nat->List Nd->List Rw->List Nat->List Nd->Prop
 |nil (R:List Rw) (s:List Nd):fK up R 0 s R [] s
 |old {R:List Rw} {n:Nd} {i k:Nat} {s:List Nd} {R':List Rw} {ps:List Nat} {s':List Nd}:aM n=true->(∃r,R[i]?=some r/\r.node=mR up n)->fK up R k s R' ps s'->fK up R (k+1) (n::s) R' (i::ps) s'
 |new {R:List Rw} {n:Nd} {k:Nat} {s:List Nd} {R':List Rw} {ps:List Nat} {s':List Nd}:aM n=true->(∀r∈R,r.node≠mR up n)->fK up (R++[⟨mR up n,R.length,[]⟩]) k s R' ps s'->fK up R (k+1) (n::s) R' (R.length::ps) s'
 |name {R:List Rw} {n:Nd} {k:Nat} {s:List Nd} {R1:List Rw} {qs:List Nat} {s1:List Nd} {R':List Rw} {ps:List Nat} {s':List Nd}:aM n=false->fK up (R++[⟨n,R.length,[]⟩]) (bP n) s R1 qs s1->fK up (setParts R1 R.length qs) k s1 R' ps s'->fK up R (k+1) (n::s) R' (R.length::ps) s'
theorem fK.append{q:Int}{e:Nat}{k:List Nd}{o:List Rw}{m:List Nat}{p:List Nd}(f:fK q R e k o m p):∀{c:Nat} {g:List Rw} {j:List Nat} {l:List Nd},fK q o c p g j l->fK q R (e+c) k g (m++j) l:=by
 induction f with
 |nil R k=>intro c g j l f;rw [z0];exact f
 |@old R n i e k R' m s' a b _ ih=>intro c g j l f;rw [show e+1+c=(e+c)+1 by omega];exact fK.old a b (ih f)
 |@new R n e k R' m s' a b _ ih=>intro c g j l f;rw [show e+1+c=(e+c)+1 by omega];exact fK.new a b (ih f)
 |@name R n e k o j p R' m s' a b _ _ ih=>intro c g r l f;rw [show e+1+c=(e+c)+1 by omega];exact fK.name a b (ih f)
def pE(R:List Rw):Prop:=∀(e f:Nat) (c g:Rw),R[e]?=some c->R[f]?=some g->aM c.node=true->c.node=g.node->e=f
structure kL(up:Int)(R:List Rw)(k:Nat)(s:List Nd)(R':List Rw)(ps:List Nat)(s':List Nd)(g:Nat->Nat):Prop where
 full:eR s k
 rest:s'=s.drop (aN s k)
 ps:ps=(gD s k 0).map g
 more:R.length<=R'.length
 ext:∀i,i<R.length->R'[i]?=R[i]?
 var:∀i n,i<aN s k->s[i]?=some n->aM n=true->∃r,R'[g i]?=some r/\r.node=mR up n
 name:∀i n,i<aN s k->s[i]?=some n->aM n=false->R'[g i]?=some ⟨n,g i,(gD (s.drop (i+1)) (bP n) (i+1)).map g⟩/\R.length<=g i
 inj:∀i j n m,i<aN s k->j<aN s k->s[i]?=some n->s[j]?=some m->aM n=false->aM m=false->g i=g j->i=j
 onto:∀r,R.length<=r->r<R'.length->∃i,i<aN s k/\g i=r
 fresh:∀r x,R.length<=r->R'[r]?=some x->x.cls=r/\(aM x.node=true->x.parts=[])
 once:pE R->pE R'
theorem kL.lt{p:Int}{i:Nat}{k:List Nd}{R':List Rw}{n:List Nat}{o:List Nd}{g:Nat->Nat}(e:kL p R i k R' n o g){c:Nat}(f:c<aN k i):g c<R'.length:=by
 obtain ⟨j,l,_,_⟩:=aEq k i c e.full f;cases hv:aM j with
 |true=>obtain ⟨q,m,_⟩:=e.var c j f l hv;exact (zz.1 m).1
 |false=>exact (zz.1 (e.name c j f l hv).1).1
theorem pE.name{R:List Rw}(p:pE R){r:Rw}(w:aM r.node=false):pE (R++[r]):=by
 intro i j n o s t f g;have l:∀(k:Nat) (e:Rw),(R++[r])[k]?=some e->aM e.node=true->R[k]?=some e:=by
  intro k e c m;by_cases u:k<R.length
  ·rwa [zi u] at c
  ·rw [zl (by omega)] at c;have:k-R.length=0:=by
    by_cases q:k-R.length=0
    ·exact q
    ·rw [zf (by simp;omega)] at c;simp at c
   rw [this] at c;simp at c;rw [<-c,w] at m;cases m
 exact p i j n o (l i n s f) (l j o t (by rw [<-g];exact f)) f g
theorem pE.new{R:List Rw}(p:pE R){f:Rw}(m:∀e∈R,e.node≠f.node):pE (R++[f]):=by
 have l:∀(k:Nat) (e:Rw),(R++[f])[k]?=some e->R[k]?=some e\/(k=R.length/\e=f):=by
  intro k e c;by_cases t:k<R.length
  ·rw [zi t] at c;exact zs c
  ·rw [zl (by omega)] at c;have:k-R.length=0:=by
    by_cases q:k-R.length=0
    ·exact q
    ·rw [zf (by simp;omega)] at c;simp at c
   rw [this] at c;simp at c;exact zo ⟨by omega,c.symm⟩
 intro n o i j r s u g;rcases l n i r with a|⟨a,rfl⟩<;>rcases l o j s with b|⟨b,rfl⟩
 ·exact p n o i j a b u g
 ·exact absurd g (m i (ze a))
 ·exact absurd g.symm (m j (ze b))
 ·omega
theorem pE.parts(q:pE R)(k:Nat)(n:List Nat):pE (setParts R k n):=by
 have m:∀(c:Nat) (f:Rw),(setParts R k n)[c]?=some f->∃g,R[c]?=some g/\g.node=f.node:=by
  intro c f e;rw [uZ] at e;split at e
  ·rw [Option.map_eq_some_iff] at e;obtain ⟨g,i,rfl⟩:=e;exact ⟨g,i,rfl⟩
  ·exact ⟨f,e,rfl⟩
 intro c j w x i r u o;obtain ⟨a,s,l⟩:=m c w i;obtain ⟨b,t,p⟩:=m j x r;exact q c j a b s t (by rw [l];exact u) (by rw [l,p];exact o)
inductive fA(B:Nat->Nat->Prop):Nat->Nat->Prop
 |refl (i):fA B i i
 |base {i j}:B i j->fA B i j
 |symm {i j}:fA B i j->fA B j i
 |trans {i j k}:fA B i j->fA B j k->fA B i k
theorem fA.le{R:Nat->Nat->Prop}(g:∀c,R c c)(i:∀c e,R c e->R e c)(j:∀c e k,R c e->R e k->R c k)(l:∀c e,B c e->R c e){c e:Nat}(f:fA B c e):R c e:=by
 induction f with
 |refl c=>exact g c
 |base f=>exact l _ _ f
 |symm _ ih=>exact i _ _ ih
 |trans _ _ a b=>exact j _ _ _ a b
theorem fA.mono{c:Nat->Nat->Prop}(e:∀i j,B i j->fA c i j){i j:Nat}(k:fA B i j):fA c i j:=k.le fA.refl (λ_ _=>fA.symm) (λ_ _ _=>fA.trans) e
def aF(c:List Nd):Gr:=⟨λi=>(c[i]?).getD (⟨#[]⟩,0),λi=>match c[i]? with|some n=>gD (c.drop (i+1)) (bP n) (i+1)|none=>[]⟩
theorem kM{f:List Nd}{g:Nat}(c:(aF f).named g):∃e,f[g]?=some e/\aM e=false:=by
 unfold Gr.named aF at c;simp only at c;cases hl:f[g]? with
 |none=>rw [hl] at c;simp only [Option.getD_none] at c;rw [nJ] at c;cases c
 |some e=>rw [hl] at c;exact ⟨e,rfl,c⟩
theorem fW{c:List Nd}{e:Nat}{n:Nd}(f:c[e]?=some n):(aF c).named e↔aM n=false:=by unfold Gr.named aF;simp [f]
theorem mG{c:List Nd}{e:Nat}{f:Nd}(g:c[e]?=some f):(aF c).lab e=f:=by simp [aF,g]
theorem fX{L:List Nd}{c:Nat}{e:Nd}(f:L[c]?=some e):(aF L).ch c=gD (L.drop (c+1)) (bP e) (c+1):=by simp [aF,f]
theorem qJ(g:List Nd):(aF g).Arity:=by intro k l i j c;obtain ⟨n,e,_⟩:=kM i;obtain ⟨m,f,_⟩:=kM j;rw [mG e,mG f] at c;rw [fX e,fX f,tV,tV,c]
structure gW(F:List Nat)(rt d:Nat->Nat):Prop where
 lt:∀p q:Nat,F[p]?=some q->q<F.length
 root:∀p:Nat,F[p]?=some p->rt p=p
 step:∀p q:Nat,F[p]?=some q->q≠p->rt p=rt q/\d q<d p
 out:∀p:Nat,F.length<=p->rt p=p
theorem gW.isRoot{g:List Nat}(j:gW g rt d):∀(k c:Nat),d c<=k->c<g.length->g[rt c]?=some (rt c):=by
 intro k;induction k with
 |zero=>
  intro c m l;obtain ⟨e,f⟩ : ∃e,g[c]?=some e:=⟨g[c],zx l⟩;by_cases i:e=c
  ·subst i;rw [j.root _ f];exact f
  ·have:=(j.step c e f i).2;omega
 |succ k ih=>
  intro c m l;obtain ⟨e,f⟩ : ∃e,g[c]?=some e:=⟨g[c],zx l⟩;by_cases i:e=c
  ·subst i;rw [j.root _ f];exact f
  ·have n:=j.step c e f i;rw [n.1];exact ih e (by omega) (j.lt c e f)
theorem gW.rootAt{e:List Nat}(f:gW e rt d){c:Nat}(g:c<e.length):e[rt c]?=some (rt c):=f.isRoot _ c (zt _) g
theorem gW.rt_lt{c:List Nat}(e:gW c rt d){p:Nat}(f:p<c.length):rt p<c.length:=(zz.1 (e.rootAt f)).1
theorem gW.rt_rt{e:List Nat}(c:gW e rt d)(p:Nat):rt (rt p)=rt p:=by
 by_cases f:p<e.length
 ·exact c.root _ (c.rootAt f)
 ·rw [c.out p (by omega),c.out p (by omega)]
def gM(rt:Nat->Nat)(a b c:Nat):Nat:=if rt c=a then b else rt c
def dJ(rt d:Nat->Nat)(a b c:Nat):Nat:=if rt c=a then d c+d b+1 else d c
theorem gW.join{k:List Nat}(g:gW k rt d){a b:Nat}(n:k[a]?=some a)(o:k[b]?=some b)(l:a≠b):gW (k.set a b) (gM rt a b) (dJ rt d a b):=by
 have w:=(zz.1 o).1;have u:=(zz.1 n).1;have r:=g.root a n;have s:=g.root b o;refine ⟨λf m c=>?_,λf e=>?_,λf m c q=>?_,λf e=>?_⟩
 ·rw [zr] at c;rw [zm];split at c
  ·simp at c;omega
  ·exact g.lt f m c
 ·rw [zr] at e;split at e
  ·rename_i i;subst i;simp at e;exact absurd e.symm l
  ·rename_i i;have:=g.root f e;unfold gM;rw [this,aI (λj=>i j.symm)]
 ·rw [zr] at c;split at c
  ·rename_i i;subst i;simp at c;subst c;unfold gM dJ;rw [r,s,aJ rfl,aI (λj=>l j.symm),aI (λj=>l j.symm),aJ rfl];exact ⟨rfl,by omega⟩
  ·obtain ⟨p,t⟩:=g.step f m c q;unfold gM dJ;rw [p];refine ⟨rfl,?_⟩;split<;>omega
 ·rw [zm] at e;unfold gM;rw [g.out f e,aI (by omega)]
theorem aK7(g i:Nat):gM rt a b g=gM rt a b i↔rt g=rt i\/(rt g=a/\rt i=b)\/(rt g=b/\rt i=a):=by
 unfold gM;by_cases e:rt g=a<;>by_cases f:rt i=a
 ·simp [e,f]
 ·rw [aJ e,aI f,e];constructor
  ·intro c;exact zo (zs ⟨rfl,c.symm⟩)
  ·rintro (c|⟨_,c⟩|⟨_,c⟩)
   ·exact absurd c.symm f
   ·exact c.symm
   ·exact absurd c f
 ·rw [aI e,aJ f,f];constructor
  ·intro c;exact zo (zo ⟨c,rfl⟩)
  ·rintro (c|⟨c,_⟩|⟨c,_⟩)
   ·exact absurd c e
   ·exact absurd c e
   ·exact c
 ·rw [aI e,aI f];constructor
  ·exact zs
  ·rintro (c|⟨c,_⟩|⟨_,c⟩)
   ·exact c
   ·exact absurd c e
   ·exact absurd c f
def nX(c:List Nat):Nat:=(List.range c.length).countP λp=>c[p]?==some p
theorem aK8{e:List Nat}(f:e[a]?=some a)(j:a≠b):nX (e.set a b)<nX e:=by
 have g:=(zz.1 f).1;unfold nX;rw [zm];refine aI5 _ _ _ (λk _ c=>?_) a (by simpa using g) ?_ ?_
 ·rw [zr] at c;split at c
  ·rename_i i;subst i;simp at c;omega
  ·exact c
 ·rw [zr];simp [g];omega
 ·simp [f]
def eQ(G:Gr)(E Q:Nat->Nat->Prop):Prop:=∀c e,E c e->G.named c->G.named e->G.lab c=G.lab e/\∀(k p i:Nat),(G.ch c)[k]?=some p->(G.ch e)[k]?=some i->fA (λf g=>E f g\/Q f g) p i
structure vA(E:Nat->Nat->Prop):Prop where
 refl:∀i,E i i
 symm:∀i j,E i j->E j i
 trans:∀i j k,E i j->E j k->E i k
theorem sM(rt:Nat->Nat):vA λf g=>rt f=rt g:=⟨λ_=>rfl,λ_ _ c=>c.symm,λ_ _ _ c e=>c.trans e⟩
def vD(Q:Nat->Nat->Prop)(a b:Nat)(c e:Nat):Prop:=Q c e\/(c=a/\e=b)
theorem eQ.mono{c:Nat->Nat->Prop}(f:eQ G E Q)(k:∀i j,Q i j->c i j):eQ G E c:=λx y e r s=>by
 obtain ⟨g,l⟩:=f x y e r s;exact ⟨g,λn p t o q=>(l n p t o q).mono λi j m=>fA.base (m.imp id (k i j))⟩
theorem eQ.same(e:eQ G E (vD Q a b))(k:E a b):eQ G E Q:=λs t c n o=>by
 obtain ⟨f,g⟩:=e s t c n o;refine ⟨f,λq p r l m=>(g q p r l m).mono λi j hij=>?_⟩;rcases hij with hij|hij|⟨rfl,rfl⟩
 ·exact fA.base (zs hij)
 ·exact fA.base (zo hij)
 ·exact fA.base (zs k)
def nY(E E':Nat->Nat->Prop)(a b:Nat):Prop:=∀c e,E' c e↔E c e\/(E c a/\E e b)\/(E c b/\E e a)
theorem nY.le(g:nY E E' a b){c e:Nat}(f:E c e):E' c e:=(g c e).2 (zs f)
theorem nY.ab(e:nY E E' a b)(c:vA E):E' a b:=(e a b).2 (zo (zs ⟨c.refl a,c.refl b⟩))
theorem nY.eqv{Q':Nat->Nat->Prop}(f:nY E E' a b)(k:vA E)(l:∀c e,Q c e->Q' c e){g i:Nat}(j:fA (λc e=>E c e\/vD Q a b c e) g i):fA (λc e=>E' c e\/Q' c e) g i:=
 j.mono λc e hij=>by
  rcases hij with hij|hij|⟨rfl,rfl⟩
  ·exact fA.base (zs (f.le hij))
  ·exact fA.base (zo (l _ _ hij))
  ·exact fA.base (zs (f.ab k))
theorem eQ.var{G:Gr}{E E' Q:Nat->Nat->Prop}{a b:Nat}(m:eQ G E (vD Q a b))(q:vA E)(l:nY E E' a b)(hv:(∀p,E p a->¬G.named p)\/∀p,E p b->¬G.named p):eQ G E' Q:=λc e f j k=>by
 rcases (l c e).1 f with f|⟨g,i⟩|⟨g,i⟩
 ·obtain ⟨n,o⟩:=m c e f j k;exact ⟨n,λt p u r s=>l.eqv q (λ_ _=>id) (o t p u r s)⟩
 ·rcases hv with hv|hv
  ·exact absurd j (hv c g)
  ·exact absurd k (hv e i)
 ·rcases hv with hv|hv
  ·exact absurd k (hv e i)
  ·exact absurd j (hv c g)
def qK(G:Gr)(Q:Nat->Nat->Prop)(a b k:Nat)(e f:Nat):Prop:=Q e f\/∃c,k<=c/\(G.ch a)[c]?=some e/\(G.ch b)[c]?=some f
theorem eQ.name{G:Gr}{E E' Q:Nat->Nat->Prop}{a b f g:Nat}(z:eQ G E (vD Q a b))(s:vA E)(u:nY E E' a b)(H:G.Arity)(W:E a f)(X:E b g)(M:G.named f)(N:G.named g)(Y:G.lab f=G.lab g):eQ G E' (qK G Q f g 0):=by
 have L:∀c e,E c a->E e b->G.named c->G.named e->G.lab c=G.lab e/\∀(k p l:Nat),(G.ch c)[k]?=some p->(G.ch e)[k]?=some l->fA (λi j=>E' i j\/qK G Q f g 0 i j) p l:=by
  intro c e U V q r;obtain ⟨D,O⟩:=z c f (s.trans _ _ _ U W) q M;obtain ⟨F,P⟩:=z e g (s.trans _ _ _ V X) r N;refine ⟨D.trans (Y.trans F.symm),λk p l m o=>?_⟩;have I:k<(G.ch f).length:=by rw [<-H c f q M D];exact (zz.1 m).1
  have J:k<(G.ch g).length:=by rw [<-H e g r N F];exact (zz.1 o).1
  have S:=u.eqv s (Q':=qK G Q f g 0) (λi j t=>zs t) (O k p _ m (zx I));have T:=u.eqv s (Q':=qK G Q f g 0) (λi j t=>zs t) (P k l _ o (zx J));exact S.trans ((fA.base (zo (zo ⟨k,Nat.zero_le _,zx I,zx J⟩))).trans T.symm)
 intro c e w q r;rcases (u c e).1 w with w|⟨x,y⟩|⟨x,y⟩
 ·obtain ⟨A,C⟩:=z c e w q r;exact ⟨A,λn p l m o=>u.eqv s (λi j t=>zs t) (C n p l m o)⟩
 ·exact L c e x y q r
 ·obtain ⟨A,C⟩:=L e c y x r q;exact ⟨A.symm,λk p l m o=>(C k l p o m).symm⟩
theorem eQ.part{k i j:Nat}(m:eQ G E (qK G Q a b k))(n:(G.ch a)[k]?=some i)(o:(G.ch b)[k]?=some j):eQ G E (vD (qK G Q a b (k+1)) i j):=
 m.mono λq r f=>by
  rcases f with f|⟨g,p,c,e⟩
  ·exact zs (zs f)
  ·by_cases l:g=k
   ·subst l;rw [n] at c;rw [o] at e;simp at c e;exact zo ⟨c.symm,e.symm⟩
   ·exact zs (zo ⟨g,by omega,c,e⟩)
theorem eQ.allParts{e:Nat}(f:eQ G E (qK G Q a b e))(j:(G.ch a).length<=e):eQ G E Q:=
 f.mono λk l c=>by
  rcases c with c|⟨m,i,g,_⟩
  ·exact c
  ·have:=(zz.1 g).1;omega
theorem eQ.done(g:eQ G E λ_ _=>False)(c:vA E)(p:∀i j,E i j->Cl G B i j)(l:∀i j,B i j->E i j):(∀i j,E i j↔Cl G B i j)/\eS G (Cl G B):=by
 have m:fH G E:=⟨c.refl,c.symm,c.trans,λi j q r s hij e f n o=>((g i j hij e f).2 q r s n o).le c.refl c.symm c.trans λi j hij=>by
  rcases hij with hij|hij
  ·exact hij
  ·exact hij.elim⟩
 have k:∀i j,E i j↔Cl G B i j:=λi j=>⟨p i j,Cl.le m l⟩
 exact ⟨k,λi j hij e f=>(g i j ((k i j).2 hij) e f).1⟩
section
def fE(c:List Nd):List Nat:=(List.range c.length).map λp=>p+aN (c.drop p) 1
theorem iW(c:List Nd):(fE c).length=c.length:=by simp [fE]
theorem xG(e:List Nd)(c:Nat)(f:c<e.length):(fE e)[c]?=some (c+aN (e.drop c) 1):=by simp [fE,f]
abbrev jP(c:List Nat):List Value:=c.map λx:Nat=>zq .i64 x
structure bO(w:World)(B tb:Nat)(vn ve vl vs vm:Value)(L:List Nd)(F:List Nat)(S:List Int):Prop where
 box:w.heap[tb]?=some (.cells #[vn,ve,vl,vs,vm] 157)
 high:B<=tb
 rn:w.ownsRow B 106 2 vn L.length (aP L)
 re:w.ownsRow B 3 1 ve L.length (jP (fE L))
 rl:w.ownsRow B 3 1 vl L.length (jP F)
 rs:w.ownsRow B 3 1 vs L.length (S.map (zq .i64))
 lf:F.length=L.length
 ls:S.length=L.length
 few:L.length<=1000000
 short:∀n∈L,n.1.size<=140737488355328
 ab:ve.ownBlock≠vl.ownBlock
 ac:ve.ownBlock≠vs.ownBlock
 bc:vl.ownBlock≠vs.ownBlock
section
variable {w:World}{B tb:Nat}{vn ve vl vs vm:Value}{L:List Nd}{F:List Nat}{S:List Int}
theorem bO.c0(c:bO w B tb vn ve vl vs vm L F S):w.cell? ⟨tb,0,none⟩=some vn:=by simp [zc,c.box]
theorem bO.c1(c:bO w B tb vn ve vl vs vm L F S):w.cell? ⟨tb,1,none⟩=some ve:=by simp [zc,c.box]
theorem bO.c2(c:bO w B tb vn ve vl vs vm L F S):w.cell? ⟨tb,2,none⟩=some vl:=by simp [zc,c.box]
theorem bO.c3(c:bO w B tb vn ve vl vs vm L F S):w.cell? ⟨tb,3,none⟩=some vs:=by simp [zc,c.box]
theorem aEr{w:World}{B:Nat}{c:List Nat}{f:Nat}(i:w.ownsRow B 3 1 v f (jP c))(k:c.length=f):∃a j,v=.slice a f j/\∀e (i:e<c.length),∃g,a=some ⟨g,0,none⟩/\w.cell? ⟨g,e,none⟩=some (.int .i64 c[e]):=by
 subst k;exact tN i
theorem aX2{w:World}{B:Nat}{c:List Int}{f:Nat}(i:w.ownsRow B 3 1 v f (c.map (zq .i64)))(k:c.length=f):∃a j,v=.slice a f j/\∀e (i:e<c.length),∃g,a=some ⟨g,0,none⟩/\w.cell? ⟨g,e,none⟩=some (.int .i64 c[e]):=by
 subst k;exact aCp i
theorem bO.below(c:bO w B tb vn ve vl vs vm L F S){wx:World}(k:aC w wx):bO wx B tb vn ve vl vs vm L F S:=
 ⟨by rw [k.block tb (zw.1 c.box).1,c.box],c.high,bB c.rn k (zt _),bB c.re k (zt _),bB c.rl k (zt _),bB c.rs k (zt _),c.lf,c.ls,c.few,c.short,c.ab,c.ac,c.bc⟩
theorem bO.drewN(c:bO w B tb vn ve vl vs vm L F S)(d:Nat):bO (w.drewN d) B tb vn ve vl vs vm L F S:=c.below (aL ⟨d,rfl⟩)
theorem bO.grown(c:bO w B tb vn ve vl vs vm L F S){g:World}{e:Option Nat}(f:w.grownBy g e)(j:e≠some tb)(k:vn.ownBlock=none\/vn.ownBlock≠e)(l:ve.ownBlock=none\/ve.ownBlock≠e)(m:vl.ownBlock=none\/vl.ownBlock≠e)(n:vs.ownBlock=none\/vs.ownBlock≠e):bO g B tb vn ve vl vs vm L F S:=
 ⟨by rw [f.block tb (zw.1 c.box).1 (λi=>j i.symm),c.box],c.high,dW c.rn f k,dW c.re f l,dW c.rl f m,dW c.rs f n,c.lf,c.ls,c.few,c.short,c.ab,c.ac,c.bc⟩
theorem zC{w:World}{B:Nat}{i:TypeId}{m:Nat}{l:Nat}{n:List Value}(j:w.ownsRow B i m v l n){f:Nat}(c:v.ownBlock=some f):∃e:Obj,w.heap[f]?=some e/\e.isCells=true:=by
 obtain ⟨_,⟨rfl,_⟩|⟨g,o,p,rfl,_,k,_⟩⟩:=j
 ·simp [zb] at c
 ·simp [zb] at c;subst c;exact ⟨_,k,rfl⟩
theorem zD{w:World}{B:Nat}{c:TypeId}{q:Nat}{p:Nat}{r:List Value}(l:w.ownsRow B c q v p r){j:Option Nat}(o:∀k,j=some k->∃f:Obj,w.heap[k]?=some f/\f.isCells=false):v.ownBlock=none\/v.ownBlock≠j:=by
 cases hv:v.ownBlock with
 |none=>exact zs rfl
 |some g=>
  right;intro c;obtain ⟨f,m,n⟩:=o g c.symm;obtain ⟨s,e,i⟩:=zC l hv;rw [m] at e;simp at e;subst e;rw [n] at i;cases i
theorem bO.others(c:bO w B tb vn ve vl vs vm L F S){k:World}{i:Option Nat}(n:w.grownBy k i)(e:∀j,i=some j->∃g:Obj,w.heap[j]?=some g/\g.isCells=false):bO k B tb vn ve vl vs vm L F S:=
 c.grown n (λl=>by obtain ⟨g,f,m⟩:=e tb l;rw [c.box] at f;simp at f;subst f;cases m) (zD c.rn e) (zD c.re e) (zD c.rl e) (zD c.rs e)
theorem aK9(F:List Nat)(a b:Nat):(jP F).set a (.int .i64 b)=jP (F.set a b):=by rw [<-List.map_set]
theorem bO.lead{f i:Nat}(c:bO w B tb vn ve (.slice (some ⟨f,0,none⟩) L.length i) vs vm L F S)(a b:Nat):bO (w.setCell ⟨f,a,none⟩ (.int .i64 b)) B tb vn ve (.slice (some ⟨f,0,none⟩) L.length i) vs vm L (F.set a b) S/\w.grownBy (w.setCell ⟨f,a,none⟩ (.int .i64 b)) (some f):=by
 have g:=bX w ⟨f,a,none⟩ (.int .i64 b);refine ⟨⟨?_,c.high,dW c.rn g ?_,dW c.re g (zo c.ab),?_,dW c.rs g (zo λe=>c.bc e.symm),by rw [zm];exact c.lf,c.ls,c.few,c.short,c.ab,c.ac,c.bc⟩,g⟩
 ·rw [g.block tb (zw.1 c.box).1 (λe=>dY c.rl c.box (by decide) e.symm),c.box]
 ·rcases bW c.rn c.rl (by decide) with e|e
  ·exact zs e
  ·exact zo e
 ·have j:=(c.rl.stored a (.int .i64 b)).1;rw [aK9] at j;exact j
end
theorem aEs(B C:Nat)(O L M P N:Value)(k:List Nd)(f:List Nat)(H:List Int)(rt d:Nat->Nat)(j:Nat)(s:World)(i:bO s B C O L M P N k f H)(u:gW f rt d)(J:j<k.length):Calls zy 131 #[.pointer (some ⟨C,0,none⟩),.int .i64 j] s λg S=>g=.returned (.int .i64 (rt j))/\S=s:=by
 obtain ⟨T,V,rfl,y⟩:=aEr i.rl i.lf;have U:=i.c2;have D:=aA y;have n:=aA u;have z:=i.lf;have Y:=i.few;have o:=aA z;clear y u i z;go_enter Tryz.func131,Tryz.ntmps131;go_wp2;go_loop [1] (λe=>∃c:Nat,c<k.length/\rt c=rt j/\e=.int .i64 c) (λe=>d (intOf e).toNat);case atStart=>exact ⟨j,J,rfl,rfl⟩
 case round=>
  obtain ⟨c,x,m,rfl⟩:=hrel;obtain ⟨X,rfl,W⟩:=D.o c (by rw [o.o];exact x);have Z:(c:Int)<(k.length:Int):=by omega
  have I:c<f.length:=by rw [o.o];exact x
  have l:f[c]?=some f[c]:=zx I;have A:=n.o.lt c _ l;have r:=n.o.step c _ l;have q:=n.o.root c;generalize f[c]=e at *;by_cases g:e=c
  ·have p:aG (rt j=c):=aA (by rw [<-m];exact q (by rw [l,g]));have w:((e:Int) != (c:Int))=false:=by rw [g];simp
   clear r q l m;subst g;clear w;go_wp2;go_ret;exact ⟨kU (by rw [p.o]),rfl⟩
  ·have w:((e:Int) != (c:Int))=true:=by rw [bne_iff_ne];omega
   have t:=aA (r g);have p:=aA m;have F:=aA (show e<k.length by rw [<-o.o];exact A);clear r q l m A;go_wp2;go_round;case rel=>exact ⟨e,F.o,by rw [<-t.o.1];exact p.o,rfl⟩
   case measure=>have:=t.o.2;simpa [intOf] using this
theorem aX3:laidOutB zy=true:=by kernel_rfl
theorem zE:Maps.Keyed zy 195:=Maps.Keyed.of_law (deep_law_laid aX3 (m:=2) (by decide) (of_decide_eq_true (by kernel_rfl)) (by kernel_rfl) (by kernel_rfl))
def qL(c e:Int):Value:=.agg #[.int .i64 c,.int .i64 e]
theorem aX4(i:Nat)(c e:Int)(j:(Lit.int .i64 c).wf=true)(k:(Lit.int .i64 e).wf=true):zy.keyLits (i+1+1) 195 [.int .i64 c,.int .i64 e]=some [.int .i64 c,.int .i64 e]:=by
 have f:zy.cellsOf 195=2:=by kernel_rfl
 have g:zy.cellsOf 3=1:=by kernel_rfl
 unfold Program.keyLits;simp only [zk,f];simp [List.mapM_cons,Program.keyLits,zg,g,j,k]
theorem aX5(c e:Int)(f : -1000000000<=c/\c<=1000000000)(g : -1000000000<=e/\e<=1000000000):∃m,keyOf zy 195 (qL c e)=some m:=by
 have k:zy.keyType 195=true:=by kernel_rfl
 have i:zy.cellsOf 195=2:=by kernel_rfl
 have l:zy.types.size+1=(zy.types.size-1)+1+1:=by have:0<zy.types.size:=of_decide_eq_true (by kernel_rfl);omega
 have j:(qL c e).formed zy 195=true:=by unfold Value.formed qL;simp only [zk,i];rfl
 unfold keyOf;simp only [zk,k,j,Bool.and_self,if_true];rw [l];have:=aX4 (zy.types.size-1) c e (aDc f.1 f.2) (aDc g.1 g.2);exact ⟨_,by rw [show (qL c e).cells.toList=[.int .i64 c,.int .i64 e] from rfl,this];rfl⟩
theorem aKa(c:Nat):(Builtin.zeroCells (zq .i64 0).cells c).toList=zu c (.int .i64 0):=by
 apply List.ext_getElem?;intro g;have f:(zq .i64 0).cells=#[.int .i64 0]:=rfl;rw [f];by_cases e:g<c
 ·simp [Builtin.zeroCells,e,Nat.mod_one]
 ·simp [Builtin.zeroCells,e]
theorem aKb(f:World)(F:TypeId)(p:Nat)(v:Value)(e c:Nat)(i:List Value)(l:f.ownsRow p 3 1 v e i)(Z:v.ownBlock≠none)(T:0<c)(a2:e+c<=1000000)(J:p<=f.heap.size):∃o u,(Builtin.append_ #[25,3] F #[v,.int .i64 c]).run zy f=.ok o u/\u.ownsRow p 3 1 o (e+c) (i++zu c (.int .i64 0))/\f.grownBy u v.ownBlock/\(o.ownBlock=v.ownBlock\/o.ownBlock=some f.heap.size):=by
 obtain ⟨D,x,C,z,t⟩:=info_parts rR;have r:(i++zu c (zq .i64 0)).length=(e+c)*1:=by rw [List.length_append,l.1];simp
 rcases l.2 with ⟨rfl,rfl⟩|⟨g,k,n,rfl,L,w,a4,M,a3,A⟩
 ·exact absurd rfl Z
 ·by_cases y:e+c<=k
  ·have Y:=run_storeCells_at zy g e 3 (zu c (zq .i64 0)) 0 n f w (by simp;omega) (by intro m s;rw [List.eq_of_mem_replicate s];rfl);have a0:IntKind.i64.wrap (c:Int)=c:=by rw [IntKind.wrap_i64];omega
   have V:¬((c:Int)<0):=by omega
   have I:¬(281474976710656<(c:Int)*8):=by omega
   have U:c≠0:=by omega
   refine ⟨.slice (some ⟨g,0,none⟩) (e+c) k,f.setRow g (n.toList.take e++zu c (zq .i64 0)++n.toList.drop (e+c)).toArray,?_,⟨r,.inr ⟨g,k,_,rfl,L,setRow_heap f g n _ 3 _ w,y,M,?_,?_⟩⟩,⟨rfl,rfl,rfl,by simp,λj _ q=>setRow_other f g j _ (λH=>q (by simp [zb,H]))⟩,zs rfl⟩
   ·simp [Builtin.append_,run_underlying z1,run_underlying zg,sizeOf,typeInfo,zeroValue,x,C,z,t,asInt,asIntOf,a0,V,I,y,U,Addr.add_lit,aKa];rw [Y];simp
   ·simp;omega
   ·rw [Nat.mul_one] at A ⊢;have a1:i.length=e:=by have:=l.1;omega
    rw [A,<-show (i++zu c (zq .i64 0)).length=e+c by simp [a1]];exact List.take_left
  ·have W:∀j m,i[j]?=some m->f.cell? ((⟨g,0,none⟩ : Addr).add j)=some m:=l.cells (g:=g) rfl;have O:=run_firstCells_some (P:=zy) f.drew D.size e ⟨g,0,none⟩ e k i (by rw [z];exact l.1) (λj m s=>W j m s);have X:=Go.Lib.run_append_grow_zeros (P:=zy) f 25 3 F 3 D (.int .i64 0) .i64 .i64 z1 zg x C (some ⟨g,0,none⟩) e k i O c T (by omega) (by omega) (by omega) (by rw [t];omega) (growslice_fits (by omega) (by rw [t];omega));have S:=grownCap_ge f (e+c) k 3;have N:grownCap f (e+c) k 3<=maxLen:=grownCap_le_maxLen f (e+c) k 3 (by unfold maxLen;omega);refine ⟨_,_,X,⟨r,.inr ⟨f.heap.size,_,_,rfl,J,heap_alloc_new f.drew _,S,N,?_,?_⟩⟩,⟨rfl,rfl,rfl,by simp,λj q _=>Below.heap_alloc f.drew _ j q⟩,zo rfl⟩
   ·simp [size_zeroCells,l.1,Value.cells];omega
   ·rw [Nat.mul_one];simp only [Array.toList_append,aKa];rw [<-show (i++zu c (zq .i64 0)).length=e+c by rw [r];omega];exact List.take_left
abbrev Tg:=Int×Nd
def fY(c e:Int)(p:Tg):Bool:=aM p.2 && (decide (p.1=c) && decide (p.2.2=e))
def jZ(c:List Tg)(e f:Int):Option Nat:=c.findIdx? (fY e f)
theorem aEt(f:List Tg)(g:Tg)(c e:Int):jZ (f++[g]) c e=(jZ f c e).or (if fY c e g then some f.length else none):=by
 unfold jZ;rw [List.findIdx?_append];congr 1
 by_cases i:fY c e g=true<;>simp [i]
def nZ(c:List Tg)(f:Int)(e:Nd):Nat:=if aM e then (jZ c f e.2).getD c.length else c.length
structure oA(D:DataW Unit)(M:List Tg):Prop where
 tidy:Maps.Tidy D
 old:∀o x kl p,keyOf zy 195 (qL o x)=some kl->jZ M o x=some p->Maps.has D kl=true/\∀z,D.atKey kl z=.lit (.int .i64 p)
 new:∀o x kl,keyOf zy 195 (qL o x)=some kl->jZ M o x=none->Maps.has D kl=false
theorem oA.start:oA (.map []) []:=⟨⟨[],rfl,by simp⟩,λf i e g _ c=>by simp [jZ] at c,λ_ _ _ _ _=>rfl⟩
theorem oA.skip{m:DataW Unit}{f:List Tg}(i:oA m f){p:Tg}(hp:aM p.2=false\/jZ f p.1 p.2.2≠none):oA m (f++[p]):=by
 have n:∀c e,jZ (f++[p]) c e=jZ f c e:=by
  intro c e;rw [aEt];cases hf:jZ f c e with
  |some o=>rfl
  |none=>
   have:fY c e p=false:=by
    rcases hp with hp|hp
    ·simp [fY,hp]
    ·by_cases g:fY c e p=true
     ·simp [fY] at g;rw [g.2.1,g.2.2] at hp;exact absurd hf hp
     ·simpa using g
   simp [this]
 exact ⟨i.tidy,λc e l o j k=>i.old c e l o j (by rw [<-n];exact k),λc e l j k=>i.new c e l j (by rw [<-n];exact k)⟩
theorem aX6{c f e g:Int}(i:qL c f=qL e g):c=e/\f=g:=by simpa [qL] using i
theorem oA.put{w:DataW Unit}{i:List Tg}(l:oA w i){o:Int}{n:Nd}(D:aM n=true)(C:jZ i o n.2=none){u:Lit}(q:keyOf zy 195 (qL o n.2)=some u):oA (w.put u (.lit (.int .i64 i.length))) (i++[(o,n)]):=by
 have s:=zE.key q;have x:∀c e j,keyOf zy 195 (qL c e)=some j->¬(c=o/\e=n.2)->j≠u:=by rintro c e j g m rfl;exact m (aX6 (zE.inj g q))
 have p:∀c e,fY c e (o,n)=true↔(c=o/\e=n.2):=by
  intro c e;simp [fY,D];constructor
  ·rintro ⟨rfl,rfl⟩;exact ⟨rfl,rfl⟩
  ·rintro ⟨rfl,rfl⟩;exact ⟨rfl,rfl⟩
 refine ⟨l.tidy.put s _,λc e j z g f=>?_,λc e j g f=>?_⟩
 ·rw [aEt] at f;by_cases k:c=o/\e=n.2
  ·obtain ⟨rfl,rfl⟩:=k;rw [C,(p _ _).2 ⟨rfl,rfl⟩] at f;simp at f;subst f;rw [q] at g;simp at g;subst g;exact ⟨Maps.has_put_same l.tidy.isMap s _,λA=>Maps.atKey_put_same l.tidy.isMap s _ _⟩
  ·have t:jZ i c e=some z:=by
    cases hfo:jZ i c e with
    |some r=>rw [hfo] at f;simpa using f
    |none=>
     rw [hfo] at f;have:fY c e (o,n)=false:=by rw [<-Bool.not_eq_true,p];exact k
     simp [this] at f
   have y:=l.old c e j z g t;have m:=x c e j g k;exact ⟨by rw [Maps.has_put_other m];exact y.1,λA=>by rw [Maps.atKey_put_other m];exact y.2 A⟩
 ·rw [aEt] at f;by_cases k:c=o/\e=n.2
  ·rw [(p _ _).2 k] at f;cases hfo:jZ i c e with
   |some r=>rw [hfo] at f;simp at f
   |none=>rw [hfo] at f;simp at f
  ·have t:jZ i c e=none:=by
    cases hfo:jZ i c e with
    |some r=>rw [hfo] at f;simp at f
    |none=>rfl
   rw [Maps.has_put_other (x c e j g k)];exact l.new c e j g t
theorem aEu{f:TypeId}{c g:Nat}{e:DataW Unit}{a b:World}(k:a.ownsMap zy f gG c g e)(l:b.heap[c]?=a.heap[c]?):b.ownsMap zy f gG c g e:=by obtain ⟨j,i,m,n⟩:=k;exact ⟨j,i,by rw [l];exact m,n⟩
theorem aEv{i:TypeId}{c j:Nat}{e:DataW Unit}{a:World}(f:a.ownsMap zy i gG c j e):c<a.heap.size:=by obtain ⟨l,k,g,_⟩:=f;exact (zw.1 g).1
theorem sN{g:TypeId}{c i:Nat}{e:DataW Unit}{a b:World}(f:a.ownsMap zy g gG c i e)(j:aC a b):b.ownsMap zy g gG c i e:=aEu f (j.block c (aEv f))
theorem aX7(J l r b3:Nat)(b2:Option Addr)(s:DataW Unit)(f:List Tg)(e:Int)(g:ByteArray)(c:Int)(j:World)(X:j.cell? ⟨J,0,none⟩=some (.slice b2 f.length b3))(N:j.cell? ⟨J,4,none⟩=some (.map (some l)))
  (I:j.ownsMap zy 195 gG l r s) (F:oA s f) (b8:r<=f.length) (b7:f.length<=1000000) (T : -1000000000<=e/\e<=1000000000) (q : -1000000000<=c/\c<=1000000000):Calls zy 99 #[.pointer (some ⟨J,0,none⟩),.int .i64 e,.agg #[.string g,.int .i64 c]] j λO a8=>∃a7 V,O=.returned (.int .i64 (nZ f e (g,c)))/\a8.ownsMap zy 195 gG l a7 V/\oA V (f++[(e,(g,c))])/\a7<=f.length+1/\j.grownBy a8 (some l):=by
 have c0:J<j.heap.size:=World.block_lt_of_cell? j _ N;have C:=aA (λwx=>sE g c wx);by_cases w:g.toList.isEmpty=true
 ·have k:aM (g,c)=true:=w;rw [w] at C;obtain ⟨a6,a0⟩:=aX5 e c T q;have D:=aA I;have m:=aA F;have t:=aA a0;clear I F w T q;go_enter Tryz.func99,Tryz.ntmps99;go_wp2_with (first
   |(go_at_call 92;refine (aB C _).mono ?_;rintro O i ⟨rfl,u⟩;have n:aC j i:=((Below.refl _ _).alloc (zt _) _).trans (u.mono (by simp));have a4:=aD n X;have a5:=aD n N;have b6:i.cell? ⟨j.heap.size,1,none⟩=some (.int .i64 c):=aD u (by simp);have W:=aA n;clear n u)
   |go_in)
  have H:aC i (i.alloc (.cells #[.int .i64 e,.int .i64 c] 195)):=(Below.refl _ _).alloc (zt _) _;have c1:=aD H a4;have c2:=aD H a5;have b4:j.heap.size<=i.heap.size:=W.o.size;have L:=aA (W.o.trans (H.mono b4));have c3:(i.alloc (.cells #[.int .i64 e,.int .i64 c] 195)).cell? ⟨i.heap.size,0,none⟩=some (.int .i64 e):=by simp
  have c4:(i.alloc (.cells #[.int .i64 e,.int .i64 c] 195)).cell? ⟨i.heap.size,1,none⟩=some (.int .i64 c):=by simp
  generalize i.alloc (.cells #[.int .i64 e,.int .i64 c] 195)=w2 at *;have x:=aA (sN D.o L.o);clear a4 a5 b6 H a0 X N;cases hf:jZ f e c with
  |some p=>
   have U:=m.o.old e c a6 p t.o hf;have y:aG (nZ f e (g,c)=p):=aA (by unfold nZ;rw [k];simp [hf]);have M:=aA (m.o.skip (p:=(e,(g,c))) (zo (by simp [hf])));have o:∀wx:World,wx.ownsMap zy 195 gG l r s->(Instr.lookup 155 (.map (some l)) (.agg #[.int .i64 e,.int .i64 c]) true).run zy wx=.ok (.tuple #[.int .i64 p,.bool true]) wx:=λwx q=>by
    obtain ⟨v,b5,z,A⟩:=q.look_ok zE zj (Tryz.zeroValue3 _) (zd:=.lit (.int .i64 0)) (zp:=[]) rfl t.o;rw [U.2] at A;have P:=aAk A;subst P;rw [U.1] at z;exact z
   have a2:=o w2 x.o;have a3:=λd=>o (w2.drewN d) (sN x.o (aL ⟨d,rfl⟩))
   clear U hf k o;go_quiet (fail);go_wp2;go_ret;have Y:=aV L.o (aL (w1:=w2.drewN nq) ⟨nq,rfl⟩);exact ⟨r,s,kU (by rw [y.o]),sN D.o Y,M.o,by omega,iA Y⟩
  |none=>
   have S:=m.o.new e c a6 t.o hf;have y:aG (nZ f e (g,c)=f.length):=aA (by unfold nZ;rw [k];simp [hf]);have M:=aA (m.o.put k hf t.o);have o:∀wx:World,wx.ownsMap zy 195 gG l r s->(Instr.lookup 155 (.map (some l)) (.agg #[.int .i64 e,.int .i64 c]) true).run zy wx=.ok (.tuple #[.int .i64 0,.bool false]) wx:=λwx q=>by
    obtain ⟨v,b5,z,A⟩:=q.look_ok zE zj (Tryz.zeroValue3 _) (zd:=.lit (.int .i64 0)) (zp:=[]) rfl t.o;rw [aAj m.o.tidy.isMap S] at A;have P:=aAk A;subst P;rw [S] at z;exact z
   have a2:=o w2 x.o;have a3:=λd=>o (w2.drewN d) (sN x.o (aL ⟨d,rfl⟩))
   clear S hf k o;go_quiet (fail);go_wp2;obtain ⟨c5,b9,a1,Z⟩:=(sN x.o (aL (w1:=w2.drewN (nq+1)) ⟨_,rfl⟩)).update zE zj (by unfold maxLen;omega) (key:=.agg #[.int .i64 e,.int .i64 c]) (val:=.int .i64 f.length) (aB t) (d:=.lit (.int .i64 f.length)) (ps:=[]) rfl;have b1:=aA a1;have b0:=aA Z;clear a1 Z a2 a3;go_region;all_goals
    go_wp2;go_ret;exact ⟨r+1,_,kU (by rw [y.o]),b1.o,M.o,by omega,(iA (aV L.o (aL (w1:=w2.drewN (nq+1)) ⟨_,rfl⟩))).trans b0.o⟩
 ·have k:aM (g,c)=false:=by simpa [aM] using w
  rw [show g.toList.isEmpty=false by simpa using w] at C;have y:aG (nZ f e (g,c)=f.length):=aA (by unfold nZ;rw [k];rfl);have m:=aA (F.skip (p:=(e,(g,c))) (zs k));have D:=aA I;clear I F w k T q;go_enter Tryz.func99,Tryz.ntmps99;go_wp2_with (first
   |(go_at_call 92;refine (aB C _).mono ?_;rintro O i ⟨rfl,u⟩;have a9:=aA u;clear u)
   |go_in)
  go_ret;have n:aC j i:=((Below.refl _ _).alloc (zt _) _).trans (a9.o.mono (by simp));exact ⟨r,s,kU (by rw [y.o]),sN D.o n,m.o,by omega,iA n⟩
attribute [local go_sem] Oper.semAt_some
def dM(c:List Nd):Prop:=∀(e:Nat) (f:Nd),c[e]?=some f->eR (c.drop (e+1)) (bP f)
def jQ(g:List Nat)(e f:World):Prop:=∀c∈g,f.heap[c]?=e.heap[c]?
theorem jQ.trans{c:List Nat}{e B f:World}(j:jQ c e B)(k:jQ c B f):jQ c e f:=λi g=>(k i g).trans (j i g)
theorem jQ.put{e:List Nat}{w:World}(f:∀k∈e,k<w.heap.size)(c:World)(l:Nat)(o i:Obj)(j:w.heap.size<=l)(_:c.heap[l]?=some o)(_:o.isCells=false)(_:o.isWalk=false):jQ e c (c.putObj l i):=λk g=>World.putObj_heap_other (by have:=f k g;omega)
theorem jQ.cell{e:List Nat}{c B:World}(f:jQ e c B){p:Addr}{v:Value}(i:p.block∈e)(g:c.cell? p=some v):B.cell? p=some v:=(World.cell?_of_block (f _ i)).trans g
abbrev pF(c:List Nat):={x:Nat // x∈c}
structure mH(W:World)(ba bt tb ge:Nat)(L:List Nd)(a:Nat):Prop where
 ca:W.cell? ⟨ba,0,none⟩=some (.int .i64 a)
 ct:W.cell? ⟨bt,0,none⟩=some (.pointer (some ⟨tb,0,none⟩))
 ce:∃cap,W.cell? ⟨tb,1,none⟩=some (.slice (some ⟨ge,0,none⟩) L.length cap)
 en:∀p,p<L.length->W.cell? ⟨ge,p,none⟩=some (.int .i64 (p+aN (L.drop p) 1))
theorem mH.kept{W j:World}{e f i g:Nat}{L:List Nd}(c:mH W e f i g L a)(k:jQ [e,f,i,g] W j):mH j e f i g L a:=by obtain ⟨l,m⟩:=c.ce;exact ⟨k.cell (by simp) c.ca,k.cell (by simp) c.ct,⟨l,k.cell (by simp) m⟩,λo n=>k.cell (by simp) (c.en o n)⟩
theorem aKc{g:Type}{i:Nat}{c:List g->World->Prop}(k:AbidesFrom i c){e:List g}{f:World}(l:c e f)(d:Nat):c e (f.drewN d):=
 k e f _ none l ⟨rfl,rfl,rfl,zt _,λ_ _ _=>rfl⟩ (λm j=>by cases j)
theorem aEw(L Y p q z u:Nat)(c:List Nd)(a:Nat)(m:Nd)(g:List Nat)(P:(aF c).ch a=g)(d5:1<=L)(b3:dM c)(d3:c.length<=1000000)(x:c[a]?=some m)(n N:List (pF g)->World->Prop)(b0:Nat)(S:AbidesFrom b0 n)
  (U:∀f j l,n f l->f.length<g.length->YieldAt Fence.wide (L-1) zy Y #[.int .i64 (j.1:Nat)] l λr o=>
   (r=.returned (.bool true)/\n (f++[j]) o/\jQ [p,q,z,u] l o)\/(r=.returned (.bool false)/\N (f++[j]) o))
  (l:World) (T:mH l p q z u c a) (b2:n [] l):CallsIn Fence.wide L zy 149 #[.func (.yield Y) #[] #[],.pointer (some ⟨p,0,none⟩),.pointer (some ⟨q,0,none⟩)] l λr o=>(∃v,r=.returned v)/\
   ((∃Z:List (pF g),Z.map (λj=>j.1)=g/\n Z o)\/(∃f:List (pF g),f.map (λj=>j.1) <+: g/\N f o)):=by
 have W:=(zz.1 x).1;have F:=fX x;rw [P] at F;have b6:=b3 a m x;have X:aN (c.drop a) 1=1+aN (c.drop (a+1)) (bP m):=by rw [List.drop_eq_getElem_cons W,(zz.1 x).2];simp [aN]
 have d4:a+1+aN (c.drop (a+1)) (bP m)<=c.length:=by have:=nR (c.drop (a+1)) (bP m);simp at this;omega
 have a1:=aA F;generalize hE:aN (c.drop (a+1)) (bP m)=E at *;have a2:=aA hE;have a9:=aA U;have a3:=aA X;clear F hE U P X;refine callsIn_of_wp Tryz.func149 rfl trivial ?_;simp only [Tryz.ntmps149,List.size_toArray,List.length_cons,List.length_nil,Nat.reduceAdd,Nat.reduceSub,Array.replicate_succ,Array.replicate_zero,List.push_toArray,List.append_toArray,List.nil_append,zh];have O:=T.ca;gi_wp2
 clear O;gi_loopw [4] (λM wr=>∃(f:List (pF g)) (e i:Nat),M=.int .i64 e/\g=f.map (λj=>j.1)++gD (c.drop e) i e/\e+aN (c.drop e) i=a+1+E/\eR (c.drop e) i/\mH wr p q z u c a/\n f wr)
  (λM _=>a+1+E-(intOf M).toNat)
 case atStart=>exact ⟨[],a+1,bP m,by go_num,by rw [a1.o];rfl,by rw [a2.o],b6,T,b2⟩
 case round=>
  obtain ⟨f,e,i,rfl,t,y,H,k,w⟩:=hrel;have O:=k.ca;have c6:=k.ct;obtain ⟨c2,c4⟩:=k.ce;have b5:=k.en a W;rw [a3.o] at b5;have d2:(a:Int)<(c.length:Int):=by omega
  have C:=aA t;cases i with
  |zero=>
   simp at y;have A:=aA w;have d6:¬((e:Int)<(a:Int)+((1+E:Nat):Int)):=by omega
   clear t y k w H;gi_wp2
   gi_quiet (fail)
   gi_wp2
   go_end0;exact ⟨⟨_,rfl⟩,.inl ⟨f,by have:=C.o;simpa using this.symm,aKc S A.o _⟩⟩
  |succ i=>
   have I:=(xF (c.drop e) 1 i).1 (by rw [zv];exact H);have b9:=aEp (q:=0) I.1;rw [z0] at b9;have D:=uY (c.drop e) 1 i;rw [zv 1 i,zn] at D;have d7:(e:Int)<(a:Int)+((1+E:Nat):Int):=by omega
   have d8:(e:Int)<(c.length:Int):=by omega
   have J:e∈g:=by rw [t];simp [mF]
   have b7:f.length<g.length:=by have:=congrArg List.length t;simp [mF] at this;omega
   have b8:=k.en e (by omega);have a5:=aA k;have a0:=aA D;have a4:=aA I.2;have V:=λ(d:Nat)=>a9.o f ⟨e,J⟩ (wr.drewN d) (aKc S w d) b7
   have A:=aA y;clear t k H w y I D b8;gi_wp2
   gi_quiet (fail)
   obtain ⟨c9,e0,c0,c1,d9,b4⟩:=V nq;clear V;gi_wp2
   refine b4.mono ?_;rintro r b1 (⟨rfl,hJ3,hk3⟩|⟨rfl,hJx3⟩)
   ·have s:mH b1 p q z u c a:=mH.kept (W:=wr) a5.o hk3;have c7:=s.ct;obtain ⟨c3,c5⟩:=s.ce;have c8:=s.en e (by omega);generalize hst:aN (c.drop e) 1=st at *;have a8:=aA hst;have a6:=aA s;have a7:=aA hJ3;clear s hJ3 hk3 hst;gi_wp2
    go_roundw;case rel=>exact ⟨f++[⟨e,J⟩],e+st,i,by go_num,by refine C.o.trans ?_;rw [mF,a8.o,zn];simp,by have d0:=A.o;have d1:=a0.o;omega,by have:=a4.o;rw [zn] at this;exact this,a6.o,a7.o⟩
    case measure=>simp [intOf];omega
   ·gi_wp2
    refine bodyPost_ret (results_none rfl _ _ _) rfl ?_;exact ⟨⟨_,rfl⟩,.inr ⟨f++[⟨e,J⟩],⟨gD (c.drop (e+aN (c.drop e) 1)) i (e+aN (c.drop e) 1),by refine Eq.trans ?_ C.o.symm;rw [mF,zn];simp⟩,hJx3⟩⟩
end
