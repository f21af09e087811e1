import Derived.Test.YtmelidkanelpbaaGreatDoorUPut1G
import Derived.Test.YtmelidkanelpbaaGreatDoorUJnLG
import Derived.Test.YtmelidkanelpbaaGreatDoorPClauseG
open List renaming getElem?_eq_some_iff→zy,getElem?_append_left→zx,getElem?_append_right→zw,drop_eq_getElem_cons→zt,mem_cons→zq,length_append→zp,getElem?_map→zo
open Or renaming inl→zv,inr→zu
open Prod renaming snd→zz
namespace Go.Proofs.YtmelidkanelpbaaGreatDoor
open _root_.Go.Proofs.Tryz renaming prog→zr
open Go.RowKit Go.Shelf
set_option maxHeartbeats 1000000
set_option maxRecDepth 100000
abbrev dE(a:List Tg)(b c:Nat):Nat->Nat->Prop:=Cl (aG (a.map zz)) λi j=>bI a i=bI a j\/(i=b/\j=c)
section
variable {M:List Tg}{o:Int}{t:List Nd}{a b:Nat}
theorem qA(M:List Tg)(o:Int)(t:List Nd):(M++t.map λc=>(o,c)).map zz=M.map zz++t:=by
 rw [List.map_append,List.map_map];congr 1
 exact List.map_id _
theorem aBs{p:Nat}(c:p<M.length):bI M p<M.length:=by have:=(aFf M).rt_lt (p:=p) (by rw [mY];exact c);rwa [mY] at this
theorem aFl(M:List Tg)(p:Nat):bI M (bI M p)=bI M p:=(aFf M).rt_rt p
theorem bBx{e c:Nat}(d:bI M e=bI M c):bI (M++t.map λg=>(o,g)) e=bI (M++t.map λg=>(o,g)) c:=by
 by_cases i:e<M.length
 ·by_cases f:c<M.length
  ·rw [aBm i,aBm f,d]
  ·rw [pY (p:=c) (by omega)] at d;have:=aBs i;omega
 ·rw [pY (p:=e) (by omega)] at d;by_cases f:c<M.length
  ·have:=aBs f;omega
  ·rw [pY (p:=c) (by omega)] at d;rw [d]
theorem sD{c:Nat}(g:(aG (M.map zz)).named c):c<M.length/\(aG (M.map zz++t)).named c/\(aG (M.map zz++t)).lab c=(aG (M.map zz)).lab c:=by
 obtain ⟨j,d,i⟩:=nS g;have f:c<(M.map zz).length:=(zy.1 d).1;have e:(M.map zz++t)[c]?=some j:=by rw [zx f,d]
 exact ⟨by simpa using f,(fO e).2 i,by rw [pO e,pO d]⟩
theorem tM{c:Nat}(g:c<M.length)(e:(aG (M.map zz++t)).named c):(aG (M.map zz)).named c:=by obtain ⟨i,d,f⟩:=nS e;rw [zx (by simpa using g)] at d;exact (fO d).2 f
theorem aFm(i:eU (M.map zz)){p d:Nat}(j:(aG (M.map zz)).named p)(g:d∈(aG (M.map zz)).ch p):d<M.length:=by obtain ⟨l,c,_⟩:=nS j;have f:p<(M.map zz).length:=(zy.1 c).1;rw [lT c] at g;have k:=(aDl _ _ _ (i p _ c) d g).2;have e:aO ((M.map zz).drop p) 1<=((M.map zz).drop p).length:=tG _ _;rw [zt f,(zy.1 c).2] at e;simp [aO] at e;simp at f;omega
theorem aFn(g:eU (M.map zz)){c d:Nat}(j:dE M a b c d):dE (M++t.map λf=>(o,f)) a b c d:=by
 unfold dE;rw [qA];refine Cl.le (R:=Cl (aG (M.map zz++t)) λc d=>bI (M++t.map λf=>(o,f)) c=bI (M++t.map λf=>(o,f)) d\/(c=a/\d=b)) ⟨Cl.refl,λ_ _=>Cl.symm,λ_ _ _=>Cl.trans,?_⟩ ?_ j
 ·intro c d u v w i k l m n;obtain ⟨p,q,_⟩:=sD (t:=t) k;obtain ⟨r,s,_⟩:=sD (t:=t) l;exact Cl.down i q s (by rw [tL g (by simpa using p)];exact m) (by rw [tL g (by simpa using r)];exact n)
 ·rintro c d (e|e)
  ·exact Cl.base (zv (bBx e))
  ·exact Cl.base (zu e)
theorem bBy(c:eU (M.map zz)){d:Nat}(e:cE (aG (M.map zz++t)) (dE (M++t.map λn=>(o,n)) a b) d):cE (aG (M.map zz)) (dE M a b) d:=by
 induction e with
 |mk i _ ih=>
  refine ⟨_,λk f g p j=>?_⟩;obtain ⟨l,m,_⟩:=sD (t:=t) g;exact ih k (aFn c f) m p (by rw [tL c (by simpa using l)];exact j)
theorem bBz(e:eU (M.map zz))(d:kV (aG (M.map zz++t)) (dE (M++t.map λp=>(o,p)) a b)):kV (aG (M.map zz)) (dE M a b):=by intro i l c f g;obtain ⟨_,j,k⟩:=sD (t:=t) f;obtain ⟨_,m,n⟩:=sD (t:=t) g;rw [<-k,<-n];exact d i l (aFn e c) j m
end
structure iX(M:List Tg)(a b:Nat)(F:List Nat)(rt d:Nat->Nat)(S:List Int):Prop where
 whole:eU (M.map zz)
 lf:F.length=M.length
 ls:S.length=M.length
 forest:gF F rt d
 named:kW (M.map zz) rt
 cl:eA (aG (M.map zz)) (λi j=>rt i=rt j) λ_ _=>False
 iff:∀i j,rt i=rt j↔dE M a b i j
 sz:rX (M.map zz) rt S
 none:∀r:Nat,S[r]?≠some (-1)
 ha:a<M.length
 hb:b<M.length
def cX(M a:List Tg)(b:Nat->Nat)(p:Nat):Nat:=if bI a p<M.length then b (bI a p) else bI a p
def dX(M a:List Tg)(b:Nat->Nat)(p:Nat):Nat:=if p<M.length then b p else if bI a p=p then 0 else if bI a p<M.length then b (bI a p)+1 else 1
section
variable {M:List Tg}{o:Int}{t:List Nd}{a b:Nat}{F:List Nat}{rt d:Nat->Nat}{S:List Int}
theorem iX.rt_lt(c:iX M a b F rt d S){p:Nat}(e:p<M.length):rt p<M.length:=by have:=c.forest.rt_lt (p:=p) (by rw [c.lf];exact e);rwa [c.lf] at this
theorem iX.old(e:iX M a b F rt d S){p:Nat}(c:p<M.length):cX M (M++t.map λf=>(o,f)) rt p=rt p:=by unfold cX;rw [aBm c,aI (aBs c)];exact (e.iff _ _).2 (Cl.base (zv (aFl M p)))
theorem iX.new(_h:iX M a b F rt d S){p:Nat}(k:M.length<=p)(j:(aG (M.map zz++t)).named p):cX M (M++t.map λc=>(o,c)) rt p=p:=by
 have f:bI (M++t.map λc=>(o,c)) p=p:=by obtain ⟨c,e,g⟩:=nS j;rw [<-qA M o t,zo] at e;obtain ⟨l,i,rfl⟩:=Option.map_eq_some_iff.1 e;exact lM i g
 unfold cX;rw [f,aH (by omega)]
theorem iX.up(c:iX M a b F rt d S){f e:Nat}(g:rt f=rt e):cX M (M++t.map λk=>(o,k)) rt f=cX M (M++t.map λk=>(o,k)) rt e:=by
 by_cases m:f<M.length
 ·by_cases j:e<M.length
  ·rw [c.old m,c.old j,g]
  ·have l:=c.forest.out e (by rw [c.lf];omega);have i:=c.rt_lt m;omega
 ·have l:=c.forest.out f (by rw [c.lf];omega);by_cases j:e<M.length
  ·have i:=c.rt_lt j;omega
  ·have i:=c.forest.out e (by rw [c.lf];omega);rw [l,i] at g;rw [g]
theorem iX.in(f:iX M a b F rt d S){g c:Nat}(j:g<M.length)(e:cX M (M++t.map λi=>(o,i)) rt g=cX M (M++t.map λi=>(o,i)) rt c)(l:(aG (M.map zz++t)).named c):c<M.length/\rt g=rt c:=by
 have m:=f.rt_lt j;rw [f.old j] at e;by_cases k:c<M.length
 ·exact ⟨k,by rw [f.old k] at e;exact e⟩
 ·rw [f.new (by omega) l] at e;omega
theorem iX.ends(e:iX M a b F rt d S){p:Nat}(r:cE (aG (M.map zz)) (λc j=>rt c=rt j) p):p<M.length->cE (aG (M.map zz++t)) (λc j=>cX M (M++t.map λn=>(o,n)) rt c=cX M (M++t.map λn=>(o,n)) rt j) p:=by
 induction r with
 |mk c _ ih=>
  intro l;refine ⟨_,λj m g x f=>?_⟩;obtain ⟨k,q⟩:=e.in l m g;have i:=tM k g;rw [tL e.whole (by simpa using k)] at f;exact ih j q i x f (aFm e.whole i f)
theorem iX.exp(f:iX M a b F rt d S){n:List Nat}{j:List Nd}(v:aW (aG (M.map zz)) (λc e=>rt c=rt e) rt n j):(∀c∈n,c<M.length)->aW (aG (M.map zz++t)) (λc e=>cX M (M++t.map λg=>(o,g)) rt c=cX M (M++t.map λg=>(o,g)) rt e) (cX M (M++t.map λg=>(o,g)) rt) n j:=by
 induction v with
 |nil=>intro _;exact aW.nil
 |@var c r j h1 _ ih=>
  intro i;have p:=i c (by simp);rw [<-f.old (t:=t) (o:=o) p];refine aW.var (λe s q=>?_) (ih λm hq=>i m (by simp [hq]));obtain ⟨k,l⟩:=f.in p s q;exact h1 e l (tM k q)
 |@name c e r j h1 h2 _ ih=>
  intro i;obtain ⟨k,l,u⟩:=sD (t:=t) h2;rw [<-u];refine aW.name (f.up h1) l ?_;rw [tL f.whole (by simpa using k)];refine ih λm hq=>?_
  rcases List.mem_append.1 hq with hq|hq
  ·exact aFm f.whole h2 hq
  ·exact i m (by simp [hq])
theorem iX.add(f:iX M a b F rt d S)(a0:aQ t 1=true):iX (M++t.map λc=>(o,c)) a b (F++iS M o t t.length) (cX M (M++t.map λc=>(o,c)) rt) (dX M (M++t.map λc=>(o,c)) d) (S++List.replicate t.length 0):=by
 have W:eU (M.map zz++t):=f.whole.append (zD a0);have Z:(iS M o t t.length).length=t.length:=by simp [iS]
 have n:(M++t.map λc=>(o,c)).length=M.length+t.length:=by simp
 have H:∀p,M.length<=p->p<M.length+t.length->(F++iS M o t t.length)[p]?=some (bI (M++t.map λc=>(o,c)) p):=by intro p m r;have:=uX (M:=M++t.map λc=>(o,c)) (p:=p) (by rw [n];exact r);rw [aMm,zw (by rw [mY];exact m),mY] at this;rw [zw (by rw [f.lf];exact m),f.lf];exact this
 have G:∀p,p<M.length->(F++iS M o t t.length)[p]?=F[p]?:=λp i=>zx (by rw [f.lf];exact i)
 have v:(F++iS M o t t.length).length=M.length+t.length:=by rw [zp,Z,f.lf]
 have Y:∀p,p<M.length+t.length->bI (M++t.map λc=>(o,c)) p<M.length+t.length:=λp i=>by
  have:=aBs (M:=M++t.map λc=>(o,c)) (p:=p) (by rw [n];exact i);rwa [n] at this
 have P:∀p,dE (M++t.map λc=>(o,c)) a b p (cX M (M++t.map λc=>(o,c)) rt p):=by
  intro p;have m:dE (M++t.map λc=>(o,c)) a b p (bI (M++t.map λc=>(o,c)) p):=Cl.base (zv (aFl _ p).symm);by_cases g:bI (M++t.map λc=>(o,c)) p<M.length
  ·have r:dE M a b (bI (M++t.map λc=>(o,c)) p) (rt (bI (M++t.map λc=>(o,c)) p)):=(f.iff _ _).1 (f.forest.rt_rt _).symm;have e:cX M (M++t.map λc=>(o,c)) rt p=rt (bI (M++t.map λc=>(o,c)) p):=aI g;rw [e];exact m.trans (aFn f.whole r)
  ·have e:cX M (M++t.map λc=>(o,c)) rt p=bI (M++t.map λc=>(o,c)) p:=aH g;rw [e];exact m
 have N:eA (aG (M.map zz++t)) (λk l=>cX M (M++t.map λc=>(o,c)) rt k=cX M (M++t.map λc=>(o,c)) rt l) λ_ _=>False:=by
  intro I J e z A;by_cases w:I<M.length
  ·obtain ⟨u,C⟩:=f.in w e A;obtain ⟨T,U⟩:=f.cl I J C (tM w z) (tM u A);refine ⟨?_,λQ p s i g=>?_⟩
   ·rw [(sD (t:=t) (tM w z)).2.2,(sD (t:=t) (tM u A)).2.2];exact T
   ·rw [tL f.whole (by simpa using w)] at i;rw [tL f.whole (by simpa using u)] at g;refine eJ.mono (λk l hij=>?_) (U Q p s i g);rcases hij with hij|hij
    ·exact eJ.base (zv (f.up hij))
    ·exact hij.elim
  ·have u:¬J<M.length:=λu=>w (f.in u e.symm z).1
   have D:=f.new (t:=t) (o:=o) (by omega) z;have E:=f.new (t:=t) (o:=o) (by omega) A;have:I=J:=by rw [<-D,<-E];exact e
   subst this;refine ⟨rfl,λQ p s i g=>?_⟩;rw [i] at g;simp at g;subst g;exact eJ.refl _
 have X:=N.done (B:=λk l=>bI (M++t.map λc=>(o,c)) k=bI (M++t.map λc=>(o,c)) l\/(k=a/\l=b)) (rM _) (λk l e=>by
   have m:=P k;have r:=P l;unfold dE at m r;rw [qA] at m r;have C:cX M (M++t.map λc=>(o,c)) rt k=cX M (M++t.map λc=>(o,c)) rt l:=e;rw [C] at m;exact m.trans r.symm) (λk l e=>by
   rcases e with e|⟨rfl,rfl⟩
   ·show cX M (M++t.map λc=>(o,c)) rt k=cX M (M++t.map λc=>(o,c)) rt l;unfold cX;rw [e]
   ·show cX M (M++t.map λc=>(o,c)) rt k=cX M (M++t.map λc=>(o,c)) rt l;rw [f.old f.ha,f.old f.hb];exact (f.iff _ _).2 (Cl.base (zu ⟨rfl,rfl⟩)))
 refine ⟨by rw [qA];exact W,by rw [v,n],by rw [zp,List.length_replicate,f.ls,n],⟨?_,?_,?_,?_⟩,?_,by rw [qA];exact N,?_,?_,?_,by rw [n];have:=f.ha;omega,by rw [n];have:=f.hb;omega⟩
 ·intro p s g;have i:=(zy.1 g).1;rw [v] at i ⊢;by_cases j:p<M.length
  ·rw [G p j] at g;have:=f.forest.lt p s g;rw [f.lf] at this;omega
  ·rw [H p (by omega) i] at g;simp at g;subst g;exact Y p i
 ·intro p g;have i:=(zy.1 g).1;rw [v] at i;by_cases j:p<M.length
  ·rw [G p j] at g;rw [f.old j];exact f.forest.root p g
  ·rw [H p (by omega) i] at g;simp at g;unfold cX;rw [g,aH (by omega)]
 ·intro p s g O;have i:=(zy.1 g).1;rw [v] at i;by_cases j:p<M.length
  ·rw [G p j] at g;have q:=f.forest.lt p s g;rw [f.lf] at q;rw [f.old j,f.old q];unfold dX;rw [aI j,aI q];exact f.forest.step p s g O
  ·rw [H p (by omega) i] at g;simp at g;subst g;have L:=aFl (M++t.map λc=>(o,c)) p;refine ⟨by unfold cX;rw [L],?_⟩;unfold dX;rw [aH j,aH O];by_cases q:bI (M++t.map λc=>(o,c)) p<M.length
   ·rw [aI q,aI q];omega
   ·rw [aH q,aI L,aH q];omega
 ·intro p i;rw [v] at i;unfold cX;rw [pY (M:=M++t.map λc=>(o,c)) (by rw [n];exact i),aH (by omega)]
 ·rw [qA];intro p i;by_cases j:p<M.length
  ·rw [f.old j];exact (sD (t:=t) (f.named p (tM j i))).2.1
  ·rw [f.new (by omega) i];exact i
 ·intro k l;unfold dE;rw [qA];exact X.1 k l
 ·rw [qA];intro p c x;by_cases j:p<S.length
  ·rw [zx j] at x;rw [f.ls] at j;rcases f.sz p c x with e|e|⟨D,a1,E,V⟩
   ·exact zv e
   ·exact zu (zv e)
   ·exact zu (zu ⟨f.ends D j,a1,f.exp E (by simpa using j),V⟩)
  ·rw [zw (by omega)] at x;have:=(zy.1 x).2;simp at this;exact zv this.symm
 ·intro R y;by_cases j:R<S.length
  ·rw [zx j] at y;exact f.none R y
  ·rw [zw (by omega)] at y;have:=(zy.1 y).2;simp at this
end
def aU(rest:List (Int×Lt)):List Tg:=rest.flatMap λr=>r.2.2.map λn=>(r.1,n)
def cU:Nat->List (Int×Lt)->List Nat
 |_,[]=>[]
 |n,r::rs=>n::cU (n+r.2.2.length) rs
def bX(rest:List (Int×Lt))(ls:List (List Nd)):List Lt:=List.zipWith (λb a=>(b.2.1,a)) rest ls
def xC(a:List Tg)(b c:Nat):Prop:=kV (aG (a.map zz)) (dE a b c)/\∀d,d<a.length->cE (aG (a.map zz)) (dE a b c) d
def eH(a:List Tg)(b c:Nat)(rest:List (Int×Lt))(f:List Lt)(i:Bool)(e:Int):Prop:=
 (¬xC (a++aU rest) b c/\f=[]/\i=false/\e=0)\/
 (xC (a++aU rest) b c/\∃(g:Nat->Nat) (ls:List (List Nd)),(∀d j,g d=g j↔dE (a++aU rest) b c d j)/\aP (λd k=>aW (aG ((a++aU rest).map zz)) (dE (a++aU rest) b c) g [d] k) (cU a.length rest) ls/\
  ((500<aS (aV (bX rest ls))/\f=[]/\i=false/\e=4)\/(aS (aV (bX rest ls))<=500/\f=aV (bX rest ls)/\i=true/\e=0)))
theorem aNb:∀(n:Nat) (a:List (Int×Lt)),(cU n a).length=a.length
 |_,[]=>rfl
 |n,r::rs=>by simp [cU,aNb _ rs]
theorem bC0{e:Gr}{f:Nat->Nat->Prop}{k rd:Nat->Nat}{l:List Nat}{c:List Nd}(m:aW e f k l c):∃d,aW e f rd l d/\aP (fX λa b=>∃g,a=(k g:Int)/\b=(rd g:Int)) c d:=by
 induction m with
 |nil=>exact ⟨[],aW.nil,aP.nil⟩
 |@var i r c h1 _ ih=>
  obtain ⟨d,a,b⟩:=ih;exact ⟨_,aW.var h1 a,aP.cons (zv ⟨pW _,pW _,rfl,i,rfl,rfl⟩) b⟩
 |@name i j r c h1 h2 _ ih=>
  obtain ⟨d,a,b⟩:=ih;exact ⟨_,aW.name h1 h2 a,aP.cons (zu ⟨h2,rfl⟩) b⟩
theorem aNc{b:Int->Int->Prop}:∀(e:List (Int×Lt)) {c d:List (List Nd)},aP (λf g=>aP (fX b) f g) c d->aP (jT b) (bX e c) (bX e d)
 |[],_,_,_=>aP.nil
 |_::_,_,_,aP.nil=>aP.nil
 |_::rs,_,_,aP.cons a h=>aP.cons ⟨rfl,a⟩ (aNc rs h)
theorem aFo{f:List Tg}{o p:Nat}{d:List (Int×Lt)}{B C:List Lt}{e y:Bool}{j z:Int}(u:eH f o p d B e j)(l:eH f o p d C y z):B=C/\e=y/\j=z:=by
 rcases u with ⟨r,rfl,rfl,rfl⟩|⟨r,n,q,A,L,H⟩
 ·rcases l with ⟨_,rfl,rfl,rfl⟩|⟨v,_⟩
  ·exact ⟨rfl,rfl,rfl⟩
  ·exact absurd v r
 ·rcases l with ⟨v,_⟩|⟨_,i,m,x,M,w⟩
  ·exact absurd r v
  ·have I:kU (aG ((f++aU d).map zz)) (dE (f++aU d) o p):=Cl.isDown _ _;have J:mV λb e=>∃a,b=(n a:Int)/\e=(i a:Int):=by
    rintro b e S y ⟨a,rfl,rfl⟩ ⟨t,rfl,rfl⟩;constructor
    ·intro j;have:i a=i t:=(x _ _).2 ((A a t).1 (by omega));omega
    ·intro j;have:n a=n t:=(A _ _).2 ((x a t).1 (by omega));omega
   have N:aP (λg s=>aP (fX λb e=>∃a,b=(n a:Int)/\e=(i a:Int)) g s) q m:=by
    have R:∀{b:List Nat} {q m:List (List Nd)},aP (λa g=>aW (aG ((f++aU d).map zz)) (dE (f++aU d) o p) n [a] g) b q->aP (λa g=>aW (aG ((f++aU d).map zz)) (dE (f++aU d) o p) i [a] g) b m->aP (λg s=>aP (fX λb e=>∃a,b=(n a:Int)/\e=(i a:Int)) g s) q m:=by
     intro b q m u;induction u generalizing m with
     |nil=>intro l;cases l;exact aP.nil
     |cons c _ ih=>
      intro l;cases l with
      |cons c' k=>
       refine aP.cons ?_ (ih k);obtain ⟨s,F,G⟩:=bC0 (rd:=i) c;have:=aW.one I r.1 (vZ _) (λP Q j=>(x P Q).2 j) F _ c';subst this;exact G
    exact R L M
   have O:=aF2 J (aNc d N);rw [<-O] at w;rcases H with ⟨D,rfl,rfl,rfl⟩|⟨D,rfl,rfl,rfl⟩
   ·rcases w with ⟨_,rfl,rfl,rfl⟩|⟨E,_⟩
    ·exact ⟨rfl,rfl,rfl⟩
    ·omega
   ·rcases w with ⟨E,_⟩|⟨_,rfl,rfl,rfl⟩
    ·omega
    ·exact ⟨rfl,rfl,rfl⟩
section
variable {M:List Tg}{o:Int}{t:List Nd}{a b:Nat}{F:List Nat}{rt d:Nat->Nat}{S:List Int}
theorem iX.endsAll(i:iX M a b F rt d S)(H:aQ t 1=true)(s:∀e,e<M.length->cE (aG (M.map zz)) (λq c=>rt q=rt c) e):∀(l e:Nat),e+l=M.length+t.length->cE (aG (M.map zz++t)) (λq c=>cX M (M++t.map λf=>(o,f)) rt q=cX M (M++t.map λf=>(o,f)) rt c) e:=by
 have B:eU (M.map zz++t):=i.whole.append (zD H);intro l;induction l using Nat.strongRecOn with
 |_ l ih=>
  intro e L;by_cases x:e<M.length
  ·exact i.ends (s e x) x
  ·refine ⟨_,λc C p m k=>?_⟩;have g:cX M (M++t.map λf=>(o,f)) rt e=cX M (M++t.map λf=>(o,f)) rt c:=C;by_cases v:c<M.length
   ·have E:=tM v p;rw [tL i.whole (by simpa using v)] at k;have y:=aFm i.whole E k;exact i.ends (s m y) y
   ·rw [i.new (by omega) p] at g;obtain ⟨N,j,u⟩:=nS p;have D:c=e:=by
     unfold cX at g;split at g
     ·rename_i G;have:=i.rt_lt G;omega
     ·rw [<-qA M o t,zo] at j;obtain ⟨P,I,rfl⟩:=Option.map_eq_some_iff.1 j;cases hm:(M++t.map λf=>(o,f))[e]? with
      |none=>rw [pY (by simpa using (List.getElem?_eq_none_iff.1 hm))] at g;exact g.symm
      |some z=>
       cases hv:aK z.2 with
       |false=>rw [lM hm hv] at g;exact g.symm
       |true=>
        obtain ⟨_,_,O,n,A,_⟩:=kC hm hv;rw [g,I] at n;simp at n;subst n;rw [A] at u;cases u
    subst D;rw [lT j] at k;have J:=aDl _ _ _ (B c _ j) m k;have w:c<(M.map zz++t).length:=(zy.1 j).1;have r:aO ((M.map zz++t).drop c) 1<=((M.map zz++t).drop c).length:=tG _ _;rw [zt w,(zy.1 j).2] at r;simp [aO] at r;simp at w;exact ih (M.length+t.length-m) (by omega) m (by omega)
end
theorem aBt(a:Int×Lt)(b:List (Int×Lt)):aU (a::b)=(a.2.2.map λc=>(a.1,c))++aU b:=by simp [aU]
theorem aNd(b:List Tg)(a:Int×Lt)(c:List (Int×Lt)):b++aU (a::c)=(b++a.2.2.map λd=>(a.1,d))++aU c:=by rw [aBt,List.append_assoc]
def qB(c:List Tg)(j k:Nat)(f:List Nat)(n:List (List Nd)):Prop:=
 ∃g b l i,iX c j k g b l i/\(∀a,a<c.length->cE (aG (c.map zz)) (λd e=>b d=b e) a)/\aP (λa m=>aW (aG (c.map zz)) (λd e=>b d=b e) b [a] m) f n/\∀a∈f,a<c.length
section
variable {M:List Tg}{a b:Nat}{ps:List Nat}{ls:List (List Nd)}
theorem qB.more(k:qB M a b ps ls)(o:Int){d:List Nd}(l:aQ d 1=true):∃g,qB (M++d.map λe=>(o,e)) a b (ps++[M.length]) (ls++[g]):=by
 obtain ⟨z,f,A,S,m,t,v,r⟩:=k;have s:=qA M o d;have x:0<d.length:=by
  cases d with
  |nil=>simp [aQ] at l
  |cons=>simp
 have n:∀p,p<M.length+d.length->cE (aG (M.map zz++d)) (λi j=>cX M (M++d.map λe=>(o,e)) f i=cX M (M++d.map λe=>(o,e)) f j) p:=λp hp=>m.endsAll (o:=o) l t (M.length+d.length-p) p (by omega)
 obtain ⟨g,u⟩:=(n M.length (by omega)).exp (rep:=cX M (M++d.map λe=>(o,e)) f);refine ⟨g,_,_,_,_,m.add (o:=o) l,λp hp=>by rw [s];exact n p (by simpa using hp),?_,λp hp=>?_⟩
 ·rw [s];have y:∀{ps:List Nat} {ls:List (List Nd)},aP (λp g=>aW (aG (M.map zz)) (λi j=>f i=f j) f [p] g) ps ls->(∀p∈ps,p<M.length)->aP (λp g=>aW (aG (M.map zz++d)) (λi j=>cX M (M++d.map λe=>(o,e)) f i=cX M (M++d.map λe=>(o,e)) f j) (cX M (M++d.map λe=>(o,e)) f) [p] g) ps ls:=by
   intro ps ls k;induction k with
   |nil=>intro _;exact aP.nil
   |cons c _ ih=>
    intro hp;exact aP.cons (m.exp (o:=o) c (λi q=>by simp at q;subst q;exact hp _ (by simp))) (ih λp w=>hp p (by simp [w]))
  exact (y v r).snoc u
 ·rcases List.mem_append.1 hp with hp|hp
  ·have:=r p hp;simp;omega
  ·simp at hp;subst hp;simp;exact x
theorem qB.all:∀(e:List (Int×Lt)) {M:List Tg} {ps:List Nat} {ls:List (List Nd)},qB M a b ps ls->(∀c∈e,aQ c.2.2 1=true)->∃d,qB (M++aU e) a b (ps++cU M.length e) (ls++d):=by
 intro e;induction e with
 |nil=>
  intro M ps ls f _;exact ⟨[],by simpa [aU,cU] using f⟩
 |cons c rs ih=>
  intro M ps ls f i;obtain ⟨g,l⟩:=f.more c.1 (i c (by simp));obtain ⟨d,m⟩:=ih l (λp n=>i p (by simp [n]));refine ⟨g::d,?_⟩;rw [aNd];have j:ps++cU M.length (c::rs)=ps++[M.length]++cU (M++c.2.2.map λo=>(c.1,o)).length rs:=by simp [cU]
  have k:ls++g::d=ls++[g]++d:=by simp
  rw [j,k];exact m
end
theorem bC1:∀(g:List (Int×Lt)) {a:List Tg} {b c:Nat},(∀e∈g,aQ e.2.2 1=true)->eU (a.map zz)->xC (a++aU g) b c->kV (aG (a.map zz)) (dE a b c)/\∀f,f<a.length->cE (aG (a.map zz)) (dE a b c) f:=by
 intro g;induction g with
 |nil=>
  intro a b c _ _ d;simp only [aU,List.flatMap_nil,List.append_nil] at d;exact d
 |cons e rs ih=>
  intro a b c m i d;rw [aNd] at d;have l:=qA a e.1 e.2.2;obtain ⟨j,k⟩:=ih (λo n=>m o (by simp [n])) (by rw [l];exact i.append (zD (m e (by simp)))) d;rw [l] at j k;exact ⟨bBz i j,λf p=>bBy i (k f (by simp;omega))⟩
theorem aFp{b:List Lt}{a:Lt}(h:a∈b):a∈bT b:=by
 suffices ∀(b:List Lt) (c:List Lt) (a:Lt),a∈c\/a∈b->a∈b.foldl eG c from this b [] a (zu h)
 intro b;induction b with
 |nil=>intro c a h;simpa using h
 |cons y r ih=>
  intro c a h;simp only [List.foldl_cons];refine ih _ _ ?_;have f:∀e,e∈c\/e=y->e∈eG c y:=by
   intro e d;unfold eG;split
   ·rename_i g;rcases d with d|rfl
    ·exact d
    ·exact (xT _ _).1 g
   ·simpa using d
  rcases h with h|h
  ·exact zv (f a (zv h))
  ·rcases zq.1 h with rfl|h
   ·exact zv (f a (zu rfl))
   ·exact zu h
theorem bC2(a:List Lt):aS (cW a).1=aS a:=by
 suffices ∀(a:List Lt) (b:List Lt×List Int),aS (a.foldl dL b).1=aS b.1+aS a by
  have:=this a ([],[]);simpa [cW,aS] using this
 intro a;induction a with
 |nil=>intro b;simp [aS]
 |cons x r ih=>
  intro b;simp only [List.foldl_cons];rw [ih];have c:(dW x.2 b.2).1.length=x.2.length:=(xR x.2 b.2).1;simp only [dL,rD,c];have d:aS (x::r)=x.2.length+aS r:=by simp [aS]
  omega
theorem bC3{a:List Lt}{b:Lt}(c:b∈a)(d:500<b.2.length):500<aS (aV a):=by unfold aV;rw [bC2];have:=vJ (bT a) b (aFp c);omega
theorem aNe:∀(d:List (Int×Lt)) (b:List (List Nd)),d.length=b.length->∀a∈b,∃c,(c,a)∈bX d b
 |[],[],_,a,hl=>by simp at hl
 |r::rs,m::ms,h,a,hl=>by
  rcases zq.1 hl with rfl|hl
  ·exact ⟨r.2.1,by simp [bX]⟩
  ·obtain ⟨c,e⟩:=aNe rs ms (by simpa using h) a hl;exact ⟨c,by simp only [bX,List.zipWith_cons_cons];exact List.mem_cons_of_mem _ e⟩
theorem qB.out{b:List Tg}{c d:Nat}{rest:List (Int×Lt)}{ls:List (List Nd)}(n:qB (b++aU rest) c d (cU b.length rest) ls):(500<aS (aV (bX rest ls))->eH b c d rest [] false 4)/\(aS (aV (bX rest ls))<=500->eH b c d rest (aV (bX rest ls)) true 0):=by
 obtain ⟨p,g,q,S,f,l,k,r⟩:=n;have o:(λa j=>g a=g j)=dE (b++aU rest) c d:=by
  funext a j
  exact propext (f.iff a j)
 rw [o] at l k;have m:xC (b++aU rest) c d:=by refine ⟨?_,l⟩;have:=f.cl.done (B:=λa j=>bI (b++aU rest) a=bI (b++aU rest) j\/(a=c/\j=d)) (rM g) (λa j e=>(f.iff a j).1 e) (λa j e=>(f.iff a j).2 (Cl.base e));exact this.2
 exact ⟨λi=>zu ⟨m,g,ls,f.iff,k,zv ⟨i,rfl,rfl,rfl⟩⟩,λi=>zu ⟨m,g,ls,f.iff,k,zu ⟨i,rfl,rfl,rfl⟩⟩⟩
theorem bC4{f:Nd->Bool}(l:List Nd)(k:Nat)(a:k<l.length):(l.take (k+1)).any f=((l.take k).any f || f l[k]):=by rw [List.take_succ_eq_append_getElem a,List.any_append];simp
theorem bC5{f:Nd->Bool}{l:List Nd}{k:Nat}(a:(l.take k).any f=true):l.any f=true:=by rw [List.any_eq_true] at a ⊢;obtain ⟨d,c,b⟩:=a;exact ⟨d,List.mem_of_mem_take c,b⟩
theorem bC6(u:Option Addr)(H C D:Nat)(d:Nd->Bool)(a:List Nd)(i:World)(x:dV i u a)
  (z:∀p∈a,∀r,aB i r->Calls zr 130 #[.agg #[.string p.1,.int .i64 p.2],.pointer (some ⟨C,0,none⟩),.pointer (some ⟨D,0,none⟩)] r λe q=>e=.returned (.bool (d p))/\aB r q):Calls zr 141 #[.slice u a.length H,.func (Fn.func 130) #[] #[.pointer (some ⟨C,0,none⟩),.pointer (some ⟨D,0,none⟩)]] i λe q=>∃E:Int,e=.returned (.int .i64 E)/\decide (0<=E)=a.any d/\aB i q:=by
 have P:=x.few;have F:=aA z;clear z;go_enter Tryz.func141,Tryz.ntmps141;go_wp2;go_loopw [8] (λo wr=>∃b:Nat,b<=a.length/\o=.int .i64 b/\(a.take b).any d=false/\aB i wr) (λo _=>a.length-(intOf o).toNat);case atStart=>exact ⟨0,Nat.zero_le _,rfl,rfl,Below.refl _ _⟩
 case round=>
  obtain ⟨b,Q,rfl,g,c⟩:=hrel;by_cases B:b<a.length
  ·obtain ⟨O,R,rfl,v,w⟩:=x.cell b B;have I:=aC c v;have J:=aC c w;have l:=bC4 (f:=d) a b B;rw [g,Bool.false_or] at l;have n:=bC5 (f:=d) (l:=a) (k:=b+1);rw [l] at n;have j:=aA (F.o a[b] (List.getElem_mem _) wr c);generalize a[b]=nd at *;obtain ⟨L,N⟩:=nd;simp only at I J;have s:=aA l;have t:=aA n;have k:=aA c;have y:=c.size;clear l n c g v w;cases hl:d (L,N)
   ·rw [hl] at j s;clear hl;go_wp2_with (go_at_call 130;refine (aD j).mono ?_;rintro e M ⟨rfl,f⟩;have m:=aA (k.o.trans (f.mono y));clear f);go_roundw;case rel=>exact ⟨b+1,by omega,by go_num,s.o,m.o⟩
    case measure=>simp [intOf];omega
   ·rw [hl] at j t;clear hl;go_wp2_with (go_at_call 130;refine (aD j).mono ?_;rintro e M ⟨rfl,f⟩;have m:=aA (k.o.trans (f.mono y));clear f);go_ret;exact ⟨_,rfl,by rw [t.o (by first|rfl|trivial)];simp,m.o⟩
  ·have A:a.take b=a:=List.take_of_length_le (by omega);rw [A] at g;have G:=aA g;have k:=aA c;clear A c g;go_wp2;go_ret;exact ⟨_,rfl,by rw [G.o];rfl,k.o⟩
theorem bC7(d:Option Addr)(m g i:Nat)(e:Nd->Bool)(a:List Nd)(b:World)(n:dV b d a)
  (p:∀f∈a,∀k,aB b k->Calls zr 130 #[.agg #[.string f.1,.int .i64 f.2],.pointer (some ⟨g,0,none⟩),.pointer (some ⟨i,0,none⟩)] k λc j=>c=.returned (.bool (e f))/\aB k j):Calls zr 129 #[.slice d a.length m,.func (Fn.func 130) #[] #[.pointer (some ⟨g,0,none⟩),.pointer (some ⟨i,0,none⟩)]] b λc j=>c=.returned (.bool (a.any e))/\aB b j:=by
 have r:=aA (bC6 d m g i e a b n p);clear p n;go_enter Tryz.func129,Tryz.ntmps129;go_wp2_with (go_at_call 141;refine (aD r).mono ?_;rintro c u ⟨t,rfl,q,o⟩;have l:=aA q;have s:=aA o;clear q o);go_ret;exact ⟨dK (by first|exact l.o|simpa using l.o),s.o⟩
theorem bC8(d:List Nd):∀a,aQ d a=true->∀c∈d,cZ c=true:=by
 induction d with
 |nil=>intro a _ c hn;simp at hn
 |cons m r ih=>
  intro a b c hn;cases a with
  |zero=>simp [aQ] at b
  |succ a=>
   rw [mS,Bool.and_eq_true] at b;rcases zq.1 hn with rfl|hn
   ·exact b.1
   ·exact ih _ b.2 c hn
theorem bC9(m d:Nat)(s:Value)(n:bG)(a:World)(j l:Bool)(e f:Option Addr)(g i:Nat)(b c:List Nd)(u:cB a m d s n)(v:fV a m e b)(w:fV a m f c)(D:aQ b 1=true):Calls zr 111 #[.pointer (some ⟨d,0,none⟩),.agg #[.bool j,.slice e b.length g],.agg #[.bool l,.slice f c.length i]] a λt E=>t=.returned (.bool (b.any (eW n c)))/\aB a E:=by
 have k:aB a (((a.alloc (.cells #[.pointer (some ⟨d,0,none⟩)] 149)).alloc (.cells #[.bool j,.slice e b.length g] 86)).alloc (.cells #[.bool l,.slice f c.length i] 86)):=(((Below.refl _ _).alloc (Nat.le_refl _) _).alloc (by simp) _).alloc (by simp;omega) _;have q:(((a.alloc (.cells #[.pointer (some ⟨d,0,none⟩)] 149)).alloc (.cells #[.bool j,.slice e b.length g] 86)).alloc (.cells #[.bool l,.slice f c.length i] 86)).cell? ⟨a.heap.size,0,none⟩=some (.pointer (some ⟨d,0,none⟩)):=aC ((Below.refl _ _).alloc (Nat.le_refl _) _) (aC ((Below.refl _ _).alloc (Nat.le_refl _) _) (by simp));have r:(((a.alloc (.cells #[.pointer (some ⟨d,0,none⟩)] 149)).alloc (.cells #[.bool j,.slice e b.length g] 86)).alloc (.cells #[.bool l,.slice f c.length i] 86)).cell? ⟨a.heap.size+2,1,none⟩=some (.slice f c.length i):=by have:=(uL ((a.alloc (.cells #[.pointer (some ⟨d,0,none⟩)] 149)).alloc (.cells #[.bool j,.slice e b.length g] 86)) (.bool l) (.slice f c.length i) 86).2;rwa [show ((a.alloc (.cells #[.pointer (some ⟨d,0,none⟩)] 149)).alloc (.cells #[.bool j,.slice e b.length g] 86)).heap.size=a.heap.size+2 by simp] at this
 have y:=bC8 b 1 D;have z:=aA (bC7 e g a.heap.size (a.heap.size+2) (eW n c) b _ (v.fr (Fr.of_below k)).nodes (λp C F o=>aVf m d a.heap.size (a.heap.size+2) s n f i c p.1 p.2 F ((u.below k).below o) ((w.fr (Fr.of_below k)).fr (Fr.of_below o)) (aC o q) (aC o r) (y p C)));have A:=aA k;clear k q r y u v w;go_enter Tryz.func111,Tryz.ntmps111;go_wp2_with (go_at_call 129;refine (aD z).mono ?_;rintro t G ⟨rfl,x⟩;have B:=aA (bD A.o x);clear x);go_ret;exact ⟨rfl,B.o⟩
theorem bCa{c:bG}{e b:Lt}(d:e.2.any (eW c b.2)=false):∀a∈e.2,aK a=true->look c a.2=none->a∉b.2:=by intro a i j f g;rw [List.any_eq_false] at d;have:=d a i;simp [eW,j,f,(aKk a b.2).2 g] at this
