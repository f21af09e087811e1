import Derived.Test.YtbpiopdphigodaaGreatDoorUPut1P
import Derived.Test.YtbpiopdphigodaaGreatDoorUJnLP
open Array renaming getElem?_eq_some_iff→zx
open List renaming getElem?_eq_some_iff→zy,getElem?_append_left→zv,getElem?_append_right→zu,drop_eq_getElem_cons→zs,length_append→zq,mem_cons→zp,mem_append→zn,length_replicate→zm,replicate→zl,getElem?_map→zk
open Or renaming inl→zt,inr→zr
open Prod renaming snd→zz
namespace Go.Proofs.YtbpiopdphigodaaGreatDoor
open _root_.Go.Proofs.Tryz renaming prog→zw
open Go.RowKit Go.Shelf Go.WideMaps
set_option maxHeartbeats 4000000
set_option maxRecDepth 100000
variable{w:World}
abbrev eX(a:List Tg)(b c:Nat):Nat->Nat->Prop:=Cl (aJ (a.map zz)) λi j=>bG a i=bG a j\/(i=b/\j=c)
section
variable {M:List Tg}{o:Int}{t:List Nd}{a b:Nat}
theorem oW(M:List Tg)(o:Int)(t:List Nd):(M++t.map λc=>(o,c)).map zz=M.map zz++t:=by
 rw [List.map_append,List.map_map];congr 1
 exact List.map_id _
theorem zP{p:Nat}(c:p<M.length):bG M p<M.length:=by have:=(aD5 M).rt_lt (p:=p) (by rw [mD];exact c);rwa [mD] at this
theorem aD8(M:List Tg)(p:Nat):bG M (bG M p)=bG M p:=(aD5 M).rt_rt p
theorem aXj{e c:Nat}(d:bG M e=bG M c):bG (M++t.map λg=>(o,g)) e=bG (M++t.map λg=>(o,g)) c:=by
 by_cases i:e<M.length
 ·by_cases f:c<M.length
  ·rw [zM i,zM f,d]
  ·rw [pT (p:=c) (by omega)] at d;have:=zP i;omega
 ·rw [pT (p:=e) (by omega)] at d;by_cases f:c<M.length
  ·have:=zP f;omega
  ·rw [pT (p:=c) (by omega)] at d;rw [d]
theorem qS{c:Nat}(g:(aJ (M.map zz)).named c):c<M.length/\(aJ (M.map zz++t)).named c/\(aJ (M.map zz++t)).lab c=(aJ (M.map zz)).lab c:=by
 obtain ⟨j,d,i⟩:=pF g;have f:c<(M.map zz).length:=(zy.1 d).1;have e:(M.map zz++t)[c]?=some j:=by rw [zv f,d]
 exact ⟨by simpa using f,(gX e).2 i,by rw [pG e,pG d]⟩
theorem sA{c:Nat}(g:c<M.length)(e:(aJ (M.map zz++t)).named c):(aJ (M.map zz)).named c:=by obtain ⟨i,d,f⟩:=pF e;rw [zv (by simpa using g)] at d;exact (gX d).2 f
theorem aD9(i:eT (M.map zz)){p d:Nat}(j:(aJ (M.map zz)).named p)(g:d∈(aJ (M.map zz)).ch p):d<M.length:=by obtain ⟨l,c,_⟩:=pF j;have f:p<(M.map zz).length:=(zy.1 c).1;rw [lU c] at g;have k:=(aBk _ _ _ (i p _ c) d g).2;have e:aL ((M.map zz).drop p) 1<=((M.map zz).drop p).length:=rS _ _;rw [zs f,(zy.1 c).2] at e;simp [aL] at e;simp at f;omega
theorem aDa(g:eT (M.map zz)){c d:Nat}(j:eX M a b c d):eX (M++t.map λf=>(o,f)) a b c d:=by
 unfold eX;rw [oW];refine Cl.le (R:=Cl (aJ (M.map zz++t)) λc d=>bG (M++t.map λf=>(o,f)) c=bG (M++t.map λf=>(o,f)) d\/(c=a/\d=b)) ⟨Cl.refl,λ_ _=>Cl.symm,λ_ _ _=>Cl.trans,?_⟩ ?_ j
 ·intro c d u v x i k l m n;obtain ⟨p,q,_⟩:=qS (t:=t) k;obtain ⟨r,s,_⟩:=qS (t:=t) l;exact Cl.down i q s (by rw [rY g (by simpa using p)];exact m) (by rw [rY g (by simpa using r)];exact n)
 ·rintro c d (e|e)
  ·exact Cl.base (zt (aXj e))
  ·exact Cl.base (zr e)
theorem aXk(c:eT (M.map zz)){d:Nat}(e:bY (aJ (M.map zz++t)) (eX (M++t.map λn=>(o,n)) a b) d):bY (aJ (M.map zz)) (eX M a b) d:=by
 induction e with
 |mk i _ ih=>
  refine ⟨_,λk f g p j=>?_⟩;obtain ⟨l,m,_⟩:=qS (t:=t) g;exact ih k (aDa c f) m p (by rw [rY c (by simpa using l)];exact j)
theorem aXl(e:eT (M.map zz))(d:lE (aJ (M.map zz++t)) (eX (M++t.map λp=>(o,p)) a b)):lE (aJ (M.map zz)) (eX M a b):=by intro i l c f g;obtain ⟨_,j,k⟩:=qS (t:=t) f;obtain ⟨_,m,n⟩:=qS (t:=t) g;rw [<-k,<-n];exact d i l (aDa e c) j m
end
structure iC(M:List Tg)(a b:Nat)(F:List Nat)(rt d:Nat->Nat)(S:List Int):Prop where
 whole:eT (M.map zz)
 lf:F.length=M.length
 ls:S.length=M.length
 forest:fR F rt d
 named:kC (M.map zz) rt
 cl:eA (aJ (M.map zz)) (λi j=>rt i=rt j) λ_ _=>False
 iff:∀i j,rt i=rt j↔eX M a b i j
 sz:qO (M.map zz) rt S
 none:∀r:Nat,S[r]?≠some (-1)
 ha:a<M.length
 hb:b<M.length
def cU(M a:List Tg)(b:Nat->Nat)(p:Nat):Nat:=if bG a p<M.length then b (bG a p) else bG a p
def dX(M a:List Tg)(b:Nat->Nat)(p:Nat):Nat:=if p<M.length then b p else if bG a p=p then 0 else if bG a p<M.length then b (bG a p)+1 else 1
section
variable {M:List Tg}{o:Int}{t:List Nd}{a b:Nat}{F:List Nat}{rt d:Nat->Nat}{S:List Int}
theorem iC.rt_lt(c:iC M a b F rt d S){p:Nat}(e:p<M.length):rt p<M.length:=by have:=c.forest.rt_lt (p:=p) (by rw [c.lf];exact e);rwa [c.lf] at this
theorem iC.old(e:iC M a b F rt d S){p:Nat}(c:p<M.length):cU M (M++t.map λf=>(o,f)) rt p=rt p:=by unfold cU;rw [zM c,aG (zP c)];exact (e.iff _ _).2 (Cl.base (zt (aD8 M p)))
theorem iC.new(_h:iC M a b F rt d S){p:Nat}(k:M.length<=p)(j:(aJ (M.map zz++t)).named p):cU M (M++t.map λc=>(o,c)) rt p=p:=by
 have f:bG (M++t.map λc=>(o,c)) p=p:=by obtain ⟨c,e,g⟩:=pF j;rw [<-oW M o t,zk] at e;obtain ⟨l,i,rfl⟩:=Option.map_eq_some_iff.1 e;exact nR i g
 unfold cU;rw [f,aF (by omega)]
theorem iC.up(c:iC M a b F rt d S){f e:Nat}(g:rt f=rt e):cU M (M++t.map λk=>(o,k)) rt f=cU M (M++t.map λk=>(o,k)) rt e:=by
 by_cases m:f<M.length
 ·by_cases j:e<M.length
  ·rw [c.old m,c.old j,g]
  ·have l:=c.forest.out e (by rw [c.lf];omega);have i:=c.rt_lt m;omega
 ·have l:=c.forest.out f (by rw [c.lf];omega);by_cases j:e<M.length
  ·have i:=c.rt_lt j;omega
  ·have i:=c.forest.out e (by rw [c.lf];omega);rw [l,i] at g;rw [g]
theorem iC.in(f:iC M a b F rt d S){g c:Nat}(j:g<M.length)(e:cU M (M++t.map λi=>(o,i)) rt g=cU M (M++t.map λi=>(o,i)) rt c)(l:(aJ (M.map zz++t)).named c):c<M.length/\rt g=rt c:=by
 have m:=f.rt_lt j;rw [f.old j] at e;by_cases k:c<M.length
 ·exact ⟨k,by rw [f.old k] at e;exact e⟩
 ·rw [f.new (by omega) l] at e;omega
theorem iC.ends(e:iC M a b F rt d S){p:Nat}(r:bY (aJ (M.map zz)) (λc j=>rt c=rt j) p):p<M.length->bY (aJ (M.map zz++t)) (λc j=>cU M (M++t.map λn=>(o,n)) rt c=cU M (M++t.map λn=>(o,n)) rt j) p:=by
 induction r with
 |mk c _ ih=>
  intro l;refine ⟨_,λj m g x f=>?_⟩;obtain ⟨k,q⟩:=e.in l m g;have i:=sA k g;rw [rY e.whole (by simpa using k)] at f;exact ih j q i x f (aD9 e.whole i f)
theorem iC.exp(f:iC M a b F rt d S){n:List Nat}{j:List Nd}(v:aU (aJ (M.map zz)) (λc e=>rt c=rt e) rt n j):(∀c∈n,c<M.length)->aU (aJ (M.map zz++t)) (λc e=>cU M (M++t.map λg=>(o,g)) rt c=cU M (M++t.map λg=>(o,g)) rt e) (cU M (M++t.map λg=>(o,g)) rt) n j:=by
 induction v with
 |nil=>intro _;exact aU.nil
 |@var c r j h1 _ ih=>
  intro i;have p:=i c (by simp);rw [<-f.old (t:=t) (o:=o) p];refine aU.var (λe s q=>?_) (ih λm hq=>i m (by simp [hq]));obtain ⟨k,l⟩:=f.in p s q;exact h1 e l (sA k q)
 |@name c e r j h1 h2 _ ih=>
  intro i;obtain ⟨k,l,u⟩:=qS (t:=t) h2;rw [<-u];refine aU.name (f.up h1) l ?_;rw [rY f.whole (by simpa using k)];refine ih λm hq=>?_
  rcases zn.1 hq with hq|hq
  ·exact aD9 f.whole h2 hq
  ·exact i m (by simp [hq])
theorem iC.add(f:iC M a b F rt d S)(a1:aN t 1=true):iC (M++t.map λc=>(o,c)) a b (F++iA M o t t.length) (cU M (M++t.map λc=>(o,c)) rt) (dX M (M++t.map λc=>(o,c)) d) (S++zl t.length 0):=by
 have X:eT (M.map zz++t):=f.whole.append (wJ a1);have a0:(iA M o t t.length).length=t.length:=by simp [iA]
 have n:(M++t.map λc=>(o,c)).length=M.length+t.length:=by simp
 have I:∀p,M.length<=p->p<M.length+t.length->(F++iA M o t t.length)[p]?=some (bG (M++t.map λc=>(o,c)) p):=by intro p m r;have:=tG (M:=M++t.map λc=>(o,c)) (p:=p) (by rw [n];exact r);rw [aJ6,zu (by rw [mD];exact m),mD] at this;rw [zu (by rw [f.lf];exact m),f.lf];exact this
 have H:∀p,p<M.length->(F++iA M o t t.length)[p]?=F[p]?:=λp i=>zv (by rw [f.lf];exact i)
 have v:(F++iA M o t t.length).length=M.length+t.length:=by rw [zq,a0,f.lf]
 have Z:∀p,p<M.length+t.length->bG (M++t.map λc=>(o,c)) p<M.length+t.length:=λp i=>by
  have:=zP (M:=M++t.map λc=>(o,c)) (p:=p) (by rw [n];exact i);rwa [n] at this
 have Q:∀p,eX (M++t.map λc=>(o,c)) a b p (cU M (M++t.map λc=>(o,c)) rt p):=by
  intro p;have m:eX (M++t.map λc=>(o,c)) a b p (bG (M++t.map λc=>(o,c)) p):=Cl.base (zt (aD8 _ p).symm);by_cases g:bG (M++t.map λc=>(o,c)) p<M.length
  ·have r:eX M a b (bG (M++t.map λc=>(o,c)) p) (rt (bG (M++t.map λc=>(o,c)) p)):=(f.iff _ _).1 (f.forest.rt_rt _).symm;have e:cU M (M++t.map λc=>(o,c)) rt p=rt (bG (M++t.map λc=>(o,c)) p):=aG g;rw [e];exact m.trans (aDa f.whole r)
  ·have e:cU M (M++t.map λc=>(o,c)) rt p=bG (M++t.map λc=>(o,c)) p:=aF g;rw [e];exact m
 have O:eA (aJ (M.map zz++t)) (λk l=>cU M (M++t.map λc=>(o,c)) rt k=cU M (M++t.map λc=>(o,c)) rt l) λ_ _=>False:=by
  intro J L e A C;by_cases x:J<M.length
  ·obtain ⟨u,D⟩:=f.in x e C;obtain ⟨U,V⟩:=f.cl J L D (sA x A) (sA u C);refine ⟨?_,λR p s i g=>?_⟩
   ·rw [(qS (t:=t) (sA x A)).2.2,(qS (t:=t) (sA u C)).2.2];exact U
   ·rw [rY f.whole (by simpa using x)] at i;rw [rY f.whole (by simpa using u)] at g;refine eI.mono (λk l hij=>?_) (V R p s i g);rcases hij with hij|hij
    ·exact eI.base (zt (f.up hij))
    ·exact hij.elim
  ·have u:¬L<M.length:=λu=>x (f.in u e.symm A).1
   have E:=f.new (t:=t) (o:=o) (by omega) A;have G:=f.new (t:=t) (o:=o) (by omega) C;have:J=L:=by rw [<-E,<-G];exact e
   subst this;refine ⟨rfl,λR p s i g=>?_⟩;rw [i] at g;simp at g;subst g;exact eI.refl _
 have Y:=O.done (B:=λk l=>bG (M++t.map λc=>(o,c)) k=bG (M++t.map λc=>(o,c)) l\/(k=a/\l=b)) (qF _) (λk l e=>by
   have m:=Q k;have r:=Q l;unfold eX at m r;rw [oW] at m r;have D:cU M (M++t.map λc=>(o,c)) rt k=cU M (M++t.map λc=>(o,c)) rt l:=e;rw [D] at m;exact m.trans r.symm) (λk l e=>by
   rcases e with e|⟨rfl,rfl⟩
   ·show cU M (M++t.map λc=>(o,c)) rt k=cU M (M++t.map λc=>(o,c)) rt l;unfold cU;rw [e]
   ·show cU M (M++t.map λc=>(o,c)) rt k=cU M (M++t.map λc=>(o,c)) rt l;rw [f.old f.ha,f.old f.hb];exact (f.iff _ _).2 (Cl.base (zr ⟨rfl,rfl⟩)))
 refine ⟨by rw [oW];exact X,by rw [v,n],by rw [zq,zm,f.ls,n],⟨?_,?_,?_,?_⟩,?_,by rw [oW];exact O,?_,?_,?_,by rw [n];have:=f.ha;omega,by rw [n];have:=f.hb;omega⟩
 ·intro p s g;have i:=(zy.1 g).1;rw [v] at i ⊢;by_cases j:p<M.length
  ·rw [H p j] at g;have:=f.forest.lt p s g;rw [f.lf] at this;omega
  ·rw [I p (by omega) i] at g;simp at g;subst g;exact Z p i
 ·intro p g;have i:=(zy.1 g).1;rw [v] at i;by_cases j:p<M.length
  ·rw [H p j] at g;rw [f.old j];exact f.forest.root p g
  ·rw [I p (by omega) i] at g;simp at g;unfold cU;rw [g,aF (by omega)]
 ·intro p s g P;have i:=(zy.1 g).1;rw [v] at i;by_cases j:p<M.length
  ·rw [H p j] at g;have q:=f.forest.lt p s g;rw [f.lf] at q;rw [f.old j,f.old q];unfold dX;rw [aG j,aG q];exact f.forest.step p s g P
  ·rw [I p (by omega) i] at g;simp at g;subst g;have N:=aD8 (M++t.map λc=>(o,c)) p;refine ⟨by unfold cU;rw [N],?_⟩;unfold dX;rw [aF j,aF P];by_cases q:bG (M++t.map λc=>(o,c)) p<M.length
   ·rw [aG q,aG q];omega
   ·rw [aF q,aG N,aF q];omega
 ·intro p i;rw [v] at i;unfold cU;rw [pT (M:=M++t.map λc=>(o,c)) (by rw [n];exact i),aF (by omega)]
 ·rw [oW];intro p i;by_cases j:p<M.length
  ·rw [f.old j];exact (qS (t:=t) (f.named p (sA j i))).2.1
  ·rw [f.new (by omega) i];exact i
 ·intro k l;unfold eX;rw [oW];exact Y.1 k l
 ·rw [oW];intro p c y;by_cases j:p<S.length
  ·rw [zv j] at y;rw [f.ls] at j;rcases f.sz p c y with e|e|⟨E,a2,G,W⟩
   ·exact zt e
   ·exact zr (zt e)
   ·exact zr (zr ⟨f.ends E j,a2,f.exp G (by simpa using j),W⟩)
  ·rw [zu (by omega)] at y;have:=(zy.1 y).2;simp at this;exact zt this.symm
 ·intro T z;by_cases j:T<S.length
  ·rw [zv j] at z;exact f.none T z
  ·rw [zu (by omega)] at z;have:=(zy.1 z).2;simp at this
end
def bL(b:List (Int×Lt)):List Tg:=b.flatMap λr=>r.2.2.map λa=>(r.1,a)
def eG:Nat->List (Int×Lt)->List Nat
 |_,[]=>[]
 |n,r::rs=>n::eG (n+r.2.2.length) rs
def cW(d:List (Int×Lt))(b:List (List Nd)):List Lt:=List.zipWith (λc a=>(c.2.1,a)) d b
def wT(a:List Tg)(b c:Nat):Prop:=lE (aJ (a.map zz)) (eX a b c)/\∀d,d<a.length->bY (aJ (a.map zz)) (eX a b c) d
def jG(b:List Tg)(c d:Nat)(a:List (Int×Lt))(i:List Lt)(k:Bool)(g:Int):Prop:=
 (¬wT (b++bL a) c d/\i=[]/\k=false/\g=0)\/
 (wT (b++bL a) c d/\∃(j:Nat->Nat) (e:List (List Nd)),(∀f l,j f=j l↔eX (b++bL a) c d f l)/\aO (λf m=>aU (aJ ((b++bL a).map zz)) (eX (b++bL a) c d) j [f] m) (eG b.length a) e/\
  ((500<aS (aT (cW a e))/\i=[]/\k=false/\g=4)\/(aS (aT (cW a e))<=500/\i=aT (cW a e)/\k=true/\g=0)))
theorem aJr:∀(n:Nat) (a:List (Int×Lt)),(eG n a).length=a.length
 |_,[]=>rfl
 |n,r::rs=>by simp [eG,aJr _ rs]
theorem aXm{e:Gr}{f:Nat->Nat->Prop}{k rd:Nat->Nat}{l:List Nat}{c:List Nd}(m:aU e f k l c):∃d,aU e f rd l d/\aO (gA λa b=>∃g,a=(k g:Int)/\b=(rd g:Int)) c d:=by
 induction m with
 |nil=>exact ⟨[],aU.nil,aO.nil⟩
 |@var i r c h1 _ ih=>
  obtain ⟨d,a,b⟩:=ih;exact ⟨_,aU.var h1 a,aO.cons (zt ⟨uJ _,uJ _,rfl,i,rfl,rfl⟩) b⟩
 |@name i j r c h1 h2 _ ih=>
  obtain ⟨d,a,b⟩:=ih;exact ⟨_,aU.name h1 h2 a,aO.cons (zr ⟨h2,rfl⟩) b⟩
theorem aJs{b:Int->Int->Prop}:∀(e:List (Int×Lt)) {c d:List (List Nd)},aO (λf g=>aO (gA b) f g) c d->aO (iH b) (cW e c) (cW e d)
 |[],_,_,_=>aO.nil
 |_::_,_,_,aO.nil=>aO.nil
 |_::rs,_,_,aO.cons a h=>aO.cons ⟨rfl,a⟩ (aJs rs h)
theorem aDb{f:List Tg}{o p:Nat}{d:List (Int×Lt)}{C D:List Lt}{e z:Bool}{j A:Int}(u:jG f o p d C e j)(l:jG f o p d D z A):C=D/\e=z/\j=A:=by
 rcases u with ⟨r,rfl,rfl,rfl⟩|⟨r,n,q,B,M,I⟩
 ·rcases l with ⟨_,rfl,rfl,rfl⟩|⟨v,_⟩
  ·exact ⟨rfl,rfl,rfl⟩
  ·exact absurd v r
 ·rcases l with ⟨v,_⟩|⟨_,i,m,y,N,x⟩
  ·exact absurd r v
  ·have J:kA (aJ ((f++bL d).map zz)) (eX (f++bL d) o p):=Cl.isDown _ _;have L:lY λb e=>∃a,b=(n a:Int)/\e=(i a:Int):=by
    rintro b e T z ⟨a,rfl,rfl⟩ ⟨t,rfl,rfl⟩;constructor
    ·intro j;have:i a=i t:=(y _ _).2 ((B a t).1 (by omega));omega
    ·intro j;have:n a=n t:=(B _ _).2 ((y a t).1 (by omega));omega
   have O:aO (λg s=>aO (gA λb e=>∃a,b=(n a:Int)/\e=(i a:Int)) g s) q m:=by
    have S:∀{b:List Nat} {q m:List (List Nd)},aO (λa g=>aU (aJ ((f++bL d).map zz)) (eX (f++bL d) o p) n [a] g) b q->aO (λa g=>aU (aJ ((f++bL d).map zz)) (eX (f++bL d) o p) i [a] g) b m->aO (λg s=>aO (gA λb e=>∃a,b=(n a:Int)/\e=(i a:Int)) g s) q m:=by
     intro b q m u;induction u generalizing m with
     |nil=>intro l;cases l;exact aO.nil
     |cons c _ ih=>
      intro l;cases l with
      |cons c' k=>
       refine aO.cons ?_ (ih k);obtain ⟨s,G,H⟩:=aXm (rd:=i) c;have:=aU.one J r.1 (uA _) (λQ R j=>(y Q R).2 j) G _ c';subst this;exact H
    exact S M N
   have P:=aC8 L (aJs d O);rw [<-P] at x;rcases I with ⟨E,rfl,rfl,rfl⟩|⟨E,rfl,rfl,rfl⟩
   ·rcases x with ⟨_,rfl,rfl,rfl⟩|⟨F,_⟩
    ·exact ⟨rfl,rfl,rfl⟩
    ·omega
   ·rcases x with ⟨F,_⟩|⟨_,rfl,rfl,rfl⟩
    ·omega
    ·exact ⟨rfl,rfl,rfl⟩
section
variable {M:List Tg}{o:Int}{t:List Nd}{a b:Nat}{F:List Nat}{rt d:Nat->Nat}{S:List Int}
theorem iC.endsAll(i:iC M a b F rt d S)(I:aN t 1=true)(s:∀e,e<M.length->bY (aJ (M.map zz)) (λq c=>rt q=rt c) e):∀(l e:Nat),e+l=M.length+t.length->bY (aJ (M.map zz++t)) (λq c=>cU M (M++t.map λf=>(o,f)) rt q=cU M (M++t.map λf=>(o,f)) rt c) e:=by
 have C:eT (M.map zz++t):=i.whole.append (wJ I);intro l;induction l using Nat.strongRecOn with
 |_ l ih=>
  intro e N;by_cases y:e<M.length
  ·exact i.ends (s e y) y
  ·refine ⟨_,λc D p m k=>?_⟩;have g:cU M (M++t.map λf=>(o,f)) rt e=cU M (M++t.map λf=>(o,f)) rt c:=D;by_cases v:c<M.length
   ·have G:=sA v p;rw [rY i.whole (by simpa using v)] at k;have A:=aD9 i.whole G k;exact i.ends (s m A) A
   ·rw [i.new (by omega) p] at g;obtain ⟨O,j,u⟩:=pF p;have E:c=e:=by
     unfold cU at g;split at g
     ·rename_i H;have:=i.rt_lt H;omega
     ·rw [<-oW M o t,zk] at j;obtain ⟨Q,J,rfl⟩:=Option.map_eq_some_iff.1 j;cases hm:(M++t.map λf=>(o,f))[e]? with
      |none=>rw [pT (by simpa using (List.getElem?_eq_none_iff.1 hm))] at g;exact g.symm
      |some z=>
       cases hv:aM z.2 with
       |false=>rw [nR hm hv] at g;exact g.symm
       |true=>
        obtain ⟨_,_,P,n,B,_⟩:=nS hm hv;rw [g,J] at n;simp at n;subst n;rw [B] at u;cases u
    subst E;rw [lU j] at k;have L:=aBk _ _ _ (C c _ j) m k;have x:c<(M.map zz++t).length:=(zy.1 j).1;have r:aL ((M.map zz++t).drop c) 1<=((M.map zz++t).drop c).length:=rS _ _;rw [zs x,(zy.1 j).2] at r;simp [aL] at r;simp at x;exact ih (M.length+t.length-m) (by omega) m (by omega)
end
theorem aXn{a:Nat}(b:w.heap[a]?=some (.map #[] 0)):w.ownsMap zw 212 fK a 0 (.map []):=by
 have e:=(zx.1 b).1;have c:(World.alloc {w with heap:=w.heap.extract 0 a} (.map #[] 0)).ownsMap zw 212 fK ({w with heap:=w.heap.extract 0 a}:World).heap.size 0 (.map []):=World.ownsMap_made _ _ _ _;have d:({w with heap:=w.heap.extract 0 a}:World).heap.size=a:=by simp;omega
 rw [d] at c;refine aD2 c ?_;rw [b];have:=heap_alloc_new ({w with heap:=w.heap.extract 0 a}:World) (.map #[] 0);rw [d] at this;exact this.symm
theorem zQ{e:World}{d a b g:Nat}{c:Array Value}{f:TypeId}(j:d<=a)(i:e.heap[a]?=some (.cells c f))(k:c.size=b*g)(l:b<=1000000):e.ownsRow d f g (.slice (some ⟨a,0,none⟩) 0 b) 0 []:=
 ⟨by simp,zr ⟨a,b,c,rfl,j,i,Nat.zero_le _,by unfold maxLen;omega,k,by simp⟩⟩
structure aDc(w:World)(tb mp:Nat)(vn ve vl vs:Value)(w':World):Prop where
 tm:cG w' w.heap.size tb vn ve vl vs (.map (some mp)) [] [] [] []
 first:fV w' mp []
 low:aB w w'
 ne:mp≠tb
 mlow:w.heap.size<=mp
theorem aXo{b:World}{a j c d e f tb:Nat}{l g:Array Value}(i:a<=1000000)(A:l.size=a*2)(k:g.size=a*1)(y:aB w b)(t:b.heap[j]?=some (.cells l 43))(u:b.heap[c]?=some (.cells g 3))(v:b.heap[d]?=some (.cells g 3))(x:b.heap[e]?=some (.cells g 3))(z:b.heap[f]?=some (.map #[] 0))
  (B:b.heap[tb]?=some (.cells #[.slice (some ⟨j,0,none⟩) 0 a,.slice (some ⟨c,0,none⟩) 0 a,.slice (some ⟨d,0,none⟩) 0 a,.slice (some ⟨e,0,none⟩) 0 a,.map (some f)] 191))
  (C:w.heap.size<=j/\w.heap.size<=c/\w.heap.size<=d/\w.heap.size<=e/\w.heap.size<=f/\w.heap.size<=tb) (D:c≠d/\c≠e/\d≠e/\f≠tb):aDc w tb f (.slice (some ⟨j,0,none⟩) 0 a) (.slice (some ⟨c,0,none⟩) 0 a) (.slice (some ⟨d,0,none⟩) 0 a) (.slice (some ⟨e,0,none⟩) 0 a) b:=by
 obtain ⟨m,n,o,p,q,r⟩:=C;obtain ⟨E,F,G,s⟩:=D;refine ⟨⟨B,r,zQ m t A i,zQ n u k i,zQ o v k i,zQ p x k i,?_,?_,?_,?_,?_,?_⟩,⟨0,.map [],aXn z,mW.start,Nat.le_refl _⟩,y,s,q⟩;all_goals simp [Value.ownBlock]
 all_goals assumption
abbrev Ob:=Option Nat
def vS(a:Nat):Ob->Value
 |some k=>.slice (some ⟨k,0,none⟩) 0 a
 |none=>undef
def vM:Ob->Value
 |some k=>.map (some k)
 |none=>undef
def aJt(a b c d e:Ob):Array Bool:=#[true,a.isSome,true,b.isSome,true,c.isSome,true,d.isSome,e.isSome,false,false,false]
def nU(a:Nat)(b c d e f:Ob):Act:={tmps:=#[.int .i64 a,undef,.pointer none,.int .i64 a,vS a b,.int .i64 a,vS a c,.int .i64 a,vS a d,.int .i64 a,vS a e,vM f,undef,undef],defers:=[]}
def qT(a b c d e:Bool):List Nat:=(if a then [] else [1])++(if b then [] else [3])++(if c then [] else [5])++(if d then [] else [7])++(if e then [] else [8])
def pU(a b c d e:Ob):List Nat:=qT a.isSome b.isSome c.isSome d.isSome e.isSome
structure fO(w:World)(c1 c2:Array Value)(o1 o2 o3 o4 o5:Ob)(W:World):Prop where
 low:aB w W
 h1:∀k,o1=some k->w.heap.size<=k/\W.heap[k]?=some (.cells c1 43)
 h2:∀k,o2=some k->w.heap.size<=k/\W.heap[k]?=some (.cells c2 3)
 h3:∀k,o3=some k->w.heap.size<=k/\W.heap[k]?=some (.cells c2 3)
 h4:∀k,o4=some k->w.heap.size<=k/\W.heap[k]?=some (.cells c2 3)
 h5:∀k,o5=some k->w.heap.size<=k/\W.heap[k]?=some (.map #[] 0)
 n23:∀k,o2=some k->o3≠some k
 n24:∀k,o2=some k->o4≠some k
 n34:∀k,o3=some k->o4≠some k
section
variable {w W:World}{c1 c2:Array Value}{o1 o2 o3 o4 o5:Ob}
theorem fO.start(b:aB w W):fO w c1 c2 none none none none none W:=⟨b,(λ_ a=>nomatch a),(λ_ a=>nomatch a),(λ_ a=>nomatch a),(λ_ a=>nomatch a),(λ_ a=>nomatch a),(λ_ a=>nomatch a),(λ_ a=>nomatch a),(λ_ a=>nomatch a)⟩
theorem fO.lt(b:fO w c1 c2 o1 o2 o3 o4 o5 W):(o1≠some W.heap.size/\o2≠some W.heap.size)/\o3≠some W.heap.size/\o4≠some W.heap.size/\o5≠some W.heap.size:=by
 refine ⟨⟨λa=>?_,λa=>?_⟩,λa=>?_,λa=>?_,λa=>?_⟩
 ·have:=(zx.1 (b.h1 _ a).2).1;omega
 ·have:=(zx.1 (b.h2 _ a).2).1;omega
 ·have:=(zx.1 (b.h3 _ a).2).1;omega
 ·have:=(zx.1 (b.h4 _ a).2).1;omega
 ·have:=(zx.1 (b.h5 _ a).2).1;omega
theorem wU{c d:Obj}{b:Nat}(a:W.heap[b]?=some c):(W.alloc d).heap[b]?=some c:=by rw [heap_alloc_old W d (zx.1 a).1,a]
theorem fO.alloc(a:fO w c1 c2 o1 o2 o3 o4 o5 W)(x:Obj):fO w c1 c2 o1 o2 o3 o4 o5 (W.alloc x):=
 ⟨a.low.alloc a.low.size x,λk b=>⟨(a.h1 k b).1,wU (a.h1 k b).2⟩,λk b=>⟨(a.h2 k b).1,wU (a.h2 k b).2⟩,λk b=>⟨(a.h3 k b).1,wU (a.h3 k b).2⟩,λk b=>⟨(a.h4 k b).1,wU (a.h4 k b).2⟩,λk b=>⟨(a.h5 k b).1,wU (a.h5 k b).2⟩,a.n23,a.n24,a.n34⟩
theorem fO.s1(c:fO w c1 c2 o1 o2 o3 o4 o5 W):fO w c1 c2 (some W.heap.size) o2 o3 o4 o5 (W.alloc (.cells c1 43)):=by have a:=c.alloc (.cells c1 43);exact ⟨a.low,λd b=>by simp at b;subst b;exact ⟨c.low.size,heap_alloc_new _ _⟩,a.h2,a.h3,a.h4,a.h5,a.n23,a.n24,a.n34⟩
theorem fO.s2(c:fO w c1 c2 o1 o2 o3 o4 o5 W):fO w c1 c2 o1 (some W.heap.size) o3 o4 o5 (W.alloc (.cells c2 3)):=by have b:=c.alloc (.cells c2 3);exact ⟨b.low,b.h1,λd a=>by simp at a;subst a;exact ⟨c.low.size,heap_alloc_new _ _⟩,b.h3,b.h4,b.h5,λd a=>by simp at a;subst a;exact c.lt.2.1,λd a=>by simp at a;subst a;exact c.lt.2.2.1,b.n34⟩
theorem fO.s3(c:fO w c1 c2 o1 o2 o3 o4 o5 W):fO w c1 c2 o1 o2 (some W.heap.size) o4 o5 (W.alloc (.cells c2 3)):=by have b:=c.alloc (.cells c2 3);exact ⟨b.low,b.h1,b.h2,λe a=>by simp at a;subst a;exact ⟨c.low.size,heap_alloc_new _ _⟩,b.h4,b.h5,λe a d=>by simp at d;subst d;exact c.lt.1.2 a,b.n24,λe a=>by simp at a;subst a;exact c.lt.2.2.1⟩
theorem fO.s4(d:fO w c1 c2 o1 o2 o3 o4 o5 W):fO w c1 c2 o1 o2 o3 (some W.heap.size) o5 (W.alloc (.cells c2 3)):=by have b:=d.alloc (.cells c2 3);exact ⟨b.low,b.h1,b.h2,b.h3,λe a=>by simp at a;subst a;exact ⟨d.low.size,heap_alloc_new _ _⟩,b.h5,b.n23,λe a c=>by simp at c;subst c;exact d.lt.1.2 a,λe a c=>by simp at c;subst c;exact d.lt.2.1 a⟩
theorem fO.s5(c:fO w c1 c2 o1 o2 o3 o4 o5 W):fO w c1 c2 o1 o2 o3 o4 (some W.heap.size) (W.alloc (.map #[] 0)):=by have a:=c.alloc (.map #[] 0);exact ⟨a.low,a.h1,a.h2,a.h3,a.h4,λd b=>by simp at b;subst b;exact ⟨c.low.size,heap_alloc_new _ _⟩,a.n23,a.n24,a.n34⟩
end
def tH(a b c d e:Ob):Nat:=(pU a b c d e).length
theorem aXp{n:Nat}{c1 c2:Array Value}{g:Array Oper}{D:Exit->Act->World->Prop}{m o p q r:Oper}
  (U:g[1]?=some m) (V:g[3]?=some o) (W:g[5]?=some p) (X:g[7]?=some q) (Y:g[8]?=some r)
  (Z:m.guard=none/\o.guard=none/\p.guard=none/\q.guard=none/\r.guard=none) (N:m.dst=some 4/\o.dst=some 6/\p.dst=some 8/\q.dst=some 10/\r.dst=some 11)
  (H:∀(b c d e f:Ob) (a:World),(execOp (nU n b c d e f).eval m).run zw a=.ok (.value (.slice (some ⟨a.heap.size,0,none⟩) 0 n)) (a.alloc (.cells c1 43)))
  (I:∀(b c d e f:Ob) (a:World),(execOp (nU n b c d e f).eval o).run zw a=.ok (.value (.slice (some ⟨a.heap.size,0,none⟩) 0 n)) (a.alloc (.cells c2 3)))
  (J:∀(b c d e f:Ob) (a:World),(execOp (nU n b c d e f).eval p).run zw a=.ok (.value (.slice (some ⟨a.heap.size,0,none⟩) 0 n)) (a.alloc (.cells c2 3)))
  (L:∀(b c d e f:Ob) (a:World),(execOp (nU n b c d e f).eval q).run zw a=.ok (.value (.slice (some ⟨a.heap.size,0,none⟩) 0 n)) (a.alloc (.cells c2 3)))
  (M:∀(b c d e f:Ob) (a:World),(execOp (nU n b c d e f).eval r).run zw a=.ok (.value (.map (some a.heap.size))) (a.alloc (.map #[] 0)))
  (G:∀(s t u v x:Bool),(s && t && u && v && x)=false->Region.ready .any g #[true,s,true,t,true,u,true,v,x,false,false,false]=qT s t u v x)
  (E:∀(y z A B C:Nat) (a:World),fO w c1 c2 (some y) (some z) (some A) (some B) (some C) a->wpAny zw .any g D 3 (aJt (some y) (some z) (some A) (some B) (some C)) (nU n (some y) (some z) (some A) (some B) (some C)) a):∀(j:Nat) (b c d e f:Ob) (a:World),tH b c d e f=j->fO w c1 c2 b c d e f a->wpAny zw .any g D (j+3) (aJt b c d e f) (nU n b c d e f) a:=by
 obtain ⟨a0,a1,a2,a3,a4⟩:=Z;obtain ⟨O,P,Q,R,S⟩:=N;intro j;induction j with
 |zero=>
  intro b c d e f a k i;have a5:=List.eq_nil_of_length_eq_zero k;cases b<;>cases c<;>cases d<;>cases e<;>cases f<;>first|(simp [pU,qT] at a5;done)|exact E _ _ _ _ _ _ i
 |succ j ih=>
  intro b c d e f a k i;have F:pU b c d e f≠[]:=λT=>by unfold tH at k;rw [T] at k;simp at k
  rw [show j+1+3=(j+3)+1 by omega];refine wpAny_all (rs:=pU b c d e f) (G _ _ _ _ _ (by cases b<;>cases c<;>cases d<;>cases e<;>cases f<;>first|rfl|exact absurd rfl F)) F λl a6=>?_
  have a7:(l=1/\b=none)\/(l=3/\c=none)\/(l=5/\d=none)\/(l=7/\e=none)\/(l=8/\f=none):=by clear G E ih H I J L M;cases b<;>cases c<;>cases d<;>cases e<;>cases f<;>simp [pU,qT] at a6 ⊢<;>omega
  rcases a7 with ⟨rfl,rfl⟩|⟨rfl,rfl⟩|⟨rfl,rfl⟩|⟨rfl,rfl⟩|⟨rfl,rfl⟩
  ·refine tY U a0 (H _ _ _ _ _ a) ?_;rw [O];exact ih (some a.heap.size) c d e f _ (by unfold tH pU qT at *;simp at *;omega) i.s1
  ·refine tY V a1 (I _ _ _ _ _ a) ?_;rw [P];exact ih b (some a.heap.size) d e f _ (by unfold tH pU qT at *;simp at *;omega) i.s2
  ·refine tY W a2 (J _ _ _ _ _ a) ?_;rw [Q];exact ih b c (some a.heap.size) e f _ (by unfold tH pU qT at *;simp at *;omega) i.s3
  ·refine tY X a3 (L _ _ _ _ _ a) ?_;rw [R];exact ih b c d (some a.heap.size) f _ (by unfold tH pU qT at *;simp at *;omega) i.s4
  ·refine tY Y a4 (M _ _ _ _ _ a) ?_;rw [S];exact ih b c d e (some a.heap.size) _ (by unfold tH pU qT at *;simp at *;omega) i.s5
theorem aJu(a:Nat)(V:a<=1000000)(w:World):Calls zw 124 #[.int .i64 a] w λe a2=>∃H X a0 Y Z a1,e=.returned (.pointer (some ⟨H,0,none⟩))/\aDc w H X a0 Y Z a1 a2:=by
 obtain ⟨G,z,A,B,C⟩:=info_parts rE;obtain ⟨F,b,u,x,y⟩:=info_parts sI;have U:=@run_makeMap zw;obtain ⟨m,D,T⟩ : ∃m:Array Value,m.size=a*2/\∀w:World,(Instr.makeSlice 39 (.int .i64 0) (.int .i64 a)).run zw w=.ok (.slice (some ⟨w.heap.size,0,none⟩) 0 a) (w.alloc (.cells m 43)):=
  ⟨madeCells (Value.agg #[.string ⟨#[]⟩,.int .i64 0]).cells (a*G.size),by rw [size_madeCells,B],λw=>by
   have:=run_make (P:=zw) w 39 43 G _ Tryz.underlying39 z A .i64 .i64 0 a (Int.le_refl _) (by omega) (by rw [C];omega) (by omega);simpa using this⟩
 obtain ⟨n,E,t⟩ : ∃n:Array Value,n.size=a*1/\∀w:World,(Instr.makeSlice 33 (.int .i64 0) (.int .i64 a)).run zw w=.ok (.slice (some ⟨w.heap.size,0,none⟩) 0 a) (w.alloc (.cells n 3)):=
  ⟨madeCells (Value.int .i64 0).cells (a*F.size),by rw [size_madeCells,x],λw=>by
   have:=run_make (P:=zw) w 33 3 F _ Tryz.underlying33 b u .i64 .i64 0 a (Int.le_refl _) (by omega) (by rw [y];omega) (by omega);simpa using this⟩
 have I:=aA D;have J:=aA E;clear z A B C b u x y D E;go_enter Tryz.func124,Tryz.ntmps124;go_upto_region 1 with (fail);refine wp_region_any (by kernel_rfl) ?_;refine wpAny_take (i:=0) (v:=.int .i64 a) rfl (by kernel_rfl) (by kernel_rfl) (by kernel_rfl) (λ_ _ _ c=>c) (zt ⟨by rfl,λw=>rfl⟩) ?_;refine wpAny_take (i:=2) (v:=.int .i64 a) rfl (by kernel_rfl) (by kernel_rfl) (by kernel_rfl) (λ_ _ _ c=>c) (zt ⟨by rfl,λw=>rfl⟩) ?_;refine wpAny_take (i:=4) (v:=.int .i64 a) rfl (by kernel_rfl) (by kernel_rfl) (by kernel_rfl) (λ_ _ _ c=>c) (zt ⟨by rfl,λw=>rfl⟩) ?_;refine wpAny_take (i:=6) (v:=.int .i64 a) rfl (by kernel_rfl) (by kernel_rfl) (by kernel_rfl) (λ_ _ _ c=>c) (zt ⟨by rfl,λw=>rfl⟩) ?_;refine aXp (w:=w) (c1:=m) (c2:=n) (n:=a) rfl rfl rfl rfl rfl ⟨rfl,rfl,rfl,rfl,rfl⟩ ⟨rfl,rfl,rfl,rfl,rfl⟩ ?_ ?_ ?_ ?_ ?_ ?_ ?_ 5 none none none none none _ rfl ?_
 ·intro o p q r s d;simp [execOp,nU,Act.eval,T]
 ·intro o p q r s d;simp [execOp,nU,Act.eval,t]
 ·intro o p q r s d;simp [execOp,nU,Act.eval,t]
 ·intro o p q r s d;simp [execOp,nU,Act.eval,t]
 ·intro o p q r s d;simp [execOp,nU,U]
 ·intro M N O Q R c;cases M<;>cases N<;>cases O<;>cases Q<;>cases R<;>first|(cases c;done)|kernel_rfl
 ·intro j f i k l d b;change wpAny zw .any _ _ 3 #[true,true,true,true,true,true,true,true,true,false,false,false] {tmps:=#[.int .i64 a,undef,.pointer none,.int .i64 a,.slice (some ⟨j,0,none⟩) 0 a,.int .i64 a,.slice (some ⟨f,0,none⟩) 0 a,.int .i64 a,.slice (some ⟨i,0,none⟩) 0 a,.int .i64 a,.slice (some ⟨k,0,none⟩) 0 a,.map (some l),undef,undef],defers:=[]} d;refine wpAny_take (i:=9) (v:=.agg #[.slice (some ⟨j,0,none⟩) 0 a,.slice (some ⟨f,0,none⟩) 0 a,.slice (some ⟨i,0,none⟩) 0 a,.slice (some ⟨k,0,none⟩) 0 a,.map (some l)]) rfl (by kernel_rfl) (by kernel_rfl) (by kernel_rfl) (λ_ _ _ c=>c) (zt ⟨by rfl,λw=>by go_simp⟩) ?_;refine wpAny_all (rs:=[10]) (by kernel_rfl) (by simp) λW S=>?_
  obtain rfl:W=10:=by simpa using S
  refine tY (v:=.pointer (some ⟨d.heap.size,0,none⟩)) (w':=d.alloc (.cells #[.slice (some ⟨j,0,none⟩) 0 a,.slice (some ⟨f,0,none⟩) 0 a,.slice (some ⟨i,0,none⟩) 0 a,.slice (some ⟨k,0,none⟩) 0 a,.map (some l)] 191)) rfl rfl (by rfl) ?_;refine wpAny_take (i:=11) (v:=.pointer (some ⟨d.heap.size,0,none⟩)) rfl (by kernel_rfl) (by kernel_rfl) (by kernel_rfl) (λ_ _ _ c=>c) (zt ⟨by rfl,λw=>by rfl⟩) ?_;refine wpAny_done (by kernel_rfl) ?_ _;have g:=b.alloc (.cells #[.slice (some ⟨j,0,none⟩) 0 a,.slice (some ⟨f,0,none⟩) 0 a,.slice (some ⟨i,0,none⟩) 0 a,.slice (some ⟨k,0,none⟩) 0 a,.map (some l)] 191);have L:=aA (aXo (tb:=d.heap.size) V I.o J.o g.low (g.h1 j rfl).2 (g.h2 f rfl).2 (g.h3 i rfl).2 (g.h4 k rfl).2 (g.h5 l rfl).2 (heap_alloc_new _ _) ⟨(b.h1 j rfl).1,(b.h2 f rfl).1,(b.h3 i rfl).1,(b.h4 k rfl).1,(b.h5 l rfl).1,b.low.size⟩ ⟨λe=>b.n23 f rfl (by rw [e]),λe=>b.n24 f rfl (by rw [e]),λe=>b.n34 i rfl (by rw [e]),λe=>b.lt.2.2.2 (by rw [e])⟩);clear b g;go_wp2;go_ret;exact ⟨_,_,_,_,_,_,rfl,L.o⟩
 ·exact fO.start (aQ ⟨1,rfl⟩)
structure kR(B tb mp:Nat)(M:List Tg)(w:World):Prop where
 tm:∃vn ve vl vs,cG w B tb vn ve vl vs (.map (some mp)) (M.map zz) (eN (M.map zz)) (qQ M) (zl M.length 0)
 first:fV w mp M
 whole:eT (M.map zz)
 big:B<=w.heap.size
 ne:mp≠tb
 mlow:B<=mp
theorem kR.new{i:World}{c b:Nat}{f d e g:Value}(a:aDc w c b f d e g i):kR w.heap.size c b [] i:=
 ⟨⟨f,d,e,g,a.tm⟩,a.first,λk l j=>by simp at j,a.low.size,a.ne,a.mlow⟩
theorem zR{e i j:Nat}{a:List Tg}(b:kR e i j a w)(d:Int)(f:Option Addr)(l:Nat)(c:List Nd)(v:cS w f c)(p:aN c 1=true)(u:∀q,f=some q->q.block<e)(t:a.length+c.length<=1000000)(x : -1000<=d/\d<=1000):Calls zw 126 #[.pointer (some ⟨i,0,none⟩),.int .i64 d,.slice f c.length l] w λm k=>m=.returned (.int .i64 a.length)/\kR e i j (a++aW d c) k/\Below e w k:=by
 obtain ⟨D,z,B,F,y⟩:=b.tm;have g:(a.map zz).length=a.length:=by simp
 refine (aIw e i j D z B F (a.map zz) (qQ a) (zl a.length 0) a d f l c w y rfl b.whole b.first (by rw [mD,g]) (by rw [zm,g]) b.big b.ne b.mlow p v u (by rw [g];exact t) x).mono ?_;rintro m k ⟨E,A,C,G,rfl,r,s,n,_⟩;have o:(a++aW d c).map zz=a.map zz++c:=by rw [List.map_append,zN]
 refine ⟨by rw [g],⟨⟨E,A,C,G,?_⟩,s,by rw [o];exact b.whole.append (wJ p),Nat.le_trans b.big n.low.size,b.ne,b.mlow⟩,n.low⟩;rw [o,aJ6,zq,List.replicate_append_replicate.symm];simpa using r
theorem aXq{c:List Nd}(n:eT c){l:Nat->Nat->Prop}{j:Nat->Nat}{k:List Nat}{f:List Nd}(m:aU (aJ c) l j k f)(g:∀b∈k,b<c.length):∀a∈f,(aM a=true/\∃b,b<c.length/\a=(⟨#[]⟩,(j b:Int)))\/(aM a=false/\a∈c):=by
 induction m with
 |nil=>intro a hn;simp at hn
 |@var b r f h1 _ ih=>
  intro a hn;rcases zp.1 hn with rfl|hn
  ·exact zt ⟨uJ _,b,g b (by simp),rfl⟩
  ·exact ih (λe o=>g e (by simp [o])) a hn
 |@name b e r f h1 h2 _ ih=>
  intro a hn;obtain ⟨u,d,s⟩:=pF h2;have q:=(zy.1 d).1;rcases zp.1 hn with rfl|hn
  ·right;rw [pG d];exact ⟨s,List.mem_of_getElem? d⟩
  ·refine ih (λp hp=>?_) a hn;rcases zn.1 hp with hp|hp
   ·rw [lU d] at hp;have t:=(aBk _ _ _ (n e _ d) p hp).2;have i:aL (c.drop e) 1<=(c.drop e).length:=rS _ _;rw [zs q,(zy.1 d).2] at i;simp [aL] at i;omega
   ·exact g p (by simp [hp])
theorem wV{d:Option Addr}{a:List Nd}(e:cS w d a)(j:aN a 1=true):∀c,d=some c->c.block<w.heap.size:=by
 intro c i;have f:0<a.length:=by
  cases a with
  |nil=>simp [aN] at j
  |cons=>simp
 obtain ⟨k,l,b,g,_⟩:=e.cell 0 f;rw [i] at b;simp at b;rw [b];exact World.block_lt_of_cell? w _ g
theorem zS(a:Int×Lt)(b:List (Int×Lt)):bL (a::b)=(a.2.2.map λc=>(a.1,c))++bL b:=by simp [bL]
theorem aJv(b:List Tg)(a:Int×Lt)(c:List (Int×Lt)):b++bL (a::c)=(b++a.2.2.map λd=>(a.1,d))++bL c:=by rw [zS,List.append_assoc]
def oX(c:List Tg)(j k:Nat)(f:List Nat)(n:List (List Nd)):Prop:=
 ∃g b l i,iC c j k g b l i/\(∀a,a<c.length->bY (aJ (c.map zz)) (λd e=>b d=b e) a)/\aO (λa m=>aU (aJ (c.map zz)) (λd e=>b d=b e) b [a] m) f n/\∀a∈f,a<c.length
section
variable {M:List Tg}{a b:Nat}{ps:List Nat}{ls:List (List Nd)}
theorem oX.more(k:oX M a b ps ls)(o:Int){d:List Nd}(l:aN d 1=true):∃g,oX (M++d.map λe=>(o,e)) a b (ps++[M.length]) (ls++[g]):=by
 obtain ⟨A,f,B,S,m,t,v,r⟩:=k;have s:=oW M o d;have y:0<d.length:=by
  cases d with
  |nil=>simp [aN] at l
  |cons=>simp
 have n:∀p,p<M.length+d.length->bY (aJ (M.map zz++d)) (λi j=>cU M (M++d.map λe=>(o,e)) f i=cU M (M++d.map λe=>(o,e)) f j) p:=λp hp=>m.endsAll (o:=o) l t (M.length+d.length-p) p (by omega)
 obtain ⟨g,u⟩:=(n M.length (by omega)).exp (rep:=cU M (M++d.map λe=>(o,e)) f);refine ⟨g,_,_,_,_,m.add (o:=o) l,λp hp=>by rw [s];exact n p (by simpa using hp),?_,λp hp=>?_⟩
 ·rw [s];have z:∀{ps:List Nat} {ls:List (List Nd)},aO (λp g=>aU (aJ (M.map zz)) (λi j=>f i=f j) f [p] g) ps ls->(∀p∈ps,p<M.length)->aO (λp g=>aU (aJ (M.map zz++d)) (λi j=>cU M (M++d.map λe=>(o,e)) f i=cU M (M++d.map λe=>(o,e)) f j) (cU M (M++d.map λe=>(o,e)) f) [p] g) ps ls:=by
   intro ps ls k;induction k with
   |nil=>intro _;exact aO.nil
   |cons c _ ih=>
    intro hp;exact aO.cons (m.exp (o:=o) c (λi q=>by simp at q;subst q;exact hp _ (by simp))) (ih λp x=>hp p (by simp [x]))
  exact (z v r).snoc u
 ·rcases zn.1 hp with hp|hp
  ·have:=r p hp;simp;omega
  ·simp at hp;subst hp;simp;exact y
theorem oX.all:∀(e:List (Int×Lt)) {M:List Tg} {ps:List Nat} {ls:List (List Nd)},oX M a b ps ls->(∀c∈e,aN c.2.2 1=true)->∃d,oX (M++bL e) a b (ps++eG M.length e) (ls++d):=by
 intro e;induction e with
 |nil=>
  intro M ps ls f _;exact ⟨[],by simpa [bL,eG] using f⟩
 |cons c rs ih=>
  intro M ps ls f i;obtain ⟨g,l⟩:=f.more c.1 (i c (by simp));obtain ⟨d,m⟩:=ih l (λp n=>i p (by simp [n]));refine ⟨g::d,?_⟩;rw [aJv];have j:ps++eG M.length (c::rs)=ps++[M.length]++eG (M++c.2.2.map λo=>(c.1,o)).length rs:=by simp [eG]
  have k:ls++g::d=ls++[g]++d:=by simp
  rw [j,k];exact m
end
theorem aXr:∀(g:List (Int×Lt)) {a:List Tg} {b c:Nat},(∀e∈g,aN e.2.2 1=true)->eT (a.map zz)->wT (a++bL g) b c->lE (aJ (a.map zz)) (eX a b c)/\∀f,f<a.length->bY (aJ (a.map zz)) (eX a b c) f:=by
 intro g;induction g with
 |nil=>
  intro a b c _ _ d;simp only [bL,List.flatMap_nil,List.append_nil] at d;exact d
 |cons e rs ih=>
  intro a b c m i d;rw [aJv] at d;have l:=oW a e.1 e.2.2;obtain ⟨j,k⟩:=ih (λo n=>m o (by simp [n])) (by rw [l];exact i.append (wJ (m e (by simp)))) d;rw [l] at j k;exact ⟨aXl i j,λf p=>aXk i (k f (by simp;omega))⟩
theorem aXs{b:List Lt}{a:Lt}(h:a∈b):a∈bV b:=by
 suffices ∀(b:List Lt) (c:List Lt) (a:Lt),a∈c\/a∈b->a∈b.foldl eE c from this b [] a (zr h)
 intro b;induction b with
 |nil=>intro c a h;simpa using h
 |cons y r ih=>
  intro c a h;simp only [List.foldl_cons];refine ih _ _ ?_;have f:∀e,e∈c\/e=y->e∈eE c y:=by
   intro e d;unfold eE;split
   ·rename_i g;rcases d with d|rfl
    ·exact d
    ·exact (xP _ _).1 g
   ·simpa using d
  rcases h with h|h
  ·exact zt (f a (zt h))
  ·rcases zp.1 h with rfl|h
   ·exact zt (f a (zr rfl))
   ·exact zr h
theorem aXt(a:List Lt):aS (dB a).1=aS a:=by
 suffices ∀(a:List Lt) (b:List Lt×List Int),aS (a.foldl dM b).1=aS b.1+aS a by
  have:=this a ([],[]);simpa [dB,aS] using this
 intro a;induction a with
 |nil=>intro b;simp [aS]
 |cons x r ih=>
  intro b;simp only [List.foldl_cons];rw [ih];have c:(dY x.2 b.2).1.length=x.2.length:=(vF x.2 b.2).1;simp only [dM,pZ,c];have d:aS (x::r)=x.2.length+aS r:=by simp [aS]
  omega
theorem aXu{a:List Lt}{b:Lt}(c:b∈a)(d:500<b.2.length):500<aS (aT a):=by unfold aT;rw [aXt];have:=xQ (bV a) b (aXs c);omega
theorem aJw:∀(d:List (Int×Lt)) (b:List (List Nd)),d.length=b.length->∀a∈b,∃c,(c,a)∈cW d b
 |[],[],_,a,hl=>by simp at hl
 |r::rs,m::ms,h,a,hl=>by
  rcases zp.1 hl with rfl|hl
  ·exact ⟨r.2.1,by simp [cW]⟩
  ·obtain ⟨c,e⟩:=aJw rs ms (by simpa using h) a hl;exact ⟨c,by simp only [cW,List.zipWith_cons_cons];exact List.mem_cons_of_mem _ e⟩
theorem oX.out{c:List Tg}{d f:Nat}{a:List (Int×Lt)}{i:List (List Nd)}(p:oX (c++bL a) d f (eG c.length a) i):(500<aS (aT (cW a i))->jG c d f a [] false 4)/\(aS (aT (cW a i))<=500->jG c d f a (aT (cW a i)) true 0):=by
 obtain ⟨r,k,s,S,g,n,m,t⟩:=p;have q:(λb j=>k b=k j)=eX (c++bL a) d f:=by
  funext b j
  exact propext (g.iff b j)
 rw [q] at n m;have o:wT (c++bL a) d f:=by refine ⟨?_,n⟩;have:=g.cl.done (B:=λb j=>bG (c++bL a) b=bG (c++bL a) j\/(b=d/\j=f)) (qF k) (λb j e=>(g.iff b j).1 e) (λb j e=>(g.iff b j).2 (Cl.base e));exact this.2
 exact ⟨λl=>zr ⟨o,k,i,g.iff,m,zt ⟨l,rfl,rfl,rfl⟩⟩,λl=>zr ⟨o,k,i,g.iff,m,zr ⟨l,rfl,rfl,rfl⟩⟩⟩
