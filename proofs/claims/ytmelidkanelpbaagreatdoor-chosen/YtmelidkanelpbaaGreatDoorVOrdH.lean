import Derived.Test.YtmelidkanelpbaaGreatDoorUPut1H
import Derived.Test.YtmelidkanelpbaaGreatDoorUJnLH
open Array renaming getElem?_eq_some_iff→zx
open List renaming getElem?_eq_some_iff→zy,getElem?_append_left→zv,getElem?_append_right→zu,drop_eq_getElem_cons→zs,foldl_cons→zr,length_append→zp,mem_cons→zo,mem_append→zm,length_replicate→zl,replicate→zk,getElem?_map→zj
open Or renaming inl→zt,inr→zq
open Prod renaming snd→zz,ext→zi
namespace Go.Proofs.YtmelidkanelpbaaGreatDoor
open _root_.Go.Proofs.Tryz renaming prog→zw
open Go.RowKit Go.Shelf Go.WideMaps
set_option maxHeartbeats 4000000
set_option maxRecDepth 100000
variable{w:World}
def jF(c:Int->Int->Prop)(a b:Lt):Prop:=a.1=b.1/\aP (fL c) a.2 b.2
section
variable {V:Int->Int->Prop}
theorem wZ{a:Nd}(d:aL a=true):a.1=⟨#[]⟩:=by
 obtain ⟨f,g⟩:=a;obtain ⟨b⟩:=f;have c:(⟨b⟩ : ByteArray).toList=[]:=by simpa [aL] using d
 rw [ByteArray.toList_eq] at c;have e:b=#[]:=by apply Array.ext';exact c
 rw [e]
theorem bC5(t:mN V){k i l j:Nd}(s:fL V k i)(g:fL V l j):k=l↔i=j:=by
 rcases s with ⟨c,e,u,m⟩|⟨c,rfl⟩
 ·rcases g with ⟨b,d,n,f⟩|⟨b,rfl⟩
  ·have o:=wZ c;have p:=wZ e;have q:=wZ b;have r:=wZ d;have:=t _ _ _ _ m f;constructor
   ·intro a;exact zi (by rw [p,r]) (this.1 (by rw [a]))
   ·intro a;exact zi (by rw [o,q]) (this.2 (by rw [a]))
  ·constructor
   ·intro a;rw [a,b] at c;cases c
   ·intro a;rw [a,b] at e;cases e
 ·rcases g with ⟨b,d,n,f⟩|⟨b,rfl⟩
  ·constructor
   ·intro a;rw [<-a,c] at b;cases b
   ·intro a;rw [<-a,c] at d;cases d
  ·exact Iff.rfl
theorem bC6(j:mN V){f g:List Nd}(i:aP (fL V) f g):∀{c d:List Nd},aP (fL V) c d->(f=c↔g=d):=by
 induction i with
 |nil=>
  intro c d e;cases e with
  |nil=>simp
  |cons _ _=>simp
 |cons a _ ih=>
  intro c d e;cases e with
  |nil=>simp
  |cons b k=>
   rw [List.cons.injEq,List.cons.injEq,bC5 j a b,ih k]
theorem bC7(i:mN V){d f e g:Lt}(b:jF V d f)(c:jF V e g):d=e↔f=g:=by
 have:=bC6 i b.2 c.2;constructor
 ·intro a;exact zi (by rw [<-b.1,<-c.1,a]) (this.1 (by rw [a]))
 ·intro a;exact zi (by rw [b.1,c.1,a]) (this.2 (by rw [a]))
theorem bC8(g:mN V){b c:List Lt}(f:aP (jF V) b c){d e:Lt}(i:jF V d e):fO b d=fO c e:=by
 induction f with
 |nil=>rfl
 |cons a _ ih=>
  simp only [fO,List.any_cons] at ih ⊢;rw [ih];congr 1
  exact decide_eq_decide.2 (bC7 g a i)
theorem bC9(i:mN V){b c:List Lt}(g:aP (jF V) b c):aP (jF V) (bT b) (bT c):=by
 suffices ∀{b c:List Lt},aP (jF V) b c->∀{e f:List Lt},aP (jF V) e f->aP (jF V) (b.foldl eG e) (c.foldl eG f) from this g aP.nil
 intro b c g;induction g with
 |nil=>intro e f d;exact d
 |cons a _ ih=>
  intro e f d;simp only [zr];refine ih ?_;unfold eG;rw [bC8 i d a];split
  ·exact d
  ·exact d.snoc a
theorem bCa(k:mN V){b c:List Lt}(f:aP (jF V) b c):(cW b).1=(cW c).1:=by
 suffices ∀{b c:List Lt},aP (jF V) b c->∀{d e:List Lt×List Int},d.1=e.1->aP V d.2 e.2->(b.foldl dM d).1=(c.foldl dM e).1 from this f rfl aP.nil
 intro b c f;induction f with
 |nil=>intro d e g _;exact g
 |cons a _ ih=>
  intro d e g j;simp only [zr];have i:=aWc k a.2 j;refine ih ?_ i.2;simp only [dM];rw [g,a.1,i.1]
theorem aFl(c:mN V){a b:List Lt}(d:aP (jF V) a b):aV a=aV b:=bCa c (bC9 c d)
end
abbrev cZ(a:List Tg)(b c:Nat):Nat->Nat->Prop:=Cl (aG (a.map zz)) λi j=>bJ a i=bJ a j\/(i=b/\j=c)
section
variable {M:List Tg}{o:Int}{t:List Nd}{a b:Nat}
theorem qB(M:List Tg)(o:Int)(t:List Nd):(M++t.map λc=>(o,c)).map zz=M.map zz++t:=by
 rw [List.map_append,List.map_map];congr 1
 exact List.map_id _
theorem aBs{p:Nat}(c:p<M.length):bJ M p<M.length:=by have:=(aFe M).rt_lt (p:=p) (by rw [mZ];exact c);rwa [mZ] at this
theorem aFm(M:List Tg)(p:Nat):bJ M (bJ M p)=bJ M p:=(aFe M).rt_rt p
theorem bCb{e c:Nat}(d:bJ M e=bJ M c):bJ (M++t.map λg=>(o,g)) e=bJ (M++t.map λg=>(o,g)) c:=by
 by_cases i:e<M.length
 ·by_cases f:c<M.length
  ·rw [aBl i,aBl f,d]
  ·rw [pY (p:=c) (by omega)] at d;have:=aBs i;omega
 ·rw [pY (p:=e) (by omega)] at d;by_cases f:c<M.length
  ·have:=aBs f;omega
  ·rw [pY (p:=c) (by omega)] at d;rw [d]
theorem sF{c:Nat}(g:(aG (M.map zz)).named c):c<M.length/\(aG (M.map zz++t)).named c/\(aG (M.map zz++t)).lab c=(aG (M.map zz)).lab c:=by
 obtain ⟨j,d,i⟩:=nS g;have f:c<(M.map zz).length:=(zy.1 d).1;have e:(M.map zz++t)[c]?=some j:=by rw [zv f,d]
 exact ⟨by simpa using f,(fM e).2 i,by rw [pR e,pR d]⟩
theorem tP{c:Nat}(g:c<M.length)(e:(aG (M.map zz++t)).named c):(aG (M.map zz)).named c:=by obtain ⟨i,d,f⟩:=nS e;rw [zv (by simpa using g)] at d;exact (fM d).2 f
theorem aFn(i:eV (M.map zz)){p d:Nat}(j:(aG (M.map zz)).named p)(g:d∈(aG (M.map zz)).ch p):d<M.length:=by obtain ⟨l,c,_⟩:=nS j;have f:p<(M.map zz).length:=(zy.1 c).1;rw [lW c] at g;have k:=(aE6 _ _ _ (i p _ c) d g).2;have e:aO ((M.map zz).drop p) 1<=((M.map zz).drop p).length:=tF _ _;rw [zs f,(zy.1 c).2] at e;simp [aO] at e;simp at f;omega
theorem aFo(g:eV (M.map zz)){c d:Nat}(j:cZ M a b c d):cZ (M++t.map λf=>(o,f)) a b c d:=by
 unfold cZ;rw [qB];refine Cl.le (R:=Cl (aG (M.map zz++t)) λc d=>bJ (M++t.map λf=>(o,f)) c=bJ (M++t.map λf=>(o,f)) d\/(c=a/\d=b)) ⟨Cl.refl,λ_ _=>Cl.symm,λ_ _ _=>Cl.trans,?_⟩ ?_ j
 ·intro c d u v x i k l m n;obtain ⟨p,q,_⟩:=sF (t:=t) k;obtain ⟨r,s,_⟩:=sF (t:=t) l;exact Cl.down i q s (by rw [tM g (by simpa using p)];exact m) (by rw [tM g (by simpa using r)];exact n)
 ·rintro c d (e|e)
  ·exact Cl.base (zt (bCb e))
  ·exact Cl.base (zq e)
theorem bCc(c:eV (M.map zz)){d:Nat}(e:cE (aG (M.map zz++t)) (cZ (M++t.map λn=>(o,n)) a b) d):cE (aG (M.map zz)) (cZ M a b) d:=by
 induction e with
 |mk i _ ih=>
  refine ⟨_,λk f g p j=>?_⟩;obtain ⟨l,m,_⟩:=sF (t:=t) g;exact ih k (aFo c f) m p (by rw [tM c (by simpa using l)];exact j)
theorem bCd(e:eV (M.map zz))(d:jZ (aG (M.map zz++t)) (cZ (M++t.map λp=>(o,p)) a b)):jZ (aG (M.map zz)) (cZ M a b):=by intro i l c f g;obtain ⟨_,j,k⟩:=sF (t:=t) f;obtain ⟨_,m,n⟩:=sF (t:=t) g;rw [<-k,<-n];exact d i l (aFo e c) j m
end
structure iX(M:List Tg)(a b:Nat)(F:List Nat)(rt d:Nat->Nat)(S:List Int):Prop where
 whole:eV (M.map zz)
 lf:F.length=M.length
 ls:S.length=M.length
 forest:gG F rt d
 named:kS (M.map zz) rt
 cl:eB (aG (M.map zz)) (λi j=>rt i=rt j) λ_ _=>False
 iff:∀i j,rt i=rt j↔cZ M a b i j
 sz:sA (M.map zz) rt S
 none:∀r:Nat,S[r]?≠some (-1)
 ha:a<M.length
 hb:b<M.length
def dB(M a:List Tg)(b:Nat->Nat)(p:Nat):Nat:=if bJ a p<M.length then b (bJ a p) else bJ a p
def dX(M a:List Tg)(b:Nat->Nat)(p:Nat):Nat:=if p<M.length then b p else if bJ a p=p then 0 else if bJ a p<M.length then b (bJ a p)+1 else 1
section
variable {M:List Tg}{o:Int}{t:List Nd}{a b:Nat}{F:List Nat}{rt d:Nat->Nat}{S:List Int}
theorem iX.rt_lt(c:iX M a b F rt d S){p:Nat}(e:p<M.length):rt p<M.length:=by have:=c.forest.rt_lt (p:=p) (by rw [c.lf];exact e);rwa [c.lf] at this
theorem iX.old(e:iX M a b F rt d S){p:Nat}(c:p<M.length):dB M (M++t.map λf=>(o,f)) rt p=rt p:=by unfold dB;rw [aBl c,aH (aBs c)];exact (e.iff _ _).2 (Cl.base (zt (aFm M p)))
theorem iX.new(_h:iX M a b F rt d S){p:Nat}(k:M.length<=p)(j:(aG (M.map zz++t)).named p):dB M (M++t.map λc=>(o,c)) rt p=p:=by
 have f:bJ (M++t.map λc=>(o,c)) p=p:=by obtain ⟨c,e,g⟩:=nS j;rw [<-qB M o t,zj] at e;obtain ⟨l,i,rfl⟩:=Option.map_eq_some_iff.1 e;exact lI i g
 unfold dB;rw [f,aI (by omega)]
theorem iX.up(c:iX M a b F rt d S){f e:Nat}(g:rt f=rt e):dB M (M++t.map λk=>(o,k)) rt f=dB M (M++t.map λk=>(o,k)) rt e:=by
 by_cases m:f<M.length
 ·by_cases j:e<M.length
  ·rw [c.old m,c.old j,g]
  ·have l:=c.forest.out e (by rw [c.lf];omega);have i:=c.rt_lt m;omega
 ·have l:=c.forest.out f (by rw [c.lf];omega);by_cases j:e<M.length
  ·have i:=c.rt_lt j;omega
  ·have i:=c.forest.out e (by rw [c.lf];omega);rw [l,i] at g;rw [g]
theorem iX.in(f:iX M a b F rt d S){g c:Nat}(j:g<M.length)(e:dB M (M++t.map λi=>(o,i)) rt g=dB M (M++t.map λi=>(o,i)) rt c)(l:(aG (M.map zz++t)).named c):c<M.length/\rt g=rt c:=by
 have m:=f.rt_lt j;rw [f.old j] at e;by_cases k:c<M.length
 ·exact ⟨k,by rw [f.old k] at e;exact e⟩
 ·rw [f.new (by omega) l] at e;omega
theorem iX.ends(e:iX M a b F rt d S){p:Nat}(r:cE (aG (M.map zz)) (λc j=>rt c=rt j) p):p<M.length->cE (aG (M.map zz++t)) (λc j=>dB M (M++t.map λn=>(o,n)) rt c=dB M (M++t.map λn=>(o,n)) rt j) p:=by
 induction r with
 |mk c _ ih=>
  intro l;refine ⟨_,λj m g x f=>?_⟩;obtain ⟨k,q⟩:=e.in l m g;have i:=tP k g;rw [tM e.whole (by simpa using k)] at f;exact ih j q i x f (aFn e.whole i f)
theorem iX.exp(f:iX M a b F rt d S){n:List Nat}{j:List Nd}(v:aX (aG (M.map zz)) (λc e=>rt c=rt e) rt n j):(∀c∈n,c<M.length)->aX (aG (M.map zz++t)) (λc e=>dB M (M++t.map λg=>(o,g)) rt c=dB M (M++t.map λg=>(o,g)) rt e) (dB M (M++t.map λg=>(o,g)) rt) n j:=by
 induction v with
 |nil=>intro _;exact aX.nil
 |@var c r j h1 _ ih=>
  intro i;have p:=i c (by simp);rw [<-f.old (t:=t) (o:=o) p];refine aX.var (λe s q=>?_) (ih λm hq=>i m (by simp [hq]));obtain ⟨k,l⟩:=f.in p s q;exact h1 e l (tP k q)
 |@name c e r j h1 h2 _ ih=>
  intro i;obtain ⟨k,l,u⟩:=sF (t:=t) h2;rw [<-u];refine aX.name (f.up h1) l ?_;rw [tM f.whole (by simpa using k)];refine ih λm hq=>?_
  rcases zm.1 hq with hq|hq
  ·exact aFn f.whole h2 hq
  ·exact i m (by simp [hq])
theorem iX.add(f:iX M a b F rt d S)(a1:aQ t 1=true):iX (M++t.map λc=>(o,c)) a b (F++iS M o t t.length) (dB M (M++t.map λc=>(o,c)) rt) (dX M (M++t.map λc=>(o,c)) d) (S++zk t.length 0):=by
 have X:eV (M.map zz++t):=f.whole.append (yT a1);have a0:(iS M o t t.length).length=t.length:=by simp [iS]
 have n:(M++t.map λc=>(o,c)).length=M.length+t.length:=by simp
 have I:∀p,M.length<=p->p<M.length+t.length->(F++iS M o t t.length)[p]?=some (bJ (M++t.map λc=>(o,c)) p):=by intro p m r;have:=vF (M:=M++t.map λc=>(o,c)) (p:=p) (by rw [n];exact r);rw [aMf,zu (by rw [mZ];exact m),mZ] at this;rw [zu (by rw [f.lf];exact m),f.lf];exact this
 have H:∀p,p<M.length->(F++iS M o t t.length)[p]?=F[p]?:=λp i=>zv (by rw [f.lf];exact i)
 have v:(F++iS M o t t.length).length=M.length+t.length:=by rw [zp,a0,f.lf]
 have Z:∀p,p<M.length+t.length->bJ (M++t.map λc=>(o,c)) p<M.length+t.length:=λp i=>by
  have:=aBs (M:=M++t.map λc=>(o,c)) (p:=p) (by rw [n];exact i);rwa [n] at this
 have Q:∀p,cZ (M++t.map λc=>(o,c)) a b p (dB M (M++t.map λc=>(o,c)) rt p):=by
  intro p;have m:cZ (M++t.map λc=>(o,c)) a b p (bJ (M++t.map λc=>(o,c)) p):=Cl.base (zt (aFm _ p).symm);by_cases g:bJ (M++t.map λc=>(o,c)) p<M.length
  ·have r:cZ M a b (bJ (M++t.map λc=>(o,c)) p) (rt (bJ (M++t.map λc=>(o,c)) p)):=(f.iff _ _).1 (f.forest.rt_rt _).symm;have e:dB M (M++t.map λc=>(o,c)) rt p=rt (bJ (M++t.map λc=>(o,c)) p):=aH g;rw [e];exact m.trans (aFo f.whole r)
  ·have e:dB M (M++t.map λc=>(o,c)) rt p=bJ (M++t.map λc=>(o,c)) p:=aI g;rw [e];exact m
 have O:eB (aG (M.map zz++t)) (λk l=>dB M (M++t.map λc=>(o,c)) rt k=dB M (M++t.map λc=>(o,c)) rt l) λ_ _=>False:=by
  intro J L e A C;by_cases x:J<M.length
  ·obtain ⟨u,D⟩:=f.in x e C;obtain ⟨U,V⟩:=f.cl J L D (tP x A) (tP u C);refine ⟨?_,λR p s i g=>?_⟩
   ·rw [(sF (t:=t) (tP x A)).2.2,(sF (t:=t) (tP u C)).2.2];exact U
   ·rw [tM f.whole (by simpa using x)] at i;rw [tM f.whole (by simpa using u)] at g;refine eI.mono (λk l hij=>?_) (V R p s i g);rcases hij with hij|hij
    ·exact eI.base (zt (f.up hij))
    ·exact hij.elim
  ·have u:¬L<M.length:=λu=>x (f.in u e.symm A).1
   have E:=f.new (t:=t) (o:=o) (by omega) A;have G:=f.new (t:=t) (o:=o) (by omega) C;have:J=L:=by rw [<-E,<-G];exact e
   subst this;refine ⟨rfl,λR p s i g=>?_⟩;rw [i] at g;simp at g;subst g;exact eI.refl _
 have Y:=O.done (B:=λk l=>bJ (M++t.map λc=>(o,c)) k=bJ (M++t.map λc=>(o,c)) l\/(k=a/\l=b)) (rV _) (λk l e=>by
   have m:=Q k;have r:=Q l;unfold cZ at m r;rw [qB] at m r;have D:dB M (M++t.map λc=>(o,c)) rt k=dB M (M++t.map λc=>(o,c)) rt l:=e;rw [D] at m;exact m.trans r.symm) (λk l e=>by
   rcases e with e|⟨rfl,rfl⟩
   ·show dB M (M++t.map λc=>(o,c)) rt k=dB M (M++t.map λc=>(o,c)) rt l;unfold dB;rw [e]
   ·show dB M (M++t.map λc=>(o,c)) rt k=dB M (M++t.map λc=>(o,c)) rt l;rw [f.old f.ha,f.old f.hb];exact (f.iff _ _).2 (Cl.base (zq ⟨rfl,rfl⟩)))
 refine ⟨by rw [qB];exact X,by rw [v,n],by rw [zp,zl,f.ls,n],⟨?_,?_,?_,?_⟩,?_,by rw [qB];exact O,?_,?_,?_,by rw [n];have:=f.ha;omega,by rw [n];have:=f.hb;omega⟩
 ·intro p s g;have i:=(zy.1 g).1;rw [v] at i ⊢;by_cases j:p<M.length
  ·rw [H p j] at g;have:=f.forest.lt p s g;rw [f.lf] at this;omega
  ·rw [I p (by omega) i] at g;simp at g;subst g;exact Z p i
 ·intro p g;have i:=(zy.1 g).1;rw [v] at i;by_cases j:p<M.length
  ·rw [H p j] at g;rw [f.old j];exact f.forest.root p g
  ·rw [I p (by omega) i] at g;simp at g;unfold dB;rw [g,aI (by omega)]
 ·intro p s g P;have i:=(zy.1 g).1;rw [v] at i;by_cases j:p<M.length
  ·rw [H p j] at g;have q:=f.forest.lt p s g;rw [f.lf] at q;rw [f.old j,f.old q];unfold dX;rw [aH j,aH q];exact f.forest.step p s g P
  ·rw [I p (by omega) i] at g;simp at g;subst g;have N:=aFm (M++t.map λc=>(o,c)) p;refine ⟨by unfold dB;rw [N],?_⟩;unfold dX;rw [aI j,aI P];by_cases q:bJ (M++t.map λc=>(o,c)) p<M.length
   ·rw [aH q,aH q];omega
   ·rw [aI q,aH N,aI q];omega
 ·intro p i;rw [v] at i;unfold dB;rw [pY (M:=M++t.map λc=>(o,c)) (by rw [n];exact i),aI (by omega)]
 ·rw [qB];intro p i;by_cases j:p<M.length
  ·rw [f.old j];exact (sF (t:=t) (f.named p (tP j i))).2.1
  ·rw [f.new (by omega) i];exact i
 ·intro k l;unfold cZ;rw [qB];exact Y.1 k l
 ·rw [qB];intro p c y;by_cases j:p<S.length
  ·rw [zv j] at y;rw [f.ls] at j;rcases f.sz p c y with e|e|⟨E,a2,G,W⟩
   ·exact zt e
   ·exact zq (zt e)
   ·exact zq (zq ⟨f.ends E j,a2,f.exp G (by simpa using j),W⟩)
  ·rw [zu (by omega)] at y;have:=(zy.1 y).2;simp at this;exact zt this.symm
 ·intro T z;by_cases j:T<S.length
  ·rw [zv j] at z;exact f.none T z
  ·rw [zu (by omega)] at z;have:=(zy.1 z).2;simp at this
end
def aW(rest:List (Int×Lt)):List Tg:=rest.flatMap λr=>r.2.2.map λn=>(r.1,n)
def cS:Nat->List (Int×Lt)->List Nat
 |_,[]=>[]
 |n,r::rs=>n::cS (n+r.2.2.length) rs
def bS(rest:List (Int×Lt))(ls:List (List Nd)):List Lt:=List.zipWith (λb a=>(b.2.1,a)) rest ls
def xA(a:List Tg)(b c:Nat):Prop:=jZ (aG (a.map zz)) (cZ a b c)/\∀d,d<a.length->cE (aG (a.map zz)) (cZ a b c) d
def dU(a:List Tg)(b c:Nat)(rest:List (Int×Lt))(f:List Lt)(i:Bool)(e:Int):Prop:=
 (¬xA (a++aW rest) b c/\f=[]/\i=false/\e=0)\/
 (xA (a++aW rest) b c/\∃(g:Nat->Nat) (ls:List (List Nd)),(∀d j,g d=g j↔cZ (a++aW rest) b c d j)/\aP (λd k=>aX (aG ((a++aW rest).map zz)) (cZ (a++aW rest) b c) g [d] k) (cS a.length rest) ls/\
  ((500<aR (aV (bS rest ls))/\f=[]/\i=false/\e=4)\/(aR (aV (bS rest ls))<=500/\f=aV (bS rest ls)/\i=true/\e=0)))
theorem aN7:∀(n:Nat) (a:List (Int×Lt)),(cS n a).length=a.length
 |_,[]=>rfl
 |n,r::rs=>by simp [cS,aN7 _ rs]
theorem bCe{e:Gr}{f:Nat->Nat->Prop}{k rd:Nat->Nat}{l:List Nat}{c:List Nd}(m:aX e f k l c):∃d,aX e f rd l d/\aP (fL λa b=>∃g,a=(k g:Int)/\b=(rd g:Int)) c d:=by
 induction m with
 |nil=>exact ⟨[],aX.nil,aP.nil⟩
 |@var i r c h1 _ ih=>
  obtain ⟨d,a,b⟩:=ih;exact ⟨_,aX.var h1 a,aP.cons (zt ⟨pP _,pP _,rfl,i,rfl,rfl⟩) b⟩
 |@name i j r c h1 h2 _ ih=>
  obtain ⟨d,a,b⟩:=ih;exact ⟨_,aX.name h1 h2 a,aP.cons (zq ⟨h2,rfl⟩) b⟩
theorem aN8{b:Int->Int->Prop}:∀(e:List (Int×Lt)) {c d:List (List Nd)},aP (λf g=>aP (fL b) f g) c d->aP (jF b) (bS e c) (bS e d)
 |[],_,_,_=>aP.nil
 |_::_,_,_,aP.nil=>aP.nil
 |_::rs,_,_,aP.cons a h=>aP.cons ⟨rfl,a⟩ (aN8 rs h)
theorem aFp{f:List Tg}{o p:Nat}{d:List (Int×Lt)}{C D:List Lt}{e z:Bool}{j A:Int}(u:dU f o p d C e j)(l:dU f o p d D z A):C=D/\e=z/\j=A:=by
 rcases u with ⟨r,rfl,rfl,rfl⟩|⟨r,n,q,B,M,I⟩
 ·rcases l with ⟨_,rfl,rfl,rfl⟩|⟨v,_⟩
  ·exact ⟨rfl,rfl,rfl⟩
  ·exact absurd v r
 ·rcases l with ⟨v,_⟩|⟨_,i,m,y,N,x⟩
  ·exact absurd r v
  ·have J:kK (aG ((f++aW d).map zz)) (cZ (f++aW d) o p):=Cl.isDown _ _;have L:mN λb e=>∃a,b=(n a:Int)/\e=(i a:Int):=by
    rintro b e T z ⟨a,rfl,rfl⟩ ⟨t,rfl,rfl⟩;constructor
    ·intro j;have:i a=i t:=(y _ _).2 ((B a t).1 (by omega));omega
    ·intro j;have:n a=n t:=(B _ _).2 ((y a t).1 (by omega));omega
   have O:aP (λg s=>aP (fL λb e=>∃a,b=(n a:Int)/\e=(i a:Int)) g s) q m:=by
    have S:∀{b:List Nat} {q m:List (List Nd)},aP (λa g=>aX (aG ((f++aW d).map zz)) (cZ (f++aW d) o p) n [a] g) b q->aP (λa g=>aX (aG ((f++aW d).map zz)) (cZ (f++aW d) o p) i [a] g) b m->aP (λg s=>aP (fL λb e=>∃a,b=(n a:Int)/\e=(i a:Int)) g s) q m:=by
     intro b q m u;induction u generalizing m with
     |nil=>intro l;cases l;exact aP.nil
     |cons c _ ih=>
      intro l;cases l with
      |cons c' k=>
       refine aP.cons ?_ (ih k);obtain ⟨s,G,H⟩:=bCe (rd:=i) c;have:=aX.one J r.1 (wI _) (λQ R j=>(y Q R).2 j) G _ c';subst this;exact H
    exact S M N
   have P:=aFl L (aN8 d O);rw [<-P] at x;rcases I with ⟨E,rfl,rfl,rfl⟩|⟨E,rfl,rfl,rfl⟩
   ·rcases x with ⟨_,rfl,rfl,rfl⟩|⟨F,_⟩
    ·exact ⟨rfl,rfl,rfl⟩
    ·omega
   ·rcases x with ⟨F,_⟩|⟨_,rfl,rfl,rfl⟩
    ·omega
    ·exact ⟨rfl,rfl,rfl⟩
section
variable {M:List Tg}{o:Int}{t:List Nd}{a b:Nat}{F:List Nat}{rt d:Nat->Nat}{S:List Int}
theorem iX.endsAll(i:iX M a b F rt d S)(I:aQ t 1=true)(s:∀e,e<M.length->cE (aG (M.map zz)) (λq c=>rt q=rt c) e):∀(l e:Nat),e+l=M.length+t.length->cE (aG (M.map zz++t)) (λq c=>dB M (M++t.map λf=>(o,f)) rt q=dB M (M++t.map λf=>(o,f)) rt c) e:=by
 have C:eV (M.map zz++t):=i.whole.append (yT I);intro l;induction l using Nat.strongRecOn with
 |_ l ih=>
  intro e N;by_cases y:e<M.length
  ·exact i.ends (s e y) y
  ·refine ⟨_,λc D p m k=>?_⟩;have g:dB M (M++t.map λf=>(o,f)) rt e=dB M (M++t.map λf=>(o,f)) rt c:=D;by_cases v:c<M.length
   ·have G:=tP v p;rw [tM i.whole (by simpa using v)] at k;have A:=aFn i.whole G k;exact i.ends (s m A) A
   ·rw [i.new (by omega) p] at g;obtain ⟨O,j,u⟩:=nS p;have E:c=e:=by
     unfold dB at g;split at g
     ·rename_i H;have:=i.rt_lt H;omega
     ·rw [<-qB M o t,zj] at j;obtain ⟨Q,J,rfl⟩:=Option.map_eq_some_iff.1 j;cases hm:(M++t.map λf=>(o,f))[e]? with
      |none=>rw [pY (by simpa using (List.getElem?_eq_none_iff.1 hm))] at g;exact g.symm
      |some z=>
       cases hv:aL z.2 with
       |false=>rw [lI hm hv] at g;exact g.symm
       |true=>
        obtain ⟨_,_,P,n,B,_⟩:=kE hm hv;rw [g,J] at n;simp at n;subst n;rw [B] at u;cases u
    subst E;rw [lW j] at k;have L:=aE6 _ _ _ (C c _ j) m k;have x:c<(M.map zz++t).length:=(zy.1 j).1;have r:aO ((M.map zz++t).drop c) 1<=((M.map zz++t).drop c).length:=tF _ _;rw [zs x,(zy.1 j).2] at r;simp [aO] at r;simp at x;exact ih (M.length+t.length-m) (by omega) m (by omega)
end
theorem aBt(a:Int×Lt)(b:List (Int×Lt)):aW (a::b)=(a.2.2.map λc=>(a.1,c))++aW b:=by simp [aW]
theorem aN9(b:List Tg)(a:Int×Lt)(c:List (Int×Lt)):b++aW (a::c)=(b++a.2.2.map λd=>(a.1,d))++aW c:=by rw [aBt,List.append_assoc]
def qC(c:List Tg)(j k:Nat)(f:List Nat)(n:List (List Nd)):Prop:=
 ∃g b l i,iX c j k g b l i/\(∀a,a<c.length->cE (aG (c.map zz)) (λd e=>b d=b e) a)/\aP (λa m=>aX (aG (c.map zz)) (λd e=>b d=b e) b [a] m) f n/\∀a∈f,a<c.length
section
variable {M:List Tg}{a b:Nat}{ps:List Nat}{ls:List (List Nd)}
theorem qC.more(k:qC M a b ps ls)(o:Int){d:List Nd}(l:aQ d 1=true):∃g,qC (M++d.map λe=>(o,e)) a b (ps++[M.length]) (ls++[g]):=by
 obtain ⟨A,f,B,S,m,t,v,r⟩:=k;have s:=qB M o d;have y:0<d.length:=by
  cases d with
  |nil=>simp [aQ] at l
  |cons=>simp
 have n:∀p,p<M.length+d.length->cE (aG (M.map zz++d)) (λi j=>dB M (M++d.map λe=>(o,e)) f i=dB M (M++d.map λe=>(o,e)) f j) p:=λp hp=>m.endsAll (o:=o) l t (M.length+d.length-p) p (by omega)
 obtain ⟨g,u⟩:=(n M.length (by omega)).exp (rep:=dB M (M++d.map λe=>(o,e)) f);refine ⟨g,_,_,_,_,m.add (o:=o) l,λp hp=>by rw [s];exact n p (by simpa using hp),?_,λp hp=>?_⟩
 ·rw [s];have z:∀{ps:List Nat} {ls:List (List Nd)},aP (λp g=>aX (aG (M.map zz)) (λi j=>f i=f j) f [p] g) ps ls->(∀p∈ps,p<M.length)->aP (λp g=>aX (aG (M.map zz++d)) (λi j=>dB M (M++d.map λe=>(o,e)) f i=dB M (M++d.map λe=>(o,e)) f j) (dB M (M++d.map λe=>(o,e)) f) [p] g) ps ls:=by
   intro ps ls k;induction k with
   |nil=>intro _;exact aP.nil
   |cons c _ ih=>
    intro hp;exact aP.cons (m.exp (o:=o) c (λi q=>by simp at q;subst q;exact hp _ (by simp))) (ih λp x=>hp p (by simp [x]))
  exact (z v r).snoc u
 ·rcases zm.1 hp with hp|hp
  ·have:=r p hp;simp;omega
  ·simp at hp;subst hp;simp;exact y
theorem qC.all:∀(e:List (Int×Lt)) {M:List Tg} {ps:List Nat} {ls:List (List Nd)},qC M a b ps ls->(∀c∈e,aQ c.2.2 1=true)->∃d,qC (M++aW e) a b (ps++cS M.length e) (ls++d):=by
 intro e;induction e with
 |nil=>
  intro M ps ls f _;exact ⟨[],by simpa [aW,cS] using f⟩
 |cons c rs ih=>
  intro M ps ls f i;obtain ⟨g,l⟩:=f.more c.1 (i c (by simp));obtain ⟨d,m⟩:=ih l (λp n=>i p (by simp [n]));refine ⟨g::d,?_⟩;rw [aN9];have j:ps++cS M.length (c::rs)=ps++[M.length]++cS (M++c.2.2.map λo=>(c.1,o)).length rs:=by simp [cS]
  have k:ls++g::d=ls++[g]++d:=by simp
  rw [j,k];exact m
end
theorem bCf:∀(g:List (Int×Lt)) {a:List Tg} {b c:Nat},(∀e∈g,aQ e.2.2 1=true)->eV (a.map zz)->xA (a++aW g) b c->jZ (aG (a.map zz)) (cZ a b c)/\∀f,f<a.length->cE (aG (a.map zz)) (cZ a b c) f:=by
 intro g;induction g with
 |nil=>
  intro a b c _ _ d;simp only [aW,List.flatMap_nil,List.append_nil] at d;exact d
 |cons e rs ih=>
  intro a b c m i d;rw [aN9] at d;have l:=qB a e.1 e.2.2;obtain ⟨j,k⟩:=ih (λo n=>m o (by simp [n])) (by rw [l];exact i.append (yT (m e (by simp)))) d;rw [l] at j k;exact ⟨bCd i j,λf p=>bCc i (k f (by simp;omega))⟩
theorem aBu{b:List Lt}{a:Lt}(h:a∈b):a∈bT b:=by
 suffices ∀(b:List Lt) (c:List Lt) (a:Lt),a∈c\/a∈b->a∈b.foldl eG c from this b [] a (zq h)
 intro b;induction b with
 |nil=>intro c a h;simpa using h
 |cons y r ih=>
  intro c a h;simp only [zr];refine ih _ _ ?_;have f:∀e,e∈c\/e=y->e∈eG c y:=by
   intro e d;unfold eG;split
   ·rename_i g;rcases d with d|rfl
    ·exact d
    ·exact (vN _ _).1 g
   ·simpa using d
  rcases h with h|h
  ·exact zt (f a (zt h))
  ·rcases zo.1 h with rfl|h
   ·exact zt (f a (zq rfl))
   ·exact zq h
theorem bCg(a:List Lt):aR (cW a).1=aR a:=by
 suffices ∀(a:List Lt) (b:List Lt×List Int),aR (a.foldl dM b).1=aR b.1+aR a by
  have:=this a ([],[]);simpa [cW,aR] using this
 intro a;induction a with
 |nil=>intro b;simp [aR]
 |cons x r ih=>
  intro b;simp only [zr];rw [ih];have c:(dY x.2 b.2).1.length=x.2.length:=(xU x.2 b.2).1;simp only [dM,rH,c];have d:aR (x::r)=x.2.length+aR r:=by simp [aR]
  omega
theorem bCh{a:List Lt}{b:Lt}(c:b∈a)(d:500<b.2.length):500<aR (aV a):=by unfold aV;rw [bCg];have:=vO (bT a) b (aBu c);omega
theorem aNa:∀(d:List (Int×Lt)) (b:List (List Nd)),d.length=b.length->∀a∈b,∃c,(c,a)∈bS d b
 |[],[],_,a,hl=>by simp at hl
 |r::rs,m::ms,h,a,hl=>by
  rcases zo.1 hl with rfl|hl
  ·exact ⟨r.2.1,by simp [bS]⟩
  ·obtain ⟨c,e⟩:=aNa rs ms (by simpa using h) a hl;exact ⟨c,by simp only [bS,List.zipWith_cons_cons];exact List.mem_cons_of_mem _ e⟩
theorem qC.out{b:List Tg}{c d:Nat}{rest:List (Int×Lt)}{ls:List (List Nd)}(n:qC (b++aW rest) c d (cS b.length rest) ls):(500<aR (aV (bS rest ls))->dU b c d rest [] false 4)/\(aR (aV (bS rest ls))<=500->dU b c d rest (aV (bS rest ls)) true 0):=by
 obtain ⟨p,g,q,S,f,l,k,r⟩:=n;have o:(λa j=>g a=g j)=cZ (b++aW rest) c d:=by
  funext a j
  exact propext (f.iff a j)
 rw [o] at l k;have m:xA (b++aW rest) c d:=by refine ⟨?_,l⟩;have:=f.cl.done (B:=λa j=>bJ (b++aW rest) a=bJ (b++aW rest) j\/(a=c/\j=d)) (rV g) (λa j e=>(f.iff a j).1 e) (λa j e=>(f.iff a j).2 (Cl.base e));exact this.2
 exact ⟨λi=>zq ⟨m,g,ls,f.iff,k,zt ⟨i,rfl,rfl,rfl⟩⟩,λi=>zq ⟨m,g,ls,f.iff,k,zq ⟨i,rfl,rfl,rfl⟩⟩⟩
theorem bCi{a:Nat}(b:w.heap[a]?=some (.map #[] 0)):w.ownsMap zw 185 fS a 0 (.map []):=by
 have e:=(zx.1 b).1;have c:(World.alloc {w with heap:=w.heap.extract 0 a} (.map #[] 0)).ownsMap zw 185 fS ({w with heap:=w.heap.extract 0 a}:World).heap.size 0 (.map []):=World.ownsMap_made _ _ _ _;have d:({w with heap:=w.heap.extract 0 a}:World).heap.size=a:=by simp;omega
 rw [d] at c;refine aFb c ?_;rw [b];have:=heap_alloc_new ({w with heap:=w.heap.extract 0 a}:World) (.map #[] 0);rw [d] at this;exact this.symm
theorem aBv{e:World}{d a b g:Nat}{c:Array Value}{f:TypeId}(j:d<=a)(i:e.heap[a]?=some (.cells c f))(k:c.size=b*g)(l:b<=1000000):e.ownsRow d f g (.slice (some ⟨a,0,none⟩) 0 b) 0 []:=
 ⟨by simp,zq ⟨a,b,c,rfl,j,i,Nat.zero_le _,by unfold maxLen;omega,k,by simp⟩⟩
structure aFq(w:World)(tb mp:Nat)(vn ve vl vs:Value)(w':World):Prop where
 tm:cK w' w.heap.size tb vn ve vl vs (.map (some mp)) [] [] [] []
 first:gI w' mp []
 low:aB w w'
 ne:mp≠tb
 mlow:w.heap.size<=mp
theorem bCj{b:World}{a j c d e f tb:Nat}{l g:Array Value}(i:a<=1000000)(A:l.size=a*2)(k:g.size=a*1)(y:aB w b)(t:b.heap[j]?=some (.cells l 117))(u:b.heap[c]?=some (.cells g 3))(v:b.heap[d]?=some (.cells g 3))(x:b.heap[e]?=some (.cells g 3))(z:b.heap[f]?=some (.map #[] 0))
  (B:b.heap[tb]?=some (.cells #[.slice (some ⟨j,0,none⟩) 0 a,.slice (some ⟨c,0,none⟩) 0 a,.slice (some ⟨d,0,none⟩) 0 a,.slice (some ⟨e,0,none⟩) 0 a,.map (some f)] 165))
  (C:w.heap.size<=j/\w.heap.size<=c/\w.heap.size<=d/\w.heap.size<=e/\w.heap.size<=f/\w.heap.size<=tb) (D:c≠d/\c≠e/\d≠e/\f≠tb):aFq w tb f (.slice (some ⟨j,0,none⟩) 0 a) (.slice (some ⟨c,0,none⟩) 0 a) (.slice (some ⟨d,0,none⟩) 0 a) (.slice (some ⟨e,0,none⟩) 0 a) b:=by
 obtain ⟨m,n,o,p,q,r⟩:=C;obtain ⟨E,F,G,s⟩:=D;refine ⟨⟨B,r,aBv m t A i,aBv n u k i,aBv o v k i,aBv p x k i,?_,?_,?_,?_,?_,?_⟩,⟨0,.map [],bCi z,nZ.start,Nat.le_refl _⟩,y,s,q⟩;all_goals simp [Value.ownBlock]
 all_goals assumption
abbrev Ob:=Option Nat
def vS(a:Nat):Ob->Value
 |some k=>.slice (some ⟨k,0,none⟩) 0 a
 |none=>undef
def vM:Ob->Value
 |some k=>.map (some k)
 |none=>undef
def aNb(a b c d e:Ob):Array Bool:=#[true,a.isSome,true,b.isSome,true,c.isSome,true,d.isSome,e.isSome,false,false,false]
def pC(a:Nat)(b c d e f:Ob):Act:={tmps:=#[.int .i64 a,undef,.pointer none,.int .i64 a,vS a b,.int .i64 a,vS a c,.int .i64 a,vS a d,.int .i64 a,vS a e,vM f,undef,undef],defers:=[]}
def sG(a b c d e:Bool):List Nat:=(if a then [] else [1])++(if b then [] else [3])++(if c then [] else [5])++(if d then [] else [7])++(if e then [] else [8])
def rA(a b c d e:Ob):List Nat:=sG a.isSome b.isSome c.isSome d.isSome e.isSome
structure fY(w:World)(c1 c2:Array Value)(o1 o2 o3 o4 o5:Ob)(W:World):Prop where
 low:aB w W
 h1:∀k,o1=some k->w.heap.size<=k/\W.heap[k]?=some (.cells c1 117)
 h2:∀k,o2=some k->w.heap.size<=k/\W.heap[k]?=some (.cells c2 3)
 h3:∀k,o3=some k->w.heap.size<=k/\W.heap[k]?=some (.cells c2 3)
 h4:∀k,o4=some k->w.heap.size<=k/\W.heap[k]?=some (.cells c2 3)
 h5:∀k,o5=some k->w.heap.size<=k/\W.heap[k]?=some (.map #[] 0)
 n23:∀k,o2=some k->o3≠some k
 n24:∀k,o2=some k->o4≠some k
 n34:∀k,o3=some k->o4≠some k
section
variable {w W:World}{c1 c2:Array Value}{o1 o2 o3 o4 o5:Ob}
theorem fY.start(b:aB w W):fY w c1 c2 none none none none none W:=⟨b,(λ_ a=>nomatch a),(λ_ a=>nomatch a),(λ_ a=>nomatch a),(λ_ a=>nomatch a),(λ_ a=>nomatch a),(λ_ a=>nomatch a),(λ_ a=>nomatch a),(λ_ a=>nomatch a)⟩
theorem fY.lt(b:fY w c1 c2 o1 o2 o3 o4 o5 W):(o1≠some W.heap.size/\o2≠some W.heap.size)/\o3≠some W.heap.size/\o4≠some W.heap.size/\o5≠some W.heap.size:=by
 refine ⟨⟨λa=>?_,λa=>?_⟩,λa=>?_,λa=>?_,λa=>?_⟩
 ·have:=(zx.1 (b.h1 _ a).2).1;omega
 ·have:=(zx.1 (b.h2 _ a).2).1;omega
 ·have:=(zx.1 (b.h3 _ a).2).1;omega
 ·have:=(zx.1 (b.h4 _ a).2).1;omega
 ·have:=(zx.1 (b.h5 _ a).2).1;omega
theorem zD{c d:Obj}{b:Nat}(a:W.heap[b]?=some c):(W.alloc d).heap[b]?=some c:=by rw [heap_alloc_old W d (zx.1 a).1,a]
theorem fY.alloc(a:fY w c1 c2 o1 o2 o3 o4 o5 W)(x:Obj):fY w c1 c2 o1 o2 o3 o4 o5 (W.alloc x):=
 ⟨a.low.alloc a.low.size x,λk b=>⟨(a.h1 k b).1,zD (a.h1 k b).2⟩,λk b=>⟨(a.h2 k b).1,zD (a.h2 k b).2⟩,λk b=>⟨(a.h3 k b).1,zD (a.h3 k b).2⟩,λk b=>⟨(a.h4 k b).1,zD (a.h4 k b).2⟩,λk b=>⟨(a.h5 k b).1,zD (a.h5 k b).2⟩,a.n23,a.n24,a.n34⟩
theorem fY.s1(c:fY w c1 c2 o1 o2 o3 o4 o5 W):fY w c1 c2 (some W.heap.size) o2 o3 o4 o5 (W.alloc (.cells c1 117)):=by have a:=c.alloc (.cells c1 117);exact ⟨a.low,λd b=>by simp at b;subst b;exact ⟨c.low.size,heap_alloc_new _ _⟩,a.h2,a.h3,a.h4,a.h5,a.n23,a.n24,a.n34⟩
theorem fY.s2(c:fY w c1 c2 o1 o2 o3 o4 o5 W):fY w c1 c2 o1 (some W.heap.size) o3 o4 o5 (W.alloc (.cells c2 3)):=by have b:=c.alloc (.cells c2 3);exact ⟨b.low,b.h1,λd a=>by simp at a;subst a;exact ⟨c.low.size,heap_alloc_new _ _⟩,b.h3,b.h4,b.h5,λd a=>by simp at a;subst a;exact c.lt.2.1,λd a=>by simp at a;subst a;exact c.lt.2.2.1,b.n34⟩
theorem fY.s3(c:fY w c1 c2 o1 o2 o3 o4 o5 W):fY w c1 c2 o1 o2 (some W.heap.size) o4 o5 (W.alloc (.cells c2 3)):=by have b:=c.alloc (.cells c2 3);exact ⟨b.low,b.h1,b.h2,λe a=>by simp at a;subst a;exact ⟨c.low.size,heap_alloc_new _ _⟩,b.h4,b.h5,λe a d=>by simp at d;subst d;exact c.lt.1.2 a,b.n24,λe a=>by simp at a;subst a;exact c.lt.2.2.1⟩
theorem fY.s4(d:fY w c1 c2 o1 o2 o3 o4 o5 W):fY w c1 c2 o1 o2 o3 (some W.heap.size) o5 (W.alloc (.cells c2 3)):=by have b:=d.alloc (.cells c2 3);exact ⟨b.low,b.h1,b.h2,b.h3,λe a=>by simp at a;subst a;exact ⟨d.low.size,heap_alloc_new _ _⟩,b.h5,b.n23,λe a c=>by simp at c;subst c;exact d.lt.1.2 a,λe a c=>by simp at c;subst c;exact d.lt.2.1 a⟩
theorem fY.s5(c:fY w c1 c2 o1 o2 o3 o4 o5 W):fY w c1 c2 o1 o2 o3 o4 (some W.heap.size) (W.alloc (.map #[] 0)):=by have a:=c.alloc (.map #[] 0);exact ⟨a.low,a.h1,a.h2,a.h3,a.h4,λd b=>by simp at b;subst b;exact ⟨c.low.size,heap_alloc_new _ _⟩,a.n23,a.n24,a.n34⟩
end
def vG(a b c d e:Ob):Nat:=(rA a b c d e).length
theorem bCk{n:Nat}{c1 c2:Array Value}{g:Array Oper}{D:Exit->Act->World->Prop}{m o p q r:Oper}
  (U:g[1]?=some m) (V:g[3]?=some o) (W:g[5]?=some p) (X:g[7]?=some q) (Y:g[8]?=some r)
  (Z:m.guard=none/\o.guard=none/\p.guard=none/\q.guard=none/\r.guard=none) (N:m.dst=some 4/\o.dst=some 6/\p.dst=some 8/\q.dst=some 10/\r.dst=some 11)
  (H:∀(b c d e f:Ob) (a:World),(execOp (pC n b c d e f).eval m).run zw a=.ok (.value (.slice (some ⟨a.heap.size,0,none⟩) 0 n)) (a.alloc (.cells c1 117)))
  (I:∀(b c d e f:Ob) (a:World),(execOp (pC n b c d e f).eval o).run zw a=.ok (.value (.slice (some ⟨a.heap.size,0,none⟩) 0 n)) (a.alloc (.cells c2 3)))
  (J:∀(b c d e f:Ob) (a:World),(execOp (pC n b c d e f).eval p).run zw a=.ok (.value (.slice (some ⟨a.heap.size,0,none⟩) 0 n)) (a.alloc (.cells c2 3)))
  (L:∀(b c d e f:Ob) (a:World),(execOp (pC n b c d e f).eval q).run zw a=.ok (.value (.slice (some ⟨a.heap.size,0,none⟩) 0 n)) (a.alloc (.cells c2 3)))
  (M:∀(b c d e f:Ob) (a:World),(execOp (pC n b c d e f).eval r).run zw a=.ok (.value (.map (some a.heap.size))) (a.alloc (.map #[] 0)))
  (G:∀(s t u v x:Bool),(s && t && u && v && x)=false->Region.ready .any g #[true,s,true,t,true,u,true,v,x,false,false,false]=sG s t u v x)
  (E:∀(y z A B C:Nat) (a:World),fY w c1 c2 (some y) (some z) (some A) (some B) (some C) a->wpAny zw .any g D 3 (aNb (some y) (some z) (some A) (some B) (some C)) (pC n (some y) (some z) (some A) (some B) (some C)) a):∀(j:Nat) (b c d e f:Ob) (a:World),vG b c d e f=j->fY w c1 c2 b c d e f a->wpAny zw .any g D (j+3) (aNb b c d e f) (pC n b c d e f) a:=by
 obtain ⟨a0,a1,a2,a3,a4⟩:=Z;obtain ⟨O,P,Q,R,S⟩:=N;intro j;induction j with
 |zero=>
  intro b c d e f a k i;have a5:=List.eq_nil_of_length_eq_zero k;cases b<;>cases c<;>cases d<;>cases e<;>cases f<;>first|(simp [rA,sG] at a5;done)|exact E _ _ _ _ _ _ i
 |succ j ih=>
  intro b c d e f a k i;have F:rA b c d e f≠[]:=λT=>by unfold vG at k;rw [T] at k;simp at k
  rw [show j+1+3=(j+3)+1 by omega];refine wpAny_all (rs:=rA b c d e f) (G _ _ _ _ _ (by cases b<;>cases c<;>cases d<;>cases e<;>cases f<;>first|rfl|exact absurd rfl F)) F λl a6=>?_
  have a7:(l=1/\b=none)\/(l=3/\c=none)\/(l=5/\d=none)\/(l=7/\e=none)\/(l=8/\f=none):=by clear G E ih H I J L M;cases b<;>cases c<;>cases d<;>cases e<;>cases f<;>simp [rA,sG] at a6 ⊢<;>omega
  rcases a7 with ⟨rfl,rfl⟩|⟨rfl,rfl⟩|⟨rfl,rfl⟩|⟨rfl,rfl⟩|⟨rfl,rfl⟩
  ·refine wF U a0 (H _ _ _ _ _ a) ?_;rw [O];exact ih (some a.heap.size) c d e f _ (by unfold vG rA sG at *;simp at *;omega) i.s1
  ·refine wF V a1 (I _ _ _ _ _ a) ?_;rw [P];exact ih b (some a.heap.size) d e f _ (by unfold vG rA sG at *;simp at *;omega) i.s2
  ·refine wF W a2 (J _ _ _ _ _ a) ?_;rw [Q];exact ih b c (some a.heap.size) e f _ (by unfold vG rA sG at *;simp at *;omega) i.s3
  ·refine wF X a3 (L _ _ _ _ _ a) ?_;rw [R];exact ih b c d (some a.heap.size) f _ (by unfold vG rA sG at *;simp at *;omega) i.s4
  ·refine wF Y a4 (M _ _ _ _ _ a) ?_;rw [S];exact ih b c d e (some a.heap.size) _ (by unfold vG rA sG at *;simp at *;omega) i.s5
theorem aNc(a:Nat)(V:a<=1000000)(w:World):Calls zw 103 #[.int .i64 a] w λe a2=>∃H X a0 Y Z a1,e=.returned (.pointer (some ⟨H,0,none⟩))/\aFq w H X a0 Y Z a1 a2:=by
 obtain ⟨G,z,A,B,C⟩:=info_parts sQ;obtain ⟨F,b,u,x,y⟩:=info_parts tW;have U:=@run_makeMap zw;obtain ⟨m,D,T⟩ : ∃m:Array Value,m.size=a*2/\∀w:World,(Instr.makeSlice 84 (.int .i64 0) (.int .i64 a)).run zw w=.ok (.slice (some ⟨w.heap.size,0,none⟩) 0 a) (w.alloc (.cells m 117)):=
  ⟨madeCells (Value.agg #[.string ⟨#[]⟩,.int .i64 0]).cells (a*G.size),by rw [size_madeCells,B],λw=>by
   have:=run_make (P:=zw) w 84 117 G _ Tryz.underlying84 z A .i64 .i64 0 a (Int.le_refl _) (by omega) (by rw [C];omega) (by omega);simpa using this⟩
 obtain ⟨n,E,t⟩ : ∃n:Array Value,n.size=a*1/\∀w:World,(Instr.makeSlice 28 (.int .i64 0) (.int .i64 a)).run zw w=.ok (.slice (some ⟨w.heap.size,0,none⟩) 0 a) (w.alloc (.cells n 3)):=
  ⟨madeCells (Value.int .i64 0).cells (a*F.size),by rw [size_madeCells,x],λw=>by
   have:=run_make (P:=zw) w 28 3 F _ Tryz.underlying28 b u .i64 .i64 0 a (Int.le_refl _) (by omega) (by rw [y];omega) (by omega);simpa using this⟩
 have I:=aA D;have J:=aA E;clear z A B C b u x y D E;go_enter Tryz.func103,Tryz.ntmps103;go_upto_region 1 with (fail);refine wp_region_any (by kernel_rfl) ?_;refine wpAny_take (i:=0) (v:=.int .i64 a) rfl (by kernel_rfl) (by kernel_rfl) (by kernel_rfl) (λ_ _ _ c=>c) (zt ⟨by rfl,λw=>rfl⟩) ?_;refine wpAny_take (i:=2) (v:=.int .i64 a) rfl (by kernel_rfl) (by kernel_rfl) (by kernel_rfl) (λ_ _ _ c=>c) (zt ⟨by rfl,λw=>rfl⟩) ?_;refine wpAny_take (i:=4) (v:=.int .i64 a) rfl (by kernel_rfl) (by kernel_rfl) (by kernel_rfl) (λ_ _ _ c=>c) (zt ⟨by rfl,λw=>rfl⟩) ?_;refine wpAny_take (i:=6) (v:=.int .i64 a) rfl (by kernel_rfl) (by kernel_rfl) (by kernel_rfl) (λ_ _ _ c=>c) (zt ⟨by rfl,λw=>rfl⟩) ?_;refine bCk (w:=w) (c1:=m) (c2:=n) (n:=a) rfl rfl rfl rfl rfl ⟨rfl,rfl,rfl,rfl,rfl⟩ ⟨rfl,rfl,rfl,rfl,rfl⟩ ?_ ?_ ?_ ?_ ?_ ?_ ?_ 5 none none none none none _ rfl ?_
 ·intro o p q r s d;simp [execOp,pC,Act.eval,T]
 ·intro o p q r s d;simp [execOp,pC,Act.eval,t]
 ·intro o p q r s d;simp [execOp,pC,Act.eval,t]
 ·intro o p q r s d;simp [execOp,pC,Act.eval,t]
 ·intro o p q r s d;simp [execOp,pC,U]
 ·intro M N O Q R c;cases M<;>cases N<;>cases O<;>cases Q<;>cases R<;>first|(cases c;done)|kernel_rfl
 ·intro j f i k l d b;change wpAny zw .any _ _ 3 #[true,true,true,true,true,true,true,true,true,false,false,false] {tmps:=#[.int .i64 a,undef,.pointer none,.int .i64 a,.slice (some ⟨j,0,none⟩) 0 a,.int .i64 a,.slice (some ⟨f,0,none⟩) 0 a,.int .i64 a,.slice (some ⟨i,0,none⟩) 0 a,.int .i64 a,.slice (some ⟨k,0,none⟩) 0 a,.map (some l),undef,undef],defers:=[]} d;refine wpAny_take (i:=9) (v:=.agg #[.slice (some ⟨j,0,none⟩) 0 a,.slice (some ⟨f,0,none⟩) 0 a,.slice (some ⟨i,0,none⟩) 0 a,.slice (some ⟨k,0,none⟩) 0 a,.map (some l)]) rfl (by kernel_rfl) (by kernel_rfl) (by kernel_rfl) (λ_ _ _ c=>c) (zt ⟨by rfl,λw=>by go_simp⟩) ?_;refine wpAny_all (rs:=[10]) (by kernel_rfl) (by simp) λW S=>?_
  obtain rfl:W=10:=by simpa using S
  refine wF (v:=.pointer (some ⟨d.heap.size,0,none⟩)) (w':=d.alloc (.cells #[.slice (some ⟨j,0,none⟩) 0 a,.slice (some ⟨f,0,none⟩) 0 a,.slice (some ⟨i,0,none⟩) 0 a,.slice (some ⟨k,0,none⟩) 0 a,.map (some l)] 165)) rfl rfl (by rfl) ?_;refine wpAny_take (i:=11) (v:=.pointer (some ⟨d.heap.size,0,none⟩)) rfl (by kernel_rfl) (by kernel_rfl) (by kernel_rfl) (λ_ _ _ c=>c) (zt ⟨by rfl,λw=>by rfl⟩) ?_;refine wpAny_done (by kernel_rfl) ?_ _;have g:=b.alloc (.cells #[.slice (some ⟨j,0,none⟩) 0 a,.slice (some ⟨f,0,none⟩) 0 a,.slice (some ⟨i,0,none⟩) 0 a,.slice (some ⟨k,0,none⟩) 0 a,.map (some l)] 165);have L:=aA (bCj (tb:=d.heap.size) V I.o J.o g.low (g.h1 j rfl).2 (g.h2 f rfl).2 (g.h3 i rfl).2 (g.h4 k rfl).2 (g.h5 l rfl).2 (heap_alloc_new _ _) ⟨(b.h1 j rfl).1,(b.h2 f rfl).1,(b.h3 i rfl).1,(b.h4 k rfl).1,(b.h5 l rfl).1,b.low.size⟩ ⟨λe=>b.n23 f rfl (by rw [e]),λe=>b.n24 f rfl (by rw [e]),λe=>b.n34 i rfl (by rw [e]),λe=>b.lt.2.2.2 (by rw [e])⟩);clear b g;go_wp2;go_ret;exact ⟨_,_,_,_,_,_,rfl,L.o⟩
 ·exact fY.start (aU ⟨1,rfl⟩)
structure lK(B tb mp:Nat)(M:List Tg)(w:World):Prop where
 tm:∃vn ve vl vs,cK w B tb vn ve vl vs (.map (some mp)) (M.map zz) (eO (M.map zz)) (sC M) (zk M.length 0)
 first:gI w mp M
 whole:eV (M.map zz)
 big:B<=w.heap.size
 ne:mp≠tb
 mlow:B<=mp
theorem lK.new{i:World}{c b:Nat}{f d e g:Value}(a:aFq w c b f d e g i):lK w.heap.size c b [] i:=
 ⟨⟨f,d,e,g,a.tm⟩,a.first,λk l j=>by simp at j,a.low.size,a.ne,a.mlow⟩
theorem aBw{e i j:Nat}{a:List Tg}(b:lK e i j a w)(d:Int)(f:Option Addr)(l:Nat)(c:List Nd)(v:dW w f c)(p:aQ c 1=true)(u:∀q,f=some q->q.block<e)(t:a.length+c.length<=1000000)(x : -1000<=d/\d<=1000):Calls zw 105 #[.pointer (some ⟨i,0,none⟩),.int .i64 d,.slice f c.length l] w λm k=>m=.returned (.int .i64 a.length)/\lK e i j (a++aN d c) k/\Below e w k:=by
 obtain ⟨D,z,B,F,y⟩:=b.tm;have g:(a.map zz).length=a.length:=by simp
 refine (aM5 e i j D z B F (a.map zz) (sC a) (zk a.length 0) a d f l c w y rfl b.whole b.first (by rw [mZ,g]) (by rw [zl,g]) b.big b.ne b.mlow p v u (by rw [g];exact t) x).mono ?_;rintro m k ⟨E,A,C,G,rfl,r,s,n,_⟩;have o:(a++aN d c).map zz=a.map zz++c:=by rw [List.map_append,aBm]
 refine ⟨by rw [g],⟨⟨E,A,C,G,?_⟩,s,by rw [o];exact b.whole.append (yT p),Nat.le_trans b.big n.low.size,b.ne,b.mlow⟩,n.low⟩;rw [o,aMf,zp,List.replicate_append_replicate.symm];simpa using r
theorem bCl{c:List Nd}(n:eV c){l:Nat->Nat->Prop}{j:Nat->Nat}{k:List Nat}{f:List Nd}(m:aX (aG c) l j k f)(g:∀b∈k,b<c.length):∀a∈f,(aL a=true/\∃b,b<c.length/\a=(⟨#[]⟩,(j b:Int)))\/(aL a=false/\a∈c):=by
 induction m with
 |nil=>intro a hn;simp at hn
 |@var b r f h1 _ ih=>
  intro a hn;rcases zo.1 hn with rfl|hn
  ·exact zt ⟨pP _,b,g b (by simp),rfl⟩
  ·exact ih (λe o=>g e (by simp [o])) a hn
 |@name b e r f h1 h2 _ ih=>
  intro a hn;obtain ⟨u,d,s⟩:=nS h2;have q:=(zy.1 d).1;rcases zo.1 hn with rfl|hn
  ·right;rw [pR d];exact ⟨s,List.mem_of_getElem? d⟩
  ·refine ih (λp hp=>?_) a hn;rcases zm.1 hp with hp|hp
   ·rw [lW d] at hp;have t:=(aE6 _ _ _ (n e _ d) p hp).2;have i:aO (c.drop e) 1<=(c.drop e).length:=tF _ _;rw [zs q,(zy.1 d).2] at i;simp [aO] at i;omega
   ·exact g p (by simp [hp])
theorem zE{d:Option Addr}{a:List Nd}(e:dW w d a)(j:aQ a 1=true):∀c,d=some c->c.block<w.heap.size:=by
 intro c i;have f:0<a.length:=by
  cases a with
  |nil=>simp [aQ] at j
  |cons=>simp
 obtain ⟨k,l,b,g,_⟩:=e.cell 0 f;rw [i] at b;simp at b;rw [b];exact World.block_lt_of_cell? w _ g
