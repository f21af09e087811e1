import Derived.Test.YthjhkgohninpcaaGreatDoorUPut1M
import Derived.Test.YthjhkgohninpcaaGreatDoorUJnLM
open Array renaming getElem?_eq_some_iff→zx
open List renaming getElem?_eq_some_iff→zy,getElem?_append_left→zv,getElem?_append_right→zu,drop_eq_getElem_cons→zs,foldl_cons→zr,length_append→zp,mem_cons→zo,mem_append→zm,length_replicate→zl,replicate→zk,getElem?_map→zj
open Or renaming inl→zt,inr→zq
open Prod renaming snd→zz,ext→zi
namespace Go.Proofs.YthjhkgohninpcaaGreatDoor
open _root_.Go.Proofs.Tryz renaming prog→zw
open Go.RowKit Go.Shelf Go.WideMaps
set_option maxHeartbeats 4000000
set_option maxRecDepth 100000
variable{w:World}
def kO(c:Int->Int->Prop)(a b:Lt):Prop:=a.1=b.1/\aO (gZ c) a.2 b.2
section
variable {V:Int->Int->Prop}
theorem zJ{a:Nd}(d:aM a=true):a.1=⟨#[]⟩:=by
 obtain ⟨f,g⟩:=a;obtain ⟨b⟩:=f;have c:(⟨b⟩ : ByteArray).toList=[]:=by simpa [aM] using d
 rw [ByteArray.toList_eq] at c;have e:b=#[]:=by apply Array.ext';exact c
 rw [e]
theorem aYl(t:lX V){k i l j:Nd}(s:gZ V k i)(g:gZ V l j):k=l↔i=j:=by
 rcases s with ⟨c,e,u,m⟩|⟨c,rfl⟩
 ·rcases g with ⟨b,d,n,f⟩|⟨b,rfl⟩
  ·have o:=zJ c;have p:=zJ e;have q:=zJ b;have r:=zJ d;have:=t _ _ _ _ m f;constructor
   ·intro a;exact zi (by rw [p,r]) (this.1 (by rw [a]))
   ·intro a;exact zi (by rw [o,q]) (this.2 (by rw [a]))
  ·constructor
   ·intro a;rw [a,b] at c;cases c
   ·intro a;rw [a,b] at e;cases e
 ·rcases g with ⟨b,d,n,f⟩|⟨b,rfl⟩
  ·constructor
   ·intro a;rw [<-a,c] at b;cases b
   ·intro a;rw [<-a,c] at d;cases d
  ·exact Iff.rfl
theorem aYm(j:lX V){f g:List Nd}(i:aO (gZ V) f g):∀{c d:List Nd},aO (gZ V) c d->(f=c↔g=d):=by
 induction i with
 |nil=>
  intro c d e;cases e with
  |nil=>simp
  |cons _ _=>simp
 |cons a _ ih=>
  intro c d e;cases e with
  |nil=>simp
  |cons b k=>
   rw [List.cons.injEq,List.cons.injEq,aYl j a b,ih k]
theorem aYn(i:lX V){d f e g:Lt}(b:kO V d f)(c:kO V e g):d=e↔f=g:=by
 have:=aYm i b.2 c.2;constructor
 ·intro a;exact zi (by rw [<-b.1,<-c.1,a]) (this.1 (by rw [a]))
 ·intro a;exact zi (by rw [b.1,c.1,a]) (this.2 (by rw [a]))
theorem aYo(g:lX V){b c:List Lt}(f:aO (kO V) b c){d e:Lt}(i:kO V d e):fI b d=fI c e:=by
 induction f with
 |nil=>rfl
 |cons a _ ih=>
  simp only [fI,List.any_cons] at ih ⊢;rw [ih];congr 1
  exact decide_eq_decide.2 (aYn g a i)
theorem aYp(i:lX V){b c:List Lt}(g:aO (kO V) b c):aO (kO V) (bY b) (bY c):=by
 suffices ∀{b c:List Lt},aO (kO V) b c->∀{e f:List Lt},aO (kO V) e f->aO (kO V) (b.foldl eO e) (c.foldl eO f) from this g aO.nil
 intro b c g;induction g with
 |nil=>intro e f d;exact d
 |cons a _ ih=>
  intro e f d;simp only [zr];refine ih ?_;unfold eO;rw [aYo i d a];split
  ·exact d
  ·exact d.snoc a
theorem aYq(k:lX V){b c:List Lt}(f:aO (kO V) b c):(dG b).1=(dG c).1:=by
 suffices ∀{b c:List Lt},aO (kO V) b c->∀{d e:List Lt×List Int},d.1=e.1->aO V d.2 e.2->(b.foldl eG d).1=(c.foldl eG e).1 from this f rfl aO.nil
 intro b c f;induction f with
 |nil=>intro d e g _;exact g
 |cons a _ ih=>
  intro d e g j;simp only [zr];have i:=aRq k a.2 j;refine ih ?_ i.2;simp only [eG];rw [g,a.1,i.1]
theorem aBs(c:lX V){a b:List Lt}(d:aO (kO V) a b):aU a=aU b:=aYq c (aYp c d)
end
abbrev bU(a:List Tg)(b c:Nat):Nat->Nat->Prop:=Cl (aF (a.map zz)) λi j=>bH a i=bH a j\/(i=b/\j=c)
section
variable {M:List Tg}{o:Int}{t:List Nd}{a b:Nat}
theorem qO(M:List Tg)(o:Int)(t:List Nd):(M++t.map λc=>(o,c)).map zz=M.map zz++t:=by
 rw [List.map_append,List.map_map];congr 1
 exact List.map_id _
theorem aBt{p:Nat}(c:p<M.length):bH M p<M.length:=by have:=(aEz M).rt_lt (p:=p) (by rw [mS];exact c);rwa [mS] at this
theorem aF3(M:List Tg)(p:Nat):bH M (bH M p)=bH M p:=(aEz M).rt_rt p
theorem aYr{e c:Nat}(d:bH M e=bH M c):bH (M++t.map λg=>(o,g)) e=bH (M++t.map λg=>(o,g)) c:=by
 by_cases i:e<M.length
 ·by_cases f:c<M.length
  ·rw [aBn i,aBn f,d]
  ·rw [rD (p:=c) (by omega)] at d;have:=aBt i;omega
 ·rw [rD (p:=e) (by omega)] at d;by_cases f:c<M.length
  ·have:=aBt f;omega
  ·rw [rD (p:=c) (by omega)] at d;rw [d]
theorem sT{c:Nat}(g:(aF (M.map zz)).named c):c<M.length/\(aF (M.map zz++t)).named c/\(aF (M.map zz++t)).lab c=(aF (M.map zz)).lab c:=by
 obtain ⟨j,d,i⟩:=kM g;have f:c<(M.map zz).length:=(zy.1 d).1;have e:(M.map zz++t)[c]?=some j:=by rw [zv f,d]
 exact ⟨by simpa using f,(fW e).2 i,by rw [mG e,mG d]⟩
theorem tX{c:Nat}(g:c<M.length)(e:(aF (M.map zz++t)).named c):(aF (M.map zz)).named c:=by obtain ⟨i,d,f⟩:=kM e;rw [zv (by simpa using g)] at d;exact (fW d).2 f
theorem aF4(i:dM (M.map zz)){p d:Nat}(j:(aF (M.map zz)).named p)(g:d∈(aF (M.map zz)).ch p):d<M.length:=by obtain ⟨l,c,_⟩:=kM j;have f:p<(M.map zz).length:=(zy.1 c).1;rw [fX c] at g;have k:=(qI _ _ _ (i p _ c) d g).2;have e:aN ((M.map zz).drop p) 1<=((M.map zz).drop p).length:=nR _ _;rw [zs f,(zy.1 c).2] at e;simp [aN] at e;simp at f;omega
theorem aF5(g:dM (M.map zz)){c d:Nat}(j:bU M a b c d):bU (M++t.map λf=>(o,f)) a b c d:=by
 unfold bU;rw [qO];refine Cl.le (R:=Cl (aF (M.map zz++t)) λc d=>bH (M++t.map λf=>(o,f)) c=bH (M++t.map λf=>(o,f)) d\/(c=a/\d=b)) ⟨Cl.refl,λ_ _=>Cl.symm,λ_ _ _=>Cl.trans,?_⟩ ?_ j
 ·intro c d u v x i k l m n;obtain ⟨p,q,_⟩:=sT (t:=t) k;obtain ⟨r,s,_⟩:=sT (t:=t) l;exact Cl.down i q s (by rw [oB g (by simpa using p)];exact m) (by rw [oB g (by simpa using r)];exact n)
 ·rintro c d (e|e)
  ·exact Cl.base (zt (aYr e))
  ·exact Cl.base (zq e)
theorem aYs(c:dM (M.map zz)){d:Nat}(e:bK (aF (M.map zz++t)) (bU (M++t.map λn=>(o,n)) a b) d):bK (aF (M.map zz)) (bU M a b) d:=by
 induction e with
 |mk i _ ih=>
  refine ⟨_,λk f g p j=>?_⟩;obtain ⟨l,m,_⟩:=sT (t:=t) g;exact ih k (aF5 c f) m p (by rw [oB c (by simpa using l)];exact j)
theorem aYt(e:dM (M.map zz))(d:eS (aF (M.map zz++t)) (bU (M++t.map λp=>(o,p)) a b)):eS (aF (M.map zz)) (bU M a b):=by intro i l c f g;obtain ⟨_,j,k⟩:=sT (t:=t) f;obtain ⟨_,m,n⟩:=sT (t:=t) g;rw [<-k,<-n];exact d i l (aF5 e c) j m
end
structure jE(M:List Tg)(a b:Nat)(F:List Nat)(rt d:Nat->Nat)(S:List Int):Prop where
 whole:dM (M.map zz)
 lf:F.length=M.length
 ls:S.length=M.length
 forest:gW F rt d
 named:lC (M.map zz) rt
 cl:eQ (aF (M.map zz)) (λi j=>rt i=rt j) λ_ _=>False
 iff:∀i j,rt i=rt j↔bU M a b i j
 sz:sL (M.map zz) rt S
 none:∀r:Nat,S[r]?≠some (-1)
 ha:a<M.length
 hb:b<M.length
def dP(M a:List Tg)(b:Nat->Nat)(p:Nat):Nat:=if bH a p<M.length then b (bH a p) else bH a p
def dX(M a:List Tg)(b:Nat->Nat)(p:Nat):Nat:=if p<M.length then b p else if bH a p=p then 0 else if bH a p<M.length then b (bH a p)+1 else 1
section
variable {M:List Tg}{o:Int}{t:List Nd}{a b:Nat}{F:List Nat}{rt d:Nat->Nat}{S:List Int}
theorem jE.rt_lt(c:jE M a b F rt d S){p:Nat}(e:p<M.length):rt p<M.length:=by have:=c.forest.rt_lt (p:=p) (by rw [c.lf];exact e);rwa [c.lf] at this
theorem jE.old(e:jE M a b F rt d S){p:Nat}(c:p<M.length):dP M (M++t.map λf=>(o,f)) rt p=rt p:=by unfold dP;rw [aBn c,aJ (aBt c)];exact (e.iff _ _).2 (Cl.base (zt (aF3 M p)))
theorem jE.new(_h:jE M a b F rt d S){c:Nat}(l:M.length<=c)(k:(aF (M.map zz++t)).named c):dP M (M++t.map λe=>(o,e)) rt c=c:=by
 have g:bH (M++t.map λe=>(o,e)) c=c:=by obtain ⟨e,f,i⟩:=kM k;rw [<-qO M o t,zj] at f;obtain ⟨m,j,rfl⟩:=Option.map_eq_some_iff.1 f;exact pG j i
 unfold dP;rw [g,aI (by omega)]
theorem jE.up(c:jE M a b F rt d S){f e:Nat}(g:rt f=rt e):dP M (M++t.map λn=>(o,n)) rt f=dP M (M++t.map λn=>(o,n)) rt e:=by
 by_cases l:f<M.length
 ·by_cases j:e<M.length
  ·rw [c.old l,c.old j,g]
  ·have k:=c.forest.out e (by rw [c.lf];omega);have i:=c.rt_lt l;omega
 ·have k:=c.forest.out f (by rw [c.lf];omega);by_cases j:e<M.length
  ·have i:=c.rt_lt j;omega
  ·have i:=c.forest.out e (by rw [c.lf];omega);rw [k,i] at g;rw [g]
theorem jE.in(f:jE M a b F rt d S){g c:Nat}(j:g<M.length)(e:dP M (M++t.map λi=>(o,i)) rt g=dP M (M++t.map λi=>(o,i)) rt c)(l:(aF (M.map zz++t)).named c):c<M.length/\rt g=rt c:=by
 have m:=f.rt_lt j;rw [f.old j] at e;by_cases k:c<M.length
 ·exact ⟨k,by rw [f.old k] at e;exact e⟩
 ·rw [f.new (by omega) l] at e;omega
theorem jE.ends(e:jE M a b F rt d S){p:Nat}(r:bK (aF (M.map zz)) (λc j=>rt c=rt j) p):p<M.length->bK (aF (M.map zz++t)) (λc j=>dP M (M++t.map λn=>(o,n)) rt c=dP M (M++t.map λn=>(o,n)) rt j) p:=by
 induction r with
 |mk c _ ih=>
  intro l;refine ⟨_,λj m g x f=>?_⟩;obtain ⟨k,q⟩:=e.in l m g;have i:=tX k g;rw [oB e.whole (by simpa using k)] at f;exact ih j q i x f (aF4 e.whole i f)
theorem jE.exp(c:jE M a b F rt d S){n:List Nat}{g:List Nd}(v:aS (aF (M.map zz)) (λi j=>rt i=rt j) rt n g):(∀i∈n,i<M.length)->aS (aF (M.map zz++t)) (λi j=>dP M (M++t.map λe=>(o,e)) rt i=dP M (M++t.map λe=>(o,e)) rt j) (dP M (M++t.map λe=>(o,e)) rt) n g:=by
 induction v with
 |nil=>intro _;exact aS.nil
 |@var i r g h1 _ ih=>
  intro f;have p:=f i (by simp);rw [<-c.old (t:=t) (o:=o) p];refine aS.var (λj s q=>?_) (ih λm hq=>f m (by simp [hq]));obtain ⟨k,l⟩:=c.in p s q;exact h1 j l (tX k q)
 |@name i j r g h1 h2 _ ih=>
  intro f;obtain ⟨k,l,u⟩:=sT (t:=t) h2;rw [<-u];refine aS.name (c.up h1) l ?_;rw [oB c.whole (by simpa using k)];refine ih λm hq=>?_
  rcases zm.1 hq with hq|hq
  ·exact aF4 c.whole h2 hq
  ·exact f m (by simp [hq])
theorem jE.add(f:jE M a b F rt d S)(a1:bA t 1=true):jE (M++t.map λc=>(o,c)) a b (F++jC M o t t.length) (dP M (M++t.map λc=>(o,c)) rt) (dX M (M++t.map λc=>(o,c)) d) (S++zk t.length 0):=by
 have X:dM (M.map zz++t):=f.whole.append (qH a1);have a0:(jC M o t t.length).length=t.length:=by simp [jC]
 have n:(M++t.map λc=>(o,c)).length=M.length+t.length:=by simp
 have I:∀p,M.length<=p->p<M.length+t.length->(F++jC M o t t.length)[p]?=some (bH (M++t.map λc=>(o,c)) p):=by intro p m r;have:=vF (M:=M++t.map λc=>(o,c)) (p:=p) (by rw [n];exact r);rw [aKd,zu (by rw [mS];exact m),mS] at this;rw [zu (by rw [f.lf];exact m),f.lf];exact this
 have H:∀p,p<M.length->(F++jC M o t t.length)[p]?=F[p]?:=λp i=>zv (by rw [f.lf];exact i)
 have v:(F++jC M o t t.length).length=M.length+t.length:=by rw [zp,a0,f.lf]
 have Z:∀p,p<M.length+t.length->bH (M++t.map λc=>(o,c)) p<M.length+t.length:=λp i=>by
  have:=aBt (M:=M++t.map λc=>(o,c)) (p:=p) (by rw [n];exact i);rwa [n] at this
 have Q:∀p,bU (M++t.map λc=>(o,c)) a b p (dP M (M++t.map λc=>(o,c)) rt p):=by
  intro p;have m:bU (M++t.map λc=>(o,c)) a b p (bH (M++t.map λc=>(o,c)) p):=Cl.base (zt (aF3 _ p).symm);by_cases g:bH (M++t.map λc=>(o,c)) p<M.length
  ·have r:bU M a b (bH (M++t.map λc=>(o,c)) p) (rt (bH (M++t.map λc=>(o,c)) p)):=(f.iff _ _).1 (f.forest.rt_rt _).symm;have e:dP M (M++t.map λc=>(o,c)) rt p=rt (bH (M++t.map λc=>(o,c)) p):=aJ g;rw [e];exact m.trans (aF5 f.whole r)
  ·have e:dP M (M++t.map λc=>(o,c)) rt p=bH (M++t.map λc=>(o,c)) p:=aI g;rw [e];exact m
 have O:eQ (aF (M.map zz++t)) (λl j=>dP M (M++t.map λc=>(o,c)) rt l=dP M (M++t.map λc=>(o,c)) rt j) λ_ _=>False:=by
  intro J L e A C;by_cases x:J<M.length
  ·obtain ⟨u,D⟩:=f.in x e C;obtain ⟨U,V⟩:=f.cl J L D (tX x A) (tX u C);refine ⟨?_,λR p s i g=>?_⟩
   ·rw [(sT (t:=t) (tX x A)).2.2,(sT (t:=t) (tX u C)).2.2];exact U
   ·rw [oB f.whole (by simpa using x)] at i;rw [oB f.whole (by simpa using u)] at g;refine fA.mono (λl j hij=>?_) (V R p s i g);rcases hij with hij|hij
    ·exact fA.base (zt (f.up hij))
    ·exact hij.elim
  ·have u:¬L<M.length:=λu=>x (f.in u e.symm A).1
   have E:=f.new (t:=t) (o:=o) (by omega) A;have G:=f.new (t:=t) (o:=o) (by omega) C;have:J=L:=by rw [<-E,<-G];exact e
   subst this;refine ⟨rfl,λR p s i g=>?_⟩;rw [i] at g;simp at g;subst g;exact fA.refl _
 have Y:=O.done (B:=λl j=>bH (M++t.map λc=>(o,c)) l=bH (M++t.map λc=>(o,c)) j\/(l=a/\j=b)) (sM _) (λl j e=>by
   have m:=Q l;have r:=Q j;unfold bU at m r;rw [qO] at m r;have D:dP M (M++t.map λc=>(o,c)) rt l=dP M (M++t.map λc=>(o,c)) rt j:=e;rw [D] at m;exact m.trans r.symm) (λl j e=>by
   rcases e with e|⟨rfl,rfl⟩
   ·show dP M (M++t.map λc=>(o,c)) rt l=dP M (M++t.map λc=>(o,c)) rt j;unfold dP;rw [e]
   ·show dP M (M++t.map λc=>(o,c)) rt l=dP M (M++t.map λc=>(o,c)) rt j;rw [f.old f.ha,f.old f.hb];exact (f.iff _ _).2 (Cl.base (zq ⟨rfl,rfl⟩)))
 refine ⟨by rw [qO];exact X,by rw [v,n],by rw [zp,zl,f.ls,n],⟨?_,?_,?_,?_⟩,?_,by rw [qO];exact O,?_,?_,?_,by rw [n];have:=f.ha;omega,by rw [n];have:=f.hb;omega⟩
 ·intro p s g;have i:=(zy.1 g).1;rw [v] at i ⊢;by_cases k:p<M.length
  ·rw [H p k] at g;have:=f.forest.lt p s g;rw [f.lf] at this;omega
  ·rw [I p (by omega) i] at g;simp at g;subst g;exact Z p i
 ·intro p g;have i:=(zy.1 g).1;rw [v] at i;by_cases k:p<M.length
  ·rw [H p k] at g;rw [f.old k];exact f.forest.root p g
  ·rw [I p (by omega) i] at g;simp at g;unfold dP;rw [g,aI (by omega)]
 ·intro p s g P;have i:=(zy.1 g).1;rw [v] at i;by_cases k:p<M.length
  ·rw [H p k] at g;have q:=f.forest.lt p s g;rw [f.lf] at q;rw [f.old k,f.old q];unfold dX;rw [aJ k,aJ q];exact f.forest.step p s g P
  ·rw [I p (by omega) i] at g;simp at g;subst g;have N:=aF3 (M++t.map λc=>(o,c)) p;refine ⟨by unfold dP;rw [N],?_⟩;unfold dX;rw [aI k,aI P];by_cases q:bH (M++t.map λc=>(o,c)) p<M.length
   ·rw [aJ q,aJ q];omega
   ·rw [aI q,aJ N,aI q];omega
 ·intro p i;rw [v] at i;unfold dP;rw [rD (M:=M++t.map λc=>(o,c)) (by rw [n];exact i),aI (by omega)]
 ·rw [qO];intro p i;by_cases k:p<M.length
  ·rw [f.old k];exact (sT (t:=t) (f.named p (tX k i))).2.1
  ·rw [f.new (by omega) i];exact i
 ·intro l j;unfold bU;rw [qO];exact Y.1 l j
 ·rw [qO];intro p c y;by_cases k:p<S.length
  ·rw [zv k] at y;rw [f.ls] at k;rcases f.sz p c y with e|e|⟨E,a2,G,W⟩
   ·exact zt e
   ·exact zq (zt e)
   ·exact zq (zq ⟨f.ends E k,a2,f.exp G (by simpa using k),W⟩)
  ·rw [zu (by omega)] at y;have:=(zy.1 y).2;simp at this;exact zt this.symm
 ·intro T z;by_cases k:T<S.length
  ·rw [zv k] at z;exact f.none T z
  ·rw [zu (by omega)] at z;have:=(zy.1 z).2;simp at this
end
def aK(rest:List (Int×Lt)):List Tg:=rest.flatMap λr=>r.2.2.map λn=>(r.1,n)
def bE:Nat->List (Int×Lt)->List Nat
 |_,[]=>[]
 |n,r::rs=>n::bE (n+r.2.2.length) rs
def dC(rest:List (Int×Lt))(ls:List (List Nd)):List Lt:=List.zipWith (λb a=>(b.2.1,a)) rest ls
def qP(a:List Tg)(b c:Nat):Prop:=eS (aF (a.map zz)) (bU a b c)/\∀d,d<a.length->bK (aF (a.map zz)) (bU a b c) d
def fL(a:List Tg)(b c:Nat)(rest:List (Int×Lt))(f:List Lt)(i:Bool)(e:Int):Prop:=
 (¬qP (a++aK rest) b c/\f=[]/\i=false/\e=0)\/
 (qP (a++aK rest) b c/\∃(g:Nat->Nat) (ls:List (List Nd)),(∀d j,g d=g j↔bU (a++aK rest) b c d j)/\aO (λd k=>aS (aF ((a++aK rest).map zz)) (bU (a++aK rest) b c) g [d] k) (bE a.length rest) ls/\
  ((500<aR (aU (dC rest ls))/\f=[]/\i=false/\e=4)\/(aR (aU (dC rest ls))<=500/\f=aU (dC rest ls)/\i=true/\e=0)))
theorem vH:∀(n:Nat) (a:List (Int×Lt)),(bE n a).length=a.length
 |_,[]=>rfl
 |n,r::rs=>by simp [bE,vH _ rs]
theorem aYu{e:Gr}{f:Nat->Nat->Prop}{k rd:Nat->Nat}{l:List Nat}{c:List Nd}(m:aS e f k l c):∃d,aS e f rd l d/\aO (gZ λa b=>∃g,a=(k g:Int)/\b=(rd g:Int)) c d:=by
 induction m with
 |nil=>exact ⟨[],aS.nil,aO.nil⟩
 |@var i r c h1 _ ih=>
  obtain ⟨d,a,b⟩:=ih;exact ⟨_,aS.var h1 a,aO.cons (zt ⟨nJ _,nJ _,rfl,i,rfl,rfl⟩) b⟩
 |@name i j r c h1 h2 _ ih=>
  obtain ⟨d,a,b⟩:=ih;exact ⟨_,aS.name h1 h2 a,aO.cons (zq ⟨h2,rfl⟩) b⟩
theorem aBu{b:Int->Int->Prop}:∀(e:List (Int×Lt)) {c d:List (List Nd)},aO (λf g=>aO (gZ b) f g) c d->aO (kO b) (dC e c) (dC e d)
 |[],_,_,_=>aO.nil
 |_::_,_,_,aO.nil=>aO.nil
 |_::rs,_,_,aO.cons a h=>aO.cons ⟨rfl,a⟩ (aBu rs h)
theorem aBv{f:List Tg}{o p:Nat}{d:List (Int×Lt)}{C D:List Lt}{e z:Bool}{j A:Int}(u:fL f o p d C e j)(l:fL f o p d D z A):C=D/\e=z/\j=A:=by
 rcases u with ⟨r,rfl,rfl,rfl⟩|⟨r,n,q,B,M,I⟩
 ·rcases l with ⟨_,rfl,rfl,rfl⟩|⟨v,_⟩
  ·exact ⟨rfl,rfl,rfl⟩
  ·exact absurd v r
 ·rcases l with ⟨v,_⟩|⟨_,i,m,y,N,x⟩
  ·exact absurd r v
  ·have J:fH (aF ((f++aK d).map zz)) (bU (f++aK d) o p):=Cl.isDown _ _;have L:lX λb e=>∃a,b=(n a:Int)/\e=(i a:Int):=by
    rintro b e T z ⟨a,rfl,rfl⟩ ⟨t,rfl,rfl⟩;constructor
    ·intro j;have:i a=i t:=(y _ _).2 ((B a t).1 (by omega));omega
    ·intro j;have:n a=n t:=(B _ _).2 ((y a t).1 (by omega));omega
   have O:aO (λg s=>aO (gZ λb e=>∃a,b=(n a:Int)/\e=(i a:Int)) g s) q m:=by
    have S:∀{b:List Nat} {q m:List (List Nd)},aO (λa g=>aS (aF ((f++aK d).map zz)) (bU (f++aK d) o p) n [a] g) b q->aO (λa g=>aS (aF ((f++aK d).map zz)) (bU (f++aK d) o p) i [a] g) b m->aO (λg s=>aO (gZ λb e=>∃a,b=(n a:Int)/\e=(i a:Int)) g s) q m:=by
     intro b q m u;induction u generalizing m with
     |nil=>intro l;cases l;exact aO.nil
     |cons c _ ih=>
      intro l;cases l with
      |cons c' k=>
       refine aO.cons ?_ (ih k);obtain ⟨s,G,H⟩:=aYu (rd:=i) c;have:=aS.one J r.1 (qJ _) (λQ R j=>(y Q R).2 j) G _ c';subst this;exact H
    exact S M N
   have P:=aBs L (aBu d O);rw [<-P] at x;rcases I with ⟨E,rfl,rfl,rfl⟩|⟨E,rfl,rfl,rfl⟩
   ·rcases x with ⟨_,rfl,rfl,rfl⟩|⟨F,_⟩
    ·exact ⟨rfl,rfl,rfl⟩
    ·omega
   ·rcases x with ⟨F,_⟩|⟨_,rfl,rfl,rfl⟩
    ·omega
    ·exact ⟨rfl,rfl,rfl⟩
section
variable {M:List Tg}{o:Int}{t:List Nd}{a b:Nat}{F:List Nat}{rt d:Nat->Nat}{S:List Int}
theorem jE.endsAll(i:jE M a b F rt d S)(I:bA t 1=true)(s:∀e,e<M.length->bK (aF (M.map zz)) (λq c=>rt q=rt c) e):∀(l e:Nat),e+l=M.length+t.length->bK (aF (M.map zz++t)) (λq c=>dP M (M++t.map λf=>(o,f)) rt q=dP M (M++t.map λf=>(o,f)) rt c) e:=by
 have C:dM (M.map zz++t):=i.whole.append (qH I);intro l;induction l using Nat.strongRecOn with
 |_ l ih=>
  intro e N;by_cases y:e<M.length
  ·exact i.ends (s e y) y
  ·refine ⟨_,λc D p m k=>?_⟩;have g:dP M (M++t.map λf=>(o,f)) rt e=dP M (M++t.map λf=>(o,f)) rt c:=D;by_cases v:c<M.length
   ·have G:=tX v p;rw [oB i.whole (by simpa using v)] at k;have A:=aF4 i.whole G k;exact i.ends (s m A) A
   ·rw [i.new (by omega) p] at g;obtain ⟨O,j,u⟩:=kM p;have E:c=e:=by
     unfold dP at g;split at g
     ·rename_i H;have:=i.rt_lt H;omega
     ·rw [<-qO M o t,zj] at j;obtain ⟨Q,J,rfl⟩:=Option.map_eq_some_iff.1 j;cases hm:(M++t.map λf=>(o,f))[e]? with
      |none=>rw [rD (by simpa using (List.getElem?_eq_none_iff.1 hm))] at g;exact g.symm
      |some z=>
       cases hv:aM z.2 with
       |false=>rw [pG hm hv] at g;exact g.symm
       |true=>
        obtain ⟨_,_,P,n,B,_⟩:=pH hm hv;rw [g,J] at n;simp at n;subst n;rw [B] at u;cases u
    subst E;rw [fX j] at k;have L:=qI _ _ _ (C c _ j) m k;have x:c<(M.map zz++t).length:=(zy.1 j).1;have r:aN ((M.map zz++t).drop c) 1<=((M.map zz++t).drop c).length:=nR _ _;rw [zs x,(zy.1 j).2] at r;simp [aN] at r;simp at x;exact ih (M.length+t.length-m) (by omega) m (by omega)
end
theorem aYv{a:Nat}(b:w.heap[a]?=some (.map #[] 0)):w.ownsMap zw 195 gG a 0 (.map []):=by
 have e:=(zx.1 b).1;have c:(World.alloc {w with heap:=w.heap.extract 0 a} (.map #[] 0)).ownsMap zw 195 gG ({w with heap:=w.heap.extract 0 a}:World).heap.size 0 (.map []):=World.ownsMap_made _ _ _ _;have d:({w with heap:=w.heap.extract 0 a}:World).heap.size=a:=by simp;omega
 rw [d] at c;refine aEu c ?_;rw [b];have:=heap_alloc_new ({w with heap:=w.heap.extract 0 a}:World) (.map #[] 0);rw [d] at this;exact this.symm
theorem aBw{e:World}{d a b g:Nat}{c:Array Value}{f:TypeId}(j:d<=a)(i:e.heap[a]?=some (.cells c f))(k:c.size=b*g)(l:b<=1000000):e.ownsRow d f g (.slice (some ⟨a,0,none⟩) 0 b) 0 []:=
 ⟨by simp,zq ⟨a,b,c,rfl,j,i,Nat.zero_le _,by unfold maxLen;omega,k,by simp⟩⟩
structure aF6(w:World)(tb mp:Nat)(vn ve vl vs:Value)(w':World):Prop where
 tm:dH w' w.heap.size tb vn ve vl vs (.map (some mp)) [] [] [] []
 first:gV w' mp []
 low:aC w w'
 ne:mp≠tb
 mlow:w.heap.size<=mp
theorem aYw{b:World}{a j c d e f tb:Nat}{l g:Array Value}(i:a<=1000000)(A:l.size=a*2)(k:g.size=a*1)(y:aC w b)(t:b.heap[j]?=some (.cells l 106))(u:b.heap[c]?=some (.cells g 3))(v:b.heap[d]?=some (.cells g 3))(x:b.heap[e]?=some (.cells g 3))(z:b.heap[f]?=some (.map #[] 0))
  (B:b.heap[tb]?=some (.cells #[.slice (some ⟨j,0,none⟩) 0 a,.slice (some ⟨c,0,none⟩) 0 a,.slice (some ⟨d,0,none⟩) 0 a,.slice (some ⟨e,0,none⟩) 0 a,.map (some f)] 157))
  (C:w.heap.size<=j/\w.heap.size<=c/\w.heap.size<=d/\w.heap.size<=e/\w.heap.size<=f/\w.heap.size<=tb) (D:c≠d/\c≠e/\d≠e/\f≠tb):aF6 w tb f (.slice (some ⟨j,0,none⟩) 0 a) (.slice (some ⟨c,0,none⟩) 0 a) (.slice (some ⟨d,0,none⟩) 0 a) (.slice (some ⟨e,0,none⟩) 0 a) b:=by
 obtain ⟨m,n,o,p,q,r⟩:=C;obtain ⟨E,F,G,s⟩:=D;refine ⟨⟨B,r,aBw m t A i,aBw n u k i,aBw o v k i,aBw p x k i,?_,?_,?_,?_,?_,?_⟩,⟨0,.map [],aYv z,oA.start,Nat.le_refl _⟩,y,s,q⟩;all_goals simp [Value.ownBlock]
 all_goals assumption
abbrev Ob:=Option Nat
def vS(a:Nat):Ob->Value
 |some k=>.slice (some ⟨k,0,none⟩) 0 a
 |none=>undef
def vM:Ob->Value
 |some k=>.map (some k)
 |none=>undef
def aL5(a b c d e:Ob):Array Bool:=#[true,a.isSome,true,b.isSome,true,c.isSome,true,d.isSome,e.isSome,false,false,false]
def pK(a:Nat)(b c d e f:Ob):Act:={tmps:=#[.int .i64 a,undef,.pointer none,.int .i64 a,vS a b,.int .i64 a,vS a c,.int .i64 a,vS a d,.int .i64 a,vS a e,vM f,undef,undef],defers:=[]}
def sU(a b c d e:Bool):List Nat:=(if a then [] else [1])++(if b then [] else [3])++(if c then [] else [5])++(if d then [] else [7])++(if e then [] else [8])
def rE(a b c d e:Ob):List Nat:=sU a.isSome b.isSome c.isSome d.isSome e.isSome
structure gN(w:World)(c1 c2:Array Value)(o1 o2 o3 o4 o5:Ob)(W:World):Prop where
 low:aC w W
 h1:∀k,o1=some k->w.heap.size<=k/\W.heap[k]?=some (.cells c1 106)
 h2:∀k,o2=some k->w.heap.size<=k/\W.heap[k]?=some (.cells c2 3)
 h3:∀k,o3=some k->w.heap.size<=k/\W.heap[k]?=some (.cells c2 3)
 h4:∀k,o4=some k->w.heap.size<=k/\W.heap[k]?=some (.cells c2 3)
 h5:∀k,o5=some k->w.heap.size<=k/\W.heap[k]?=some (.map #[] 0)
 n23:∀k,o2=some k->o3≠some k
 n24:∀k,o2=some k->o4≠some k
 n34:∀k,o3=some k->o4≠some k
section
variable {w W:World}{c1 c2:Array Value}{o1 o2 o3 o4 o5:Ob}
theorem gN.start(b:aC w W):gN w c1 c2 none none none none none W:=⟨b,(λ_ a=>nomatch a),(λ_ a=>nomatch a),(λ_ a=>nomatch a),(λ_ a=>nomatch a),(λ_ a=>nomatch a),(λ_ a=>nomatch a),(λ_ a=>nomatch a),(λ_ a=>nomatch a)⟩
theorem gN.lt(b:gN w c1 c2 o1 o2 o3 o4 o5 W):(o1≠some W.heap.size/\o2≠some W.heap.size)/\o3≠some W.heap.size/\o4≠some W.heap.size/\o5≠some W.heap.size:=by
 refine ⟨⟨λa=>?_,λa=>?_⟩,λa=>?_,λa=>?_,λa=>?_⟩
 ·have:=(zx.1 (b.h1 _ a).2).1;omega
 ·have:=(zx.1 (b.h2 _ a).2).1;omega
 ·have:=(zx.1 (b.h3 _ a).2).1;omega
 ·have:=(zx.1 (b.h4 _ a).2).1;omega
 ·have:=(zx.1 (b.h5 _ a).2).1;omega
theorem zK{c d:Obj}{b:Nat}(a:W.heap[b]?=some c):(W.alloc d).heap[b]?=some c:=by rw [heap_alloc_old W d (zx.1 a).1,a]
theorem gN.alloc(a:gN w c1 c2 o1 o2 o3 o4 o5 W)(x:Obj):gN w c1 c2 o1 o2 o3 o4 o5 (W.alloc x):=
 ⟨a.low.alloc a.low.size x,λk b=>⟨(a.h1 k b).1,zK (a.h1 k b).2⟩,λk b=>⟨(a.h2 k b).1,zK (a.h2 k b).2⟩,λk b=>⟨(a.h3 k b).1,zK (a.h3 k b).2⟩,λk b=>⟨(a.h4 k b).1,zK (a.h4 k b).2⟩,λk b=>⟨(a.h5 k b).1,zK (a.h5 k b).2⟩,a.n23,a.n24,a.n34⟩
theorem gN.s1(c:gN w c1 c2 o1 o2 o3 o4 o5 W):gN w c1 c2 (some W.heap.size) o2 o3 o4 o5 (W.alloc (.cells c1 106)):=by have a:=c.alloc (.cells c1 106);exact ⟨a.low,λd b=>by simp at b;subst b;exact ⟨c.low.size,heap_alloc_new _ _⟩,a.h2,a.h3,a.h4,a.h5,a.n23,a.n24,a.n34⟩
theorem gN.s2(c:gN w c1 c2 o1 o2 o3 o4 o5 W):gN w c1 c2 o1 (some W.heap.size) o3 o4 o5 (W.alloc (.cells c2 3)):=by have b:=c.alloc (.cells c2 3);exact ⟨b.low,b.h1,λd a=>by simp at a;subst a;exact ⟨c.low.size,heap_alloc_new _ _⟩,b.h3,b.h4,b.h5,λd a=>by simp at a;subst a;exact c.lt.2.1,λd a=>by simp at a;subst a;exact c.lt.2.2.1,b.n34⟩
theorem gN.s3(c:gN w c1 c2 o1 o2 o3 o4 o5 W):gN w c1 c2 o1 o2 (some W.heap.size) o4 o5 (W.alloc (.cells c2 3)):=by have b:=c.alloc (.cells c2 3);exact ⟨b.low,b.h1,b.h2,λe a=>by simp at a;subst a;exact ⟨c.low.size,heap_alloc_new _ _⟩,b.h4,b.h5,λe a d=>by simp at d;subst d;exact c.lt.1.2 a,b.n24,λe a=>by simp at a;subst a;exact c.lt.2.2.1⟩
theorem gN.s4(d:gN w c1 c2 o1 o2 o3 o4 o5 W):gN w c1 c2 o1 o2 o3 (some W.heap.size) o5 (W.alloc (.cells c2 3)):=by have b:=d.alloc (.cells c2 3);exact ⟨b.low,b.h1,b.h2,b.h3,λe a=>by simp at a;subst a;exact ⟨d.low.size,heap_alloc_new _ _⟩,b.h5,b.n23,λe a c=>by simp at c;subst c;exact d.lt.1.2 a,λe a c=>by simp at c;subst c;exact d.lt.2.1 a⟩
theorem gN.s5(c:gN w c1 c2 o1 o2 o3 o4 o5 W):gN w c1 c2 o1 o2 o3 o4 (some W.heap.size) (W.alloc (.map #[] 0)):=by have a:=c.alloc (.map #[] 0);exact ⟨a.low,a.h1,a.h2,a.h3,a.h4,λd b=>by simp at b;subst b;exact ⟨c.low.size,heap_alloc_new _ _⟩,a.n23,a.n24,a.n34⟩
end
def vI(a b c d e:Ob):Nat:=(rE a b c d e).length
theorem aYx{n:Nat}{c1 c2:Array Value}{g:Array Oper}{D:Exit->Act->World->Prop}{m o p q r:Oper}
  (U:g[1]?=some m) (V:g[3]?=some o) (W:g[5]?=some p) (X:g[7]?=some q) (Y:g[8]?=some r)
  (Z:m.guard=none/\o.guard=none/\p.guard=none/\q.guard=none/\r.guard=none) (N:m.dst=some 4/\o.dst=some 6/\p.dst=some 8/\q.dst=some 10/\r.dst=some 11)
  (H:∀(b c d e f:Ob) (a:World),(execOp (pK n b c d e f).eval m).run zw a=.ok (.value (.slice (some ⟨a.heap.size,0,none⟩) 0 n)) (a.alloc (.cells c1 106)))
  (I:∀(b c d e f:Ob) (a:World),(execOp (pK n b c d e f).eval o).run zw a=.ok (.value (.slice (some ⟨a.heap.size,0,none⟩) 0 n)) (a.alloc (.cells c2 3)))
  (J:∀(b c d e f:Ob) (a:World),(execOp (pK n b c d e f).eval p).run zw a=.ok (.value (.slice (some ⟨a.heap.size,0,none⟩) 0 n)) (a.alloc (.cells c2 3)))
  (L:∀(b c d e f:Ob) (a:World),(execOp (pK n b c d e f).eval q).run zw a=.ok (.value (.slice (some ⟨a.heap.size,0,none⟩) 0 n)) (a.alloc (.cells c2 3)))
  (M:∀(b c d e f:Ob) (a:World),(execOp (pK n b c d e f).eval r).run zw a=.ok (.value (.map (some a.heap.size))) (a.alloc (.map #[] 0)))
  (G:∀(s t u v x:Bool),(s && t && u && v && x)=false->Region.ready .any g #[true,s,true,t,true,u,true,v,x,false,false,false]=sU s t u v x)
  (E:∀(y z A B C:Nat) (a:World),gN w c1 c2 (some y) (some z) (some A) (some B) (some C) a->wpAny zw .any g D 3 (aL5 (some y) (some z) (some A) (some B) (some C)) (pK n (some y) (some z) (some A) (some B) (some C)) a):∀(j:Nat) (b c d e f:Ob) (a:World),vI b c d e f=j->gN w c1 c2 b c d e f a->wpAny zw .any g D (j+3) (aL5 b c d e f) (pK n b c d e f) a:=by
 obtain ⟨a0,a1,a2,a3,a4⟩:=Z;obtain ⟨O,P,Q,R,S⟩:=N;intro j;induction j with
 |zero=>
  intro b c d e f a k i;have a5:=List.eq_nil_of_length_eq_zero k;cases b<;>cases c<;>cases d<;>cases e<;>cases f<;>first|(simp [rE,sU] at a5;done)|exact E _ _ _ _ _ _ i
 |succ j ih=>
  intro b c d e f a k i;have F:rE b c d e f≠[]:=λT=>by unfold vI at k;rw [T] at k;simp at k
  rw [show j+1+3=(j+3)+1 by omega];refine wpAny_all (rs:=rE b c d e f) (G _ _ _ _ _ (by cases b<;>cases c<;>cases d<;>cases e<;>cases f<;>first|rfl|exact absurd rfl F)) F λl a6=>?_
  have a7:(l=1/\b=none)\/(l=3/\c=none)\/(l=5/\d=none)\/(l=7/\e=none)\/(l=8/\f=none):=by clear G E ih H I J L M;cases b<;>cases c<;>cases d<;>cases e<;>cases f<;>simp [rE,sU] at a6 ⊢<;>omega
  rcases a7 with ⟨rfl,rfl⟩|⟨rfl,rfl⟩|⟨rfl,rfl⟩|⟨rfl,rfl⟩|⟨rfl,rfl⟩
  ·refine wW U a0 (H _ _ _ _ _ a) ?_;rw [O];exact ih (some a.heap.size) c d e f _ (by unfold vI rE sU at *;simp at *;omega) i.s1
  ·refine wW V a1 (I _ _ _ _ _ a) ?_;rw [P];exact ih b (some a.heap.size) d e f _ (by unfold vI rE sU at *;simp at *;omega) i.s2
  ·refine wW W a2 (J _ _ _ _ _ a) ?_;rw [Q];exact ih b c (some a.heap.size) e f _ (by unfold vI rE sU at *;simp at *;omega) i.s3
  ·refine wW X a3 (L _ _ _ _ _ a) ?_;rw [R];exact ih b c d (some a.heap.size) f _ (by unfold vI rE sU at *;simp at *;omega) i.s4
  ·refine wW Y a4 (M _ _ _ _ _ a) ?_;rw [S];exact ih b c d e (some a.heap.size) _ (by unfold vI rE sU at *;simp at *;omega) i.s5
theorem aL6(a:Nat)(V:a<=1000000)(w:World):Calls zw 56 #[.int .i64 a] w λe a2=>∃H X a0 Y Z a1,e=.returned (.pointer (some ⟨H,0,none⟩))/\aF6 w H X a0 Y Z a1 a2:=by
 obtain ⟨G,z,A,B,C⟩:=info_parts nB;obtain ⟨F,b,u,x,y⟩:=info_parts rR;have U:=@run_makeMap zw;obtain ⟨m,D,T⟩ : ∃m:Array Value,m.size=a*2/\∀w:World,(Instr.makeSlice 53 (.int .i64 0) (.int .i64 a)).run zw w=.ok (.slice (some ⟨w.heap.size,0,none⟩) 0 a) (w.alloc (.cells m 106)):=
  ⟨madeCells (Value.agg #[.string ⟨#[]⟩,.int .i64 0]).cells (a*G.size),by rw [size_madeCells,B],λw=>by
   have:=run_make (P:=zw) w 53 106 G _ Tryz.underlying53 z A .i64 .i64 0 a (Int.le_refl _) (by omega) (by rw [C];omega) (by omega);simpa using this⟩
 obtain ⟨n,E,t⟩ : ∃n:Array Value,n.size=a*1/\∀w:World,(Instr.makeSlice 25 (.int .i64 0) (.int .i64 a)).run zw w=.ok (.slice (some ⟨w.heap.size,0,none⟩) 0 a) (w.alloc (.cells n 3)):=
  ⟨madeCells (Value.int .i64 0).cells (a*F.size),by rw [size_madeCells,x],λw=>by
   have:=run_make (P:=zw) w 25 3 F _ Tryz.underlying25 b u .i64 .i64 0 a (Int.le_refl _) (by omega) (by rw [y];omega) (by omega);simpa using this⟩
 have I:=aA D;have J:=aA E;clear z A B C b u x y D E;go_enter Tryz.func56,Tryz.ntmps56;go_upto_region 1 with (fail);refine wp_region_any (by kernel_rfl) ?_;refine wpAny_take (i:=0) (v:=.int .i64 a) rfl (by kernel_rfl) (by kernel_rfl) (by kernel_rfl) (λ_ _ _ c=>c) (zt ⟨by rfl,λw=>rfl⟩) ?_;refine wpAny_take (i:=2) (v:=.int .i64 a) rfl (by kernel_rfl) (by kernel_rfl) (by kernel_rfl) (λ_ _ _ c=>c) (zt ⟨by rfl,λw=>rfl⟩) ?_;refine wpAny_take (i:=4) (v:=.int .i64 a) rfl (by kernel_rfl) (by kernel_rfl) (by kernel_rfl) (λ_ _ _ c=>c) (zt ⟨by rfl,λw=>rfl⟩) ?_;refine wpAny_take (i:=6) (v:=.int .i64 a) rfl (by kernel_rfl) (by kernel_rfl) (by kernel_rfl) (λ_ _ _ c=>c) (zt ⟨by rfl,λw=>rfl⟩) ?_;refine aYx (w:=w) (c1:=m) (c2:=n) (n:=a) rfl rfl rfl rfl rfl ⟨rfl,rfl,rfl,rfl,rfl⟩ ⟨rfl,rfl,rfl,rfl,rfl⟩ ?_ ?_ ?_ ?_ ?_ ?_ ?_ 5 none none none none none _ rfl ?_
 ·intro o p q r s d;simp [execOp,pK,Act.eval,T]
 ·intro o p q r s d;simp [execOp,pK,Act.eval,t]
 ·intro o p q r s d;simp [execOp,pK,Act.eval,t]
 ·intro o p q r s d;simp [execOp,pK,Act.eval,t]
 ·intro o p q r s d;simp [execOp,pK,U]
 ·intro M N O Q R c;cases M<;>cases N<;>cases O<;>cases Q<;>cases R<;>first|(cases c;done)|kernel_rfl
 ·intro j f i k l d b;change wpAny zw .any _ _ 3 #[true,true,true,true,true,true,true,true,true,false,false,false] {tmps:=#[.int .i64 a,undef,.pointer none,.int .i64 a,.slice (some ⟨j,0,none⟩) 0 a,.int .i64 a,.slice (some ⟨f,0,none⟩) 0 a,.int .i64 a,.slice (some ⟨i,0,none⟩) 0 a,.int .i64 a,.slice (some ⟨k,0,none⟩) 0 a,.map (some l),undef,undef],defers:=[]} d;refine wpAny_take (i:=9) (v:=.agg #[.slice (some ⟨j,0,none⟩) 0 a,.slice (some ⟨f,0,none⟩) 0 a,.slice (some ⟨i,0,none⟩) 0 a,.slice (some ⟨k,0,none⟩) 0 a,.map (some l)]) rfl (by kernel_rfl) (by kernel_rfl) (by kernel_rfl) (λ_ _ _ c=>c) (zt ⟨by rfl,λw=>by go_simp⟩) ?_;refine wpAny_all (rs:=[10]) (by kernel_rfl) (by simp) λW S=>?_
  obtain rfl:W=10:=by simpa using S
  refine wW (v:=.pointer (some ⟨d.heap.size,0,none⟩)) (w':=d.alloc (.cells #[.slice (some ⟨j,0,none⟩) 0 a,.slice (some ⟨f,0,none⟩) 0 a,.slice (some ⟨i,0,none⟩) 0 a,.slice (some ⟨k,0,none⟩) 0 a,.map (some l)] 157)) rfl rfl (by rfl) ?_;refine wpAny_take (i:=11) (v:=.pointer (some ⟨d.heap.size,0,none⟩)) rfl (by kernel_rfl) (by kernel_rfl) (by kernel_rfl) (λ_ _ _ c=>c) (zt ⟨by rfl,λw=>by rfl⟩) ?_;refine wpAny_done (by kernel_rfl) ?_ _;have g:=b.alloc (.cells #[.slice (some ⟨j,0,none⟩) 0 a,.slice (some ⟨f,0,none⟩) 0 a,.slice (some ⟨i,0,none⟩) 0 a,.slice (some ⟨k,0,none⟩) 0 a,.map (some l)] 157);have L:=aA (aYw (tb:=d.heap.size) V I.o J.o g.low (g.h1 j rfl).2 (g.h2 f rfl).2 (g.h3 i rfl).2 (g.h4 k rfl).2 (g.h5 l rfl).2 (heap_alloc_new _ _) ⟨(b.h1 j rfl).1,(b.h2 f rfl).1,(b.h3 i rfl).1,(b.h4 k rfl).1,(b.h5 l rfl).1,b.low.size⟩ ⟨λe=>b.n23 f rfl (by rw [e]),λe=>b.n24 f rfl (by rw [e]),λe=>b.n34 i rfl (by rw [e]),λe=>b.lt.2.2.2 (by rw [e])⟩);clear b g;go_wp2;go_ret;exact ⟨_,_,_,_,_,_,rfl,L.o⟩
 ·exact gN.start (aL ⟨1,rfl⟩)
structure lQ(B tb mp:Nat)(M:List Tg)(w:World):Prop where
 tm:∃vn ve vl vs,dH w B tb vn ve vl vs (.map (some mp)) (M.map zz) (fE (M.map zz)) (sP M) (zk M.length 0)
 first:gV w mp M
 whole:dM (M.map zz)
 big:B<=w.heap.size
 ne:mp≠tb
 mlow:B<=mp
theorem lQ.new{w i:World}{c b:Nat}{f d e g:Value}(a:aF6 w c b f d e g i):lQ w.heap.size c b [] i:=
 ⟨⟨f,d,e,g,a.tm⟩,a.first,λk l j=>by simp at j,a.low.size,a.ne,a.mlow⟩
theorem aBx{e i j:Nat}{a:List Tg}(b:lQ e i j a w)(d:Int)(f:Option Addr)(l:Nat)(c:List Nd)(v:dO w f c)(p:bA c 1=true)(u:∀q,f=some q->q.block<e)(t:a.length+c.length<=1000000)(x : -1000<=d/\d<=1000):Calls zw 59 #[.pointer (some ⟨i,0,none⟩),.int .i64 d,.slice f c.length l] w λm k=>m=.returned (.int .i64 a.length)/\lQ e i j (a++aQ d c) k/\Below e w k:=by
 obtain ⟨D,z,B,F,y⟩:=b.tm;have g:(a.map zz).length=a.length:=by simp
 refine (aJx e i j D z B F (a.map zz) (sP a) (zk a.length 0) a d f l c w y rfl b.whole b.first (by rw [mS,g]) (by rw [zl,g]) b.big b.ne b.mlow p v u (by rw [g];exact t) x).mono ?_;rintro m k ⟨E,A,C,G,rfl,r,s,n,_⟩;have o:(a++aQ d c).map zz=a.map zz++c:=by rw [List.map_append,sQ]
 refine ⟨by rw [g],⟨⟨E,A,C,G,?_⟩,s,by rw [o];exact b.whole.append (qH p),Nat.le_trans b.big n.low.size,b.ne,b.mlow⟩,n.low⟩;rw [o,aKd,zp,List.replicate_append_replicate.symm];simpa using r
theorem aYy{c:List Nd}(n:dM c){l:Nat->Nat->Prop}{j:Nat->Nat}{k:List Nat}{f:List Nd}(m:aS (aF c) l j k f)(g:∀b∈k,b<c.length):∀a∈f,(aM a=true/\∃b,b<c.length/\a=(⟨#[]⟩,(j b:Int)))\/(aM a=false/\a∈c):=by
 induction m with
 |nil=>intro a hn;simp at hn
 |@var b r f h1 _ ih=>
  intro a hn;rcases zo.1 hn with rfl|hn
  ·exact zt ⟨nJ _,b,g b (by simp),rfl⟩
  ·exact ih (λe o=>g e (by simp [o])) a hn
 |@name b e r f h1 h2 _ ih=>
  intro a hn;obtain ⟨u,d,s⟩:=kM h2;have q:=(zy.1 d).1;rcases zo.1 hn with rfl|hn
  ·right;rw [mG d];exact ⟨s,List.mem_of_getElem? d⟩
  ·refine ih (λp hp=>?_) a hn;rcases zm.1 hp with hp|hp
   ·rw [fX d] at hp;have t:=(qI _ _ _ (n e _ d) p hp).2;have i:aN (c.drop e) 1<=(c.drop e).length:=nR _ _;rw [zs q,(zy.1 d).2] at i;simp [aN] at i;omega
   ·exact g p (by simp [hp])
theorem xK{d:Option Addr}{a:List Nd}(e:dO w d a)(j:bA a 1=true):∀c,d=some c->c.block<w.heap.size:=by
 intro c i;have f:0<a.length:=by
  cases a with
  |nil=>simp [bA] at j
  |cons=>simp
 obtain ⟨k,l,b,g,_⟩:=e.cell 0 f;rw [i] at b;simp at b;rw [b];exact World.block_lt_of_cell? w _ g
theorem aBy(a:Int×Lt)(b:List (Int×Lt)):aK (a::b)=(a.2.2.map λc=>(a.1,c))++aK b:=by simp [aK]
theorem aL7(b:List Tg)(a:Int×Lt)(c:List (Int×Lt)):b++aK (a::c)=(b++a.2.2.map λd=>(a.1,d))++aK c:=by rw [aBy,List.append_assoc]
def qQ(c:List Tg)(j k:Nat)(f:List Nat)(n:List (List Nd)):Prop:=
 ∃g b l i,jE c j k g b l i/\(∀a,a<c.length->bK (aF (c.map zz)) (λd e=>b d=b e) a)/\aO (λa m=>aS (aF (c.map zz)) (λd e=>b d=b e) b [a] m) f n/\∀a∈f,a<c.length
section
variable {M:List Tg}{a b:Nat}{ps:List Nat}{ls:List (List Nd)}
theorem qQ.more(l:qQ M a b ps ls)(o:Int){e:List Nd}(m:bA e 1=true):∃i,qQ (M++e.map λf=>(o,f)) a b (ps++[M.length]) (ls++[i]):=by
 obtain ⟨A,g,B,S,n,t,v,r⟩:=l;have s:=qO M o e;have y:0<e.length:=by
  cases e with
  |nil=>simp [bA] at m
  |cons=>simp
 have p:∀d,d<M.length+e.length->bK (aF (M.map zz++e)) (λj k=>dP M (M++e.map λf=>(o,f)) g j=dP M (M++e.map λf=>(o,f)) g k) d:=λd hp=>n.endsAll (o:=o) m t (M.length+e.length-d) d (by omega)
 obtain ⟨i,u⟩:=(p M.length (by omega)).exp (rep:=dP M (M++e.map λf=>(o,f)) g);refine ⟨i,_,_,_,_,n.add (o:=o) m,λd hp=>by rw [s];exact p d (by simpa using hp),?_,λd hp=>?_⟩
 ·rw [s];have z:∀{ps:List Nat} {ls:List (List Nd)},aO (λd i=>aS (aF (M.map zz)) (λj k=>g j=g k) g [d] i) ps ls->(∀d∈ps,d<M.length)->aO (λd i=>aS (aF (M.map zz++e)) (λj k=>dP M (M++e.map λf=>(o,f)) g j=dP M (M++e.map λf=>(o,f)) g k) (dP M (M++e.map λf=>(o,f)) g) [d] i) ps ls:=by
   intro ps ls l;induction l with
   |nil=>intro _;exact aO.nil
   |cons c _ ih=>
    intro hp;exact aO.cons (n.exp (o:=o) c (λj q=>by simp at q;subst q;exact hp _ (by simp))) (ih λd x=>hp d (by simp [x]))
  exact (z v r).snoc u
 ·rcases zm.1 hp with hp|hp
  ·have:=r d hp;simp;omega
  ·simp at hp;subst hp;simp;exact y
theorem qQ.all:∀(e:List (Int×Lt)) {M:List Tg} {ps:List Nat} {ls:List (List Nd)},qQ M a b ps ls->(∀c∈e,bA c.2.2 1=true)->∃d,qQ (M++aK e) a b (ps++bE M.length e) (ls++d):=by
 intro e;induction e with
 |nil=>
  intro M ps ls f _;exact ⟨[],by simpa [aK,bE] using f⟩
 |cons c rs ih=>
  intro M ps ls f i;obtain ⟨g,l⟩:=f.more c.1 (i c (by simp));obtain ⟨d,m⟩:=ih l (λp n=>i p (by simp [n]));refine ⟨g::d,?_⟩;rw [aL7];have j:ps++bE M.length (c::rs)=ps++[M.length]++bE (M++c.2.2.map λo=>(c.1,o)).length rs:=by simp [bE]
  have k:ls++g::d=ls++[g]++d:=by simp
  rw [j,k];exact m
end
theorem aYz:∀(g:List (Int×Lt)) {a:List Tg} {b c:Nat},(∀e∈g,bA e.2.2 1=true)->dM (a.map zz)->qP (a++aK g) b c->eS (aF (a.map zz)) (bU a b c)/\∀f,f<a.length->bK (aF (a.map zz)) (bU a b c) f:=by
 intro g;induction g with
 |nil=>
  intro a b c _ _ d;simp only [aK,List.flatMap_nil,List.append_nil] at d;exact d
 |cons e rs ih=>
  intro a b c m i d;rw [aL7] at d;have l:=qO a e.1 e.2.2;obtain ⟨j,k⟩:=ih (λo n=>m o (by simp [n])) (by rw [l];exact i.append (qH (m e (by simp)))) d;rw [l] at j k;exact ⟨aYt i j,λf p=>aYs i (k f (by simp;omega))⟩
theorem aZ0{b:List Lt}{a:Lt}(h:a∈b):a∈bY b:=by
 suffices ∀(b:List Lt) (c:List Lt) (a:Lt),a∈c\/a∈b->a∈b.foldl eO c from this b [] a (zq h)
 intro b;induction b with
 |nil=>intro c a h;simpa using h
 |cons y r ih=>
  intro c a h;simp only [zr];refine ih _ _ ?_;have f:∀e,e∈c\/e=y->e∈eO c y:=by
   intro e d;unfold eO;split
   ·rename_i g;rcases d with d|rfl
    ·exact d
    ·exact (aAv _ _).1 g
   ·simpa using d
  rcases h with h|h
  ·exact zt (f a (zt h))
  ·rcases zo.1 h with rfl|h
   ·exact zt (f a (zq rfl))
   ·exact zq h
theorem aZ1(a:List Lt):aR (dG a).1=aR a:=by
 suffices ∀(a:List Lt) (b:List Lt×List Int),aR (a.foldl eG b).1=aR b.1+aR a by
  have:=this a ([],[]);simpa [dG,aR] using this
 intro a;induction a with
 |nil=>intro b;simp [aR]
 |cons x r ih=>
  intro b;simp only [zr];rw [ih];have c:(dF x.2 b.2).1.length=x.2.length:=(uK x.2 b.2).1;simp only [eG,nT,c];have d:aR (x::r)=x.2.length+aR r:=by simp [aR]
  omega
theorem aF7{a:List Lt}{b:Lt}(c:b∈a)(d:500<b.2.length):500<aR (aU a):=by unfold aU;rw [aZ1];have:=wZ (bY a) b (aZ0 c);omega
theorem aL8:∀(d:List (Int×Lt)) (b:List (List Nd)),d.length=b.length->∀a∈b,∃c,(c,a)∈dC d b
 |[],[],_,a,hl=>by simp at hl
 |r::rs,m::ms,h,a,hl=>by
  rcases zo.1 hl with rfl|hl
  ·exact ⟨r.2.1,by simp [dC]⟩
  ·obtain ⟨c,e⟩:=aL8 rs ms (by simpa using h) a hl;exact ⟨c,by simp only [dC,List.zipWith_cons_cons];exact List.mem_cons_of_mem _ e⟩
theorem qQ.out{b:List Tg}{c d:Nat}{rest:List (Int×Lt)}{ls:List (List Nd)}(n:qQ (b++aK rest) c d (bE b.length rest) ls):(500<aR (aU (dC rest ls))->fL b c d rest [] false 4)/\(aR (aU (dC rest ls))<=500->fL b c d rest (aU (dC rest ls)) true 0):=by
 obtain ⟨p,g,q,S,f,l,k,r⟩:=n;have o:(λa j=>g a=g j)=bU (b++aK rest) c d:=by
  funext a j
  exact propext (f.iff a j)
 rw [o] at l k;have m:qP (b++aK rest) c d:=by refine ⟨?_,l⟩;have:=f.cl.done (B:=λa j=>bH (b++aK rest) a=bH (b++aK rest) j\/(a=c/\j=d)) (sM g) (λa j e=>(f.iff a j).1 e) (λa j e=>(f.iff a j).2 (Cl.base e));exact this.2
 exact ⟨λi=>zq ⟨m,g,ls,f.iff,k,zt ⟨i,rfl,rfl,rfl⟩⟩,λi=>zq ⟨m,g,ls,f.iff,k,zq ⟨i,rfl,rfl,rfl⟩⟩⟩
