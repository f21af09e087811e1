import Derived.Test.YtmelidkanelpbaaGreatDoorStepAppT
import Derived.Test.YtmelidkanelpbaaGreatDoorONumberT
import Derived.Test.YtmelidkanelpbaaGreatDoorUJnLT
import Derived.Test.YtmelidkanelpbaaGreatDoorUNewT
open List renaming getElem?_eq_some_iff→zz,getElem?_append_left→zx,getElem?_append_right→zw,getElem?_eq_getElem→zv,drop_eq_getElem_cons→zu,length_append→zt,mem_cons→zr,mem_append→zq,getElem?_map→zo,getElem?_eq_none→zm,length_cons→zl,reverse_cons→zk,foldl_cons→zi,length_replicate→zh,replicate→zg,mem_cons_of_mem→zf,mem_of_getElem?→ze,reverse_reverse→zd,findIdx_append→zc,append_assoc→zb
open Nat renaming add_comm→zj,add_zero→za
open Option renaming map_eq_some_iff→zn
open Or renaming inl→zs,inr→zp
open Prod renaming snd→zy
namespace Go.Proofs.YtmelidkanelpbaaGreatDoor
open Go.RowKit Go.Shelf Go.WideMaps
set_option maxRecDepth 100000
variable{L l:List Nd}{p:Nat}{R:Nat->Nat->Prop}{w:World}
theorem cE.iff{d:Gr}{c:Nat->Nat->Prop}(f:∀a b,R a b↔c a b){a:Nat}:cE d R a↔cE d c a:=by
 have e:R=c:=by funext a b;exact propext (f a b)
 rw [e]
def bI(M:List Tg)(p:Nat):Nat:=match M[p]? with|some t=>if aL t.2 then M.findIdx (fH t.1 t.2.2) else p|none=>p
theorem pR{M:List Tg}(a:M.length<=p):bI M p=p:=by unfold bI;rw [zm a]
theorem lE{a:List Tg}{b:Tg}(c:a[p]?=some b)(d:aL b.2=false):bI a p=p:=by unfold bI;rw [c];simp [d]
theorem kA{b:List Tg}{a:Tg}(e:b[p]?=some a)(g:aL a.2=true):bI b p=b.findIdx (fH a.1 a.2.2)/\bI b p<=p/\∃d,b[bI b p]?=some d/\aL d.2=true/\d.1=a.1/\d.2.2=a.2.2:=by
 have k:=(zz.1 e).1;have i:b[p]=a:=(zz.1 e).2;have j:fH a.1 a.2.2 a=true:=by simp [fH,g]
 have f:bI b p=b.findIdx (fH a.1 a.2.2):=by unfold bI;rw [e];simp [g]
 have m:b.findIdx (fH a.1 a.2.2)<=p:=by apply Nat.le_of_not_lt;intro c;have:=List.not_of_lt_findIdx c;rw [i,j] at this;cases this
 have c:b.findIdx (fH a.1 a.2.2)<b.length:=by omega
 refine ⟨f,by omega,b[b.findIdx (fH a.1 a.2.2)],by rw [f];exact zv c,?_⟩;have:=List.findIdx_getElem (w:=c);simpa [fH] using this
def aXq(c:List Tg)(p d:Nat):Prop:=p=d\/∃a b,c[p]?=some a/\c[d]?=some b/\aL a.2=true/\aL b.2=true/\a.1=b.1/\a.2.2=b.2.2
theorem aXr(b:List Tg)(p c:Nat):bI b p=bI b c↔aXq b p c:=by
 constructor
 ·intro e;by_cases m:∃g,b[p]?=some g/\aL g.2=true
  ·obtain ⟨g,t,v⟩:=m;obtain ⟨D,E,C,f,z,A,B⟩:=kA t v;by_cases d:∃a,b[c]?=some a/\aL a.2=true
   ·obtain ⟨a,j,k⟩:=d;obtain ⟨x,y,u,i,o,q,r⟩:=kA j k;rw [e,i] at f;simp at f;subst f;exact zp ⟨g,a,t,j,v,k,by rw [<-A,q],by rw [<-B,r]⟩
   ·exfalso;have n:bI b c=c:=by
     cases hm:b[c]? with
     |none=>exact pR (by simpa using hm)
     |some a=>
      refine lE hm ?_;cases hv:aL a.2
      ·rfl
      ·exact absurd ⟨a,hm,hv⟩ d
    rw [e,n] at f;exact d ⟨C,f,z⟩
  ·have s:bI b p=p:=by
    cases hm:b[p]? with
    |none=>exact pR (by simpa using hm)
    |some a=>
     refine lE hm ?_;cases hv:aL a.2
     ·rfl
     ·exact absurd ⟨a,hm,hv⟩ m
   by_cases d:∃a,b[c]?=some a/\aL a.2=true
   ·obtain ⟨a,j,k⟩:=d;obtain ⟨x,y,u,i,o,q,r⟩:=kA j k;rw [<-e,s] at i;exact absurd ⟨u,i,o⟩ m
   ·have n:bI b c=c:=by
     cases hm:b[c]? with
     |none=>exact pR (by simpa using hm)
     |some a=>
      refine lE hm ?_;cases hv:aL a.2
      ·rfl
      ·exact absurd ⟨a,hm,hv⟩ d
    rw [s,n] at e;exact zs e
 ·rintro (rfl|⟨g,a,h1,h2,h3,h4,h5,h6⟩)
  ·rfl
  ·rw [(kA h1 h3).1,(kA h2 h4).1,h5,h6]
def rN(a:List Tg):List Nat:=(List.range a.length).map λp=>bI a p
theorem mR(M:List Tg):(rN M).length=M.length:=by simp [rN]
theorem uL{M:List Tg}(a:p<M.length):(rN M)[p]?=some (bI M p):=by simp [rN,a]
theorem aB1{a c:List Tg}(d:p<a.length):bI (a++c) p=bI a p:=by
 have b:a[p]?=some a[p]:=zv d;have e:(a++c)[p]?=some a[p]:=by rw [zx d,b]
 cases hv:aL a[p].2
 ·rw [lE b hv,lE e hv]
 ·obtain ⟨f,g,n,i,j,k,m⟩:=kA b hv;rw [(kA e hv).1,f,zc,aI (by omega)]
theorem aXs{a:List Tg}(c:p<a.length):nZ (a.take p) a[p].1 a[p].2=bI a p:=by
 have e:a[p]?=some a[p]:=zv c;have b:(a.take p).length=p:=by simp;omega
 unfold nZ;rw [b];cases hv:aL a[p].2
 ·rw [lE e hv];rfl
 ·obtain ⟨g,k,_⟩:=kA e hv;rw [aI rfl,g];have j:a=a.take p++a.drop p:=(List.take_append_drop p a).symm;have i:a.findIdx (fH a[p].1 a[p].2.2)=if (a.take p).findIdx (fH a[p].1 a[p].2.2)<(a.take p).length then (a.take p).findIdx (fH a[p].1 a[p].2.2) else (a.drop p).findIdx (fH a[p].1 a[p].2.2)+(a.take p).length:=by
   generalize fH a[p].1 a[p].2.2=f;conv=>lhs;rw [j]
   rw [zc]
  unfold jS;rw [i,b];split
  ·rename_i d;rw [List.findIdx?_eq_some_iff_findIdx_eq.2 ⟨by rw [b];exact d,rfl⟩];rfl
  ·rename_i d;rw [List.findIdx?_eq_none_iff_findIdx_eq.2 (by have:=List.findIdx_le_length (xs:=a.take p) (p:=fH a[p].1 a[p].2.2);omega)];rw [zu c,List.findIdx_cons];have:fH a[p].1 a[p].2.2 a[p]=true:=by simp [fH,hv]
   simp [this]
theorem aKs(M:List Tg)(c:Int)(b:List Nd):rN (M++b.map λa=>(c,a))=rN M++iQ M c b b.length:=by
 apply List.ext_getElem?;intro p;by_cases d:p<M.length
 ·rw [uL (by simp;omega),zx (by rw [mR];exact d),uL d,aB1 d]
 ·rw [zw (by rw [mR];omega),mR];by_cases g:p-M.length<b.length
  ·have e:p<(M++b.map λa=>(c,a)).length:=by simp;omega
   rw [uL e,<-aXs e];have f:(M++b.map λa=>(c,a))[p]=(c,b[p-M.length]):=by rw [List.getElem_append_right (by omega)];simp
   rw [f];have i:(M++b.map λa=>(c,a)).take p=M++(b.take (p-M.length)).map λa=>(c,a):=by rw [List.take_append,List.take_of_length_le (by omega),List.map_take]
   rw [i];simp [iQ,g]
  ·rw [zm (by rw [mR];simp;omega),zm (by rw [aM9];omega)]
theorem aEh(b:List Tg):gE (rN b) (bI b) (λp=>if bI b p=p then 0 else 1):=by
 refine ⟨λp o a=>?_,λp a=>?_,λp o a e=>?_,λp a=>pR (by rw [mR] at a;exact a)⟩
 ·have c:=(zz.1 a).1;rw [mR] at c ⊢;rw [uL c] at a;simp at a;subst a;have d:b[p]?=some b[p]:=zv c;cases hv:aL b[p].2
  ·rw [lE d hv];exact c
  ·have:=(kA d hv).2.1;omega
 ·have c:=(zz.1 a).1;rw [mR] at c;rw [uL c] at a;simpa using a
 ·have c:=(zz.1 a).1;rw [mR] at c;rw [uL c] at a;simp at a;subst a;have d:b[p]?=some b[p]:=zv c;cases hv:aL b[p].2
  ·rw [lE d hv] at e;exact absurd rfl e
  ·obtain ⟨i,q,r,j,k,m,n⟩:=kA d hv;have f:bI b p=bI b (bI b p):=by
    rw [(kA j k).1,i,m,n]
   refine ⟨f,?_⟩;rw [aI f.symm,aH (λg=>e g)];exact Nat.zero_lt_one
theorem aXt(a:List Tg):eA (aG (a.map zy)) (λk m=>bI a k=bI a m) λ_ _=>False:=by
 intro n o e j s;rcases (aXr a n o).1 e with rfl|⟨x,y,f,q,g,r,_⟩
 ·refine ⟨rfl,λt p v i c=>?_⟩;rw [i] at c;simp at c;subst c;exact eJ.refl _
 ·obtain ⟨u,b,d⟩:=nJ j;rw [zo,f] at b;simp at b;subst b;rw [g] at d;cases d
theorem aXu(a:List Tg):kS (a.map zy) (bI a):=by intro p c;obtain ⟨g,b,d⟩:=nJ c;rw [zo] at b;obtain ⟨i,e,f⟩:=zn.1 b;subst f;rw [lE e d];exact c
theorem tA{t:List Nd}(d:eT L){p:Nat}(b:p<L.length):(aG (L++t)).ch p=(aG L).ch p:=by
 have a:L[p]?=some L[p]:=zv b;have c:(L++t)[p]?=some L[p]:=by rw [zx b,a]
 rw [lU a,lU c,List.drop_append_of_le_length (by omega),aWg _ _ _ _ (d p _ a)]
abbrev dE(a:List Tg)(b c:Nat):Nat->Nat->Prop:=Cl (aG (a.map zy)) λi j=>bI a i=bI a j\/(i=b/\j=c)
section
variable {M:List Tg}{o:Int}{t:List Nd}{a b:Nat}
theorem pS(M:List Tg)(o:Int)(t:List Nd):(M++t.map λc=>(o,c)).map zy=M.map zy++t:=by
 rw [List.map_append,List.map_map];congr 1
 exact List.map_id _
theorem aB2(c:p<M.length):bI M p<M.length:=by have:=(aEh M).rt_lt (p:=p) (by rw [mR];exact c);rwa [mR] at this
theorem aEi(M:List Tg)(p:Nat):bI M (bI M p)=bI M p:=(aEh M).rt_rt p
theorem aXv{e c:Nat}(d:bI M e=bI M c):bI (M++t.map λg=>(o,g)) e=bI (M++t.map λg=>(o,g)) c:=by
 by_cases i:e<M.length
 ·by_cases f:c<M.length
  ·rw [aB1 i,aB1 f,d]
  ·rw [pR (p:=c) (by omega)] at d;have:=aB2 i;omega
 ·rw [pR (p:=e) (by omega)] at d;by_cases f:c<M.length
  ·have:=aB2 f;omega
  ·rw [pR (p:=c) (by omega)] at d;rw [d]
theorem rO(f:(aG (M.map zy)).named p):p<M.length/\(aG (M.map zy++t)).named p/\(aG (M.map zy++t)).lab p=(aG (M.map zy)).lab p:=by
 obtain ⟨i,c,g⟩:=nJ f;have e:p<(M.map zy).length:=(zz.1 c).1;have d:(M.map zy++t)[p]?=some i:=by rw [zx e,c]
 exact ⟨by simpa using e,(fL d).2 g,by rw [pI d,pI c]⟩
theorem tB(f:p<M.length)(d:(aG (M.map zy++t)).named p):(aG (M.map zy)).named p:=by obtain ⟨g,c,e⟩:=nJ d;rw [zx (by simpa using f)] at c;exact (fL c).2 e
theorem aEj(i:eT (M.map zy)){p d:Nat}(j:(aG (M.map zy)).named p)(g:d∈(aG (M.map zy)).ch p):d<M.length:=by obtain ⟨m,c,_⟩:=nJ j;have f:p<(M.map zy).length:=(zz.1 c).1;rw [lU c] at g;have k:=(aDt _ _ _ (i p _ c) d g).2;have e:aO ((M.map zy).drop p) 1<=((M.map zy).drop p).length:=sU _ _;rw [zu f,(zz.1 c).2] at e;simp [aO] at e;simp at f;omega
theorem aEk(g:eT (M.map zy)){c d:Nat}(j:dE M a b c d):dE (M++t.map λf=>(o,f)) a b c d:=by
 unfold dE;rw [pS];refine Cl.le (R:=Cl (aG (M.map zy++t)) λc d=>bI (M++t.map λf=>(o,f)) c=bI (M++t.map λf=>(o,f)) d\/(c=a/\d=b)) ⟨Cl.refl,λ_ _=>Cl.symm,λ_ _ _=>Cl.trans,?_⟩ ?_ j
 ·intro c d x p y i k m n q;obtain ⟨r,s,_⟩:=rO (t:=t) k;obtain ⟨u,v,_⟩:=rO (t:=t) m;exact Cl.down i s v (by rw [tA g (by simpa using r)];exact n) (by rw [tA g (by simpa using u)];exact q)
 ·rintro c d (e|e)
  ·exact Cl.base (zs (aXv e))
  ·exact Cl.base (zp e)
theorem aXw(c:eT (M.map zy)){p:Nat}(d:cE (aG (M.map zy++t)) (dE (M++t.map λn=>(o,n)) a b) p):cE (aG (M.map zy)) (dE M a b) p:=by
 induction d with
 |mk i _ ih=>
  refine ⟨_,λj e f q g=>?_⟩;obtain ⟨k,m,_⟩:=rO (t:=t) f;exact ih j (aEk c e) m q (by rw [tA c (by simpa using k)];exact g)
theorem aXx(e:eT (M.map zy))(d:kJ (aG (M.map zy++t)) (dE (M++t.map λr=>(o,r)) a b)):kJ (aG (M.map zy)) (dE M a b):=by intro i m c f g;obtain ⟨_,j,k⟩:=rO (t:=t) f;obtain ⟨_,n,q⟩:=rO (t:=t) g;rw [<-k,<-q];exact d i m (aEk e c) j n
end
structure iP(M:List Tg)(a b:Nat)(F:List Nat)(rt d:Nat->Nat)(S:List Int):Prop where
 whole:eT (M.map zy)
 lf:F.length=M.length
 ls:S.length=M.length
 forest:gE F rt d
 named:kS (M.map zy) rt
 cl:eA (aG (M.map zy)) (λi j=>rt i=rt j) λ_ _=>False
 iff:∀i j,rt i=rt j↔dE M a b i j
 sz:rR (M.map zy) rt S
 none:∀r:Nat,S[r]?≠some (-1)
 ha:a<M.length
 hb:b<M.length
def cX(M a:List Tg)(b:Nat->Nat)(p:Nat):Nat:=if bI a p<M.length then b (bI a p) else bI a p
def dX(M a:List Tg)(b:Nat->Nat)(p:Nat):Nat:=if p<M.length then b p else if bI a p=p then 0 else if bI a p<M.length then b (bI a p)+1 else 1
section
variable {M:List Tg}{o:Int}{t:List Nd}{a b:Nat}{F:List Nat}{rt d:Nat->Nat}{S:List Int}
theorem iP.rt_lt(c:iP M a b F rt d S){p:Nat}(e:p<M.length):rt p<M.length:=by have:=c.forest.rt_lt (p:=p) (by rw [c.lf];exact e);rwa [c.lf] at this
theorem iP.old(e:iP M a b F rt d S){p:Nat}(c:p<M.length):cX M (M++t.map λf=>(o,f)) rt p=rt p:=by unfold cX;rw [aB1 c,aI (aB2 c)];exact (e.iff _ _).2 (Cl.base (zs (aEi M p)))
theorem iP.new(_h:iP M a b F rt d S){p:Nat}(k:M.length<=p)(j:(aG (M.map zy++t)).named p):cX M (M++t.map λc=>(o,c)) rt p=p:=by
 have f:bI (M++t.map λc=>(o,c)) p=p:=by obtain ⟨c,e,g⟩:=nJ j;rw [<-pS M o t,zo] at e;obtain ⟨m,i,rfl⟩:=zn.1 e;exact lE i g
 unfold cX;rw [f,aH (by omega)]
theorem iP.up(c:iP M a b F rt d S){f e:Nat}(g:rt f=rt e):cX M (M++t.map λk=>(o,k)) rt f=cX M (M++t.map λk=>(o,k)) rt e:=by
 by_cases n:f<M.length
 ·by_cases j:e<M.length
  ·rw [c.old n,c.old j,g]
  ·have m:=c.forest.out e (by rw [c.lf];omega);have i:=c.rt_lt n;omega
 ·have m:=c.forest.out f (by rw [c.lf];omega);by_cases j:e<M.length
  ·have i:=c.rt_lt j;omega
  ·have i:=c.forest.out e (by rw [c.lf];omega);rw [m,i] at g;rw [g]
theorem iP.in(f:iP M a b F rt d S){g c:Nat}(j:g<M.length)(e:cX M (M++t.map λi=>(o,i)) rt g=cX M (M++t.map λi=>(o,i)) rt c)(m:(aG (M.map zy++t)).named c):c<M.length/\rt g=rt c:=by
 have n:=f.rt_lt j;rw [f.old j] at e;by_cases k:c<M.length
 ·exact ⟨k,by rw [f.old k] at e;exact e⟩
 ·rw [f.new (by omega) m] at e;omega
theorem iP.ends(e:iP M a b F rt d S){p:Nat}(s:cE (aG (M.map zy)) (λc j=>rt c=rt j) p):p<M.length->cE (aG (M.map zy++t)) (λc j=>cX M (M++t.map λn=>(o,n)) rt c=cX M (M++t.map λn=>(o,n)) rt j) p:=by
 induction s with
 |mk c _ ih=>
  intro m;refine ⟨_,λj q g x f=>?_⟩;obtain ⟨k,r⟩:=e.in m q g;have i:=tB k g;rw [tA e.whole (by simpa using k)] at f;exact ih j r i x f (aEj e.whole i f)
theorem iP.exp(f:iP M a b F rt d S){n:List Nat}{l:List Nd}(x:aW (aG (M.map zy)) (λc e=>rt c=rt e) rt n l):(∀c∈n,c<M.length)->aW (aG (M.map zy++t)) (λc e=>cX M (M++t.map λg=>(o,g)) rt c=cX M (M++t.map λg=>(o,g)) rt e) (cX M (M++t.map λg=>(o,g)) rt) n l:=by
 induction x with
 |nil=>intro _;exact aW.nil
 |@var c r l h1 _ ih=>
  intro i;have q:=i c (by simp);rw [<-f.old (t:=t) (o:=o) q];refine aW.var (λe u s=>?_) (ih λm hq=>i m (by simp [hq]));obtain ⟨j,k⟩:=f.in q u s;exact h1 e k (tB j s)
 |@name c e r l h1 h2 _ ih=>
  intro i;obtain ⟨j,k,v⟩:=rO (t:=t) h2;rw [<-v];refine aW.name (f.up h1) k ?_;rw [tA f.whole (by simpa using j)];refine ih λm hq=>?_
  rcases zq.1 hq with hq|hq
  ·exact aEj f.whole h2 hq
  ·exact i m (by simp [hq])
theorem iP.add(f:iP M a b F rt d S)(a4:aQ t 1=true):iP (M++t.map λc=>(o,c)) a b (F++iQ M o t t.length) (cX M (M++t.map λc=>(o,c)) rt) (dX M (M++t.map λc=>(o,c)) d) (S++zg t.length 0):=by
 have a0:eT (M.map zy++t):=f.whole.append (yU a4);have a3:(iQ M o t t.length).length=t.length:=by simp [iQ]
 have q:(M++t.map λc=>(o,c)).length=M.length+t.length:=by simp
 have J:∀p,M.length<=p->p<M.length+t.length->(F++iQ M o t t.length)[p]?=some (bI (M++t.map λc=>(o,c)) p):=by intro p n s;have:=uL (M:=M++t.map λc=>(o,c)) (p:=p) (by rw [q];exact s);rw [aKs,zw (by rw [mR];exact n),mR] at this;rw [zw (by rw [f.lf];exact n),f.lf];exact this
 have I:∀p,p<M.length->(F++iQ M o t t.length)[p]?=F[p]?:=λp i=>zx (by rw [f.lf];exact i)
 have x:(F++iQ M o t t.length).length=M.length+t.length:=by rw [zt,a3,f.lf]
 have a2:∀p,p<M.length+t.length->bI (M++t.map λc=>(o,c)) p<M.length+t.length:=λp i=>by
  have:=aB2 (M:=M++t.map λc=>(o,c)) (p:=p) (by rw [q];exact i);rwa [q] at this
 have U:∀p,dE (M++t.map λc=>(o,c)) a b p (cX M (M++t.map λc=>(o,c)) rt p):=by
  intro p;have n:dE (M++t.map λc=>(o,c)) a b p (bI (M++t.map λc=>(o,c)) p):=Cl.base (zs (aEi _ p).symm);by_cases g:bI (M++t.map λc=>(o,c)) p<M.length
  ·have s:dE M a b (bI (M++t.map λc=>(o,c)) p) (rt (bI (M++t.map λc=>(o,c)) p)):=(f.iff _ _).1 (f.forest.rt_rt _).symm;have e:cX M (M++t.map λc=>(o,c)) rt p=rt (bI (M++t.map λc=>(o,c)) p):=aI g;rw [e];exact n.trans (aEk f.whole s)
  ·have e:cX M (M++t.map λc=>(o,c)) rt p=bI (M++t.map λc=>(o,c)) p:=aH g;rw [e];exact n
 have Q:eA (aG (M.map zy++t)) (λk m=>cX M (M++t.map λc=>(o,c)) rt k=cX M (M++t.map λc=>(o,c)) rt m) λ_ _=>False:=by
  intro N O e C D;by_cases y:N<M.length
  ·obtain ⟨v,E⟩:=f.in y e D;obtain ⟨X,Y⟩:=f.cl N O E (tB y C) (tB v D);refine ⟨?_,λV p u i g=>?_⟩
   ·rw [(rO (t:=t) (tB y C)).2.2,(rO (t:=t) (tB v D)).2.2];exact X
   ·rw [tA f.whole (by simpa using y)] at i;rw [tA f.whole (by simpa using v)] at g;refine eJ.mono (λk m hij=>?_) (Y V p u i g);rcases hij with hij|hij
    ·exact eJ.base (zs (f.up hij))
    ·exact hij.elim
  ·have v:¬O<M.length:=λv=>y (f.in v e.symm C).1
   have G:=f.new (t:=t) (o:=o) (by omega) C;have H:=f.new (t:=t) (o:=o) (by omega) D;have:N=O:=by rw [<-G,<-H];exact e
   subst this;refine ⟨rfl,λV p u i g=>?_⟩;rw [i] at g;simp at g;subst g;exact eJ.refl _
 have a1:=Q.done (B:=λk m=>bI (M++t.map λc=>(o,c)) k=bI (M++t.map λc=>(o,c)) m\/(k=a/\m=b)) (rK _) (λk m e=>by
   have n:=U k;have s:=U m;unfold dE at n s;rw [pS] at n s;have E:cX M (M++t.map λc=>(o,c)) rt k=cX M (M++t.map λc=>(o,c)) rt m:=e;rw [E] at n;exact n.trans s.symm) (λk m e=>by
   rcases e with e|⟨rfl,rfl⟩
   ·show cX M (M++t.map λc=>(o,c)) rt k=cX M (M++t.map λc=>(o,c)) rt m;unfold cX;rw [e]
   ·show cX M (M++t.map λc=>(o,c)) rt k=cX M (M++t.map λc=>(o,c)) rt m;rw [f.old f.ha,f.old f.hb];exact (f.iff _ _).2 (Cl.base (zp ⟨rfl,rfl⟩)))
 refine ⟨by rw [pS];exact a0,by rw [x,q],by rw [zt,zh,f.ls,q],⟨?_,?_,?_,?_⟩,?_,by rw [pS];exact Q,?_,?_,?_,by rw [q];have:=f.ha;omega,by rw [q];have:=f.hb;omega⟩
 ·intro p u g;have i:=(zz.1 g).1;rw [x] at i ⊢;by_cases j:p<M.length
  ·rw [I p j] at g;have:=f.forest.lt p u g;rw [f.lf] at this;omega
  ·rw [J p (by omega) i] at g;simp at g;subst g;exact a2 p i
 ·intro p g;have i:=(zz.1 g).1;rw [x] at i;by_cases j:p<M.length
  ·rw [I p j] at g;rw [f.old j];exact f.forest.root p g
  ·rw [J p (by omega) i] at g;simp at g;unfold cX;rw [g,aH (by omega)]
 ·intro p u g T;have i:=(zz.1 g).1;rw [x] at i;by_cases j:p<M.length
  ·rw [I p j] at g;have r:=f.forest.lt p u g;rw [f.lf] at r;rw [f.old j,f.old r];unfold dX;rw [aI j,aI r];exact f.forest.step p u g T
  ·rw [J p (by omega) i] at g;simp at g;subst g;have P:=aEi (M++t.map λc=>(o,c)) p;refine ⟨by unfold cX;rw [P],?_⟩;unfold dX;rw [aH j,aH T];by_cases r:bI (M++t.map λc=>(o,c)) p<M.length
   ·rw [aI r,aI r];omega
   ·rw [aH r,aI P,aH r];omega
 ·intro p i;rw [x] at i;unfold cX;rw [pR (M:=M++t.map λc=>(o,c)) (by rw [q];exact i),aH (by omega)]
 ·rw [pS];intro p i;by_cases j:p<M.length
  ·rw [f.old j];exact (rO (t:=t) (f.named p (tB j i))).2.1
  ·rw [f.new (by omega) i];exact i
 ·intro k m;unfold dE;rw [pS];exact a1.1 k m
 ·rw [pS];intro p c z;by_cases j:p<S.length
  ·rw [zx j] at z;rw [f.ls] at j;rcases f.sz p c z with e|e|⟨G,l,H,Z⟩
   ·exact zs e
   ·exact zp (zs e)
   ·exact zp (zp ⟨f.ends G j,l,f.exp H (by simpa using j),Z⟩)
  ·rw [zw (by omega)] at z;have:=(zz.1 z).2;simp at this;exact zs this.symm
 ·intro W A;by_cases j:W<S.length
  ·rw [zx j] at A;exact f.none W A
  ·rw [zw (by omega)] at A;have:=(zz.1 A).2;simp at this
end
theorem aXy{d:Nat->Nat->Prop}(t:∀q,d q q):∀(c:List Nd) (b a:Nat),c=L.drop a->dZ c b->(∀g∈gW c b a,cE (aG L) d g)->∀p,a<=p->p<a+aO c b->cE (aG L) d p:=by
 intro c;induction c with
 |nil=>
  intro b a _ _ _ p s e;cases b<;>simp [aO] at e<;>omega
 |cons n r ih=>
  intro b a k i o p s e;cases b with
  |zero=>simp at e;omega
  |succ b=>
   have f:L[a]?=some n:=by have:=congrArg (λl=>l[0]?) k;simpa using this.symm
   have j:r=L.drop (a+1):=by have:=congrArg List.tail k;simpa using this
   have x:=(zz.1 f).1;have m:cE (aG L) d a:=o a (by rw [mM];simp);by_cases v:p=a
   ·subst v;exact m
   ·simp only [dZ] at i;simp only [aO] at e;refine ih (b+aX n) (a+1) j i (λg hxm=>?_) p (by omega) (by omega);rw [zj b,aWf] at hxm;rcases zq.1 hxm with hxm|hxm
    ·cases hv:aL n
     ·refine m.parts (t a) ((fL f).2 hv) ?_;rw [lU f,<-j];exact hxm
     ·rw [jK hv] at hxm;simp [gW] at hxm
    ·refine o g ?_;rw [mM];refine zf _ ?_;have u:aO (n::r) 1=1+aO r (aX n):=by simp [aO]
     rw [u,zj 1,List.drop_succ_cons,show a+(aO r (aX n)+1)=a+1+aO r (aX n) by omega];exact hxm
theorem aKt{a:Nat->Nat->Prop}(d:∀i,a i i)(e:eT L){i:Nat}(f:i<L.length)(c:cE (aG L) a i):∀p,i<=p->p<i+aO (L.drop i) 1->cE (aG L) a p:=
 aXy d _ 1 i rfl (e.one f) λg b=>by
  simp [gW] at b;subst b;exact c
def aU(rest:List (Int×Lt)):List Tg:=rest.flatMap λr=>r.2.2.map λn=>(r.1,n)
def cU:Nat->List (Int×Lt)->List Nat
 |_,[]=>[]
 |n,r::rs=>n::cU (n+r.2.2.length) rs
def bX(rest:List (Int×Lt))(ls:List (List Nd)):List Lt:=List.zipWith (λa l=>(a.2.1,l)) rest ls
def wL(a:List Tg)(b c:Nat):Prop:=kJ (aG (a.map zy)) (dE a b c)/\∀p,p<a.length->cE (aG (a.map zy)) (dE a b c) p
def eG(a:List Tg)(b c:Nat)(rest:List (Int×Lt))(e:List Lt)(g:Bool)(d:Int):Prop:=
 (¬wL (a++aU rest) b c/\e=[]/\g=false/\d=0)\/
 (wL (a++aU rest) b c/\∃(f:Nat->Nat) (ls:List (List Nd)),(∀p i,f p=f i↔dE (a++aU rest) b c p i)/\aP (λp l=>aW (aG ((a++aU rest).map zy)) (dE (a++aU rest) b c) f [p] l) (cU a.length rest) ls/\
  ((500<aR (aV (bX rest ls))/\e=[]/\g=false/\d=4)\/(aR (aV (bX rest ls))<=500/\e=aV (bX rest ls)/\g=true/\d=0)))
theorem aKu:∀(n:Nat) (a:List (Int×Lt)),(cU n a).length=a.length
 |_,[]=>rfl
 |n,r::rs=>by simp [cU,aKu _ rs]
theorem aXz{d:Gr}{e rd:Nat->Nat}{f:List Nat}(g:aW d R e f l):∃c,aW d R rd f c/\aP (fS λa b=>∃p,a=(e p:Int)/\b=(rd p:Int)) l c:=by
 induction g with
 |nil=>exact ⟨[],aW.nil,aP.nil⟩
 |@var i r l h1 _ ih=>
  obtain ⟨c,a,b⟩:=ih;exact ⟨_,aW.var h1 a,aP.cons (zs ⟨pG _,pG _,rfl,i,rfl,rfl⟩) b⟩
 |@name i j r l h1 h2 _ ih=>
  obtain ⟨c,a,b⟩:=ih;exact ⟨_,aW.name h1 h2 a,aP.cons (zp ⟨h2,rfl⟩) b⟩
theorem aKv{b:Int->Int->Prop}:∀(e:List (Int×Lt)) {c d:List (List Nd)},aP (λl f=>aP (fS b) l f) c d->aP (jM b) (bX e c) (bX e d)
 |[],_,_,_=>aP.nil
 |_::_,_,_,aP.nil=>aP.nil
 |_::rs,_,_,aP.cons a h=>aP.cons ⟨rfl,a⟩ (aKv rs h)
theorem aEl{e:List Tg}{n o:Nat}{b:List (Int×Lt)}{C D:List Lt}{d z:Bool}{g A:Int}(u:eG e n o b C d g)(i:eG e n o b D z A):C=D/\d=z/\g=A:=by
 rcases u with ⟨r,rfl,rfl,rfl⟩|⟨r,m,q,B,N,I⟩
 ·rcases i with ⟨_,rfl,rfl,rfl⟩|⟨v,_⟩
  ·exact ⟨rfl,rfl,rfl⟩
  ·exact absurd v r
 ·rcases i with ⟨v,_⟩|⟨_,f,j,y,O,x⟩
  ·exact absurd r v
  ·have J:kI (aG ((e++aU b).map zy)) (dE (e++aU b) n o):=Cl.isDown _ _;have M:mL λa d=>∃p,a=(m p:Int)/\d=(f p:Int):=by
    rintro a d V z ⟨p,rfl,rfl⟩ ⟨t,rfl,rfl⟩;constructor
    ·intro g;have:f p=f t:=(y _ _).2 ((B p t).1 (by omega));omega
    ·intro g;have:m p=m t:=(B _ _).2 ((y p t).1 (by omega));omega
   have P:aP (λl s=>aP (fS λa d=>∃p,a=(m p:Int)/\d=(f p:Int)) l s) q j:=by
    have U:∀{a:List Nat} {q j:List (List Nd)},aP (λp l=>aW (aG ((e++aU b).map zy)) (dE (e++aU b) n o) m [p] l) a q->aP (λp l=>aW (aG ((e++aU b).map zy)) (dE (e++aU b) n o) f [p] l) a j->aP (λl s=>aP (fS λa d=>∃p,a=(m p:Int)/\d=(f p:Int)) l s) q j:=by
     intro a q j u;induction u generalizing j with
     |nil=>intro i;cases i;exact aP.nil
     |cons c _ ih=>
      intro i;cases i with
      |cons c' k=>
       refine aP.cons ?_ (ih k);obtain ⟨s,G,H⟩:=aXz (rd:=f) c;have:=aW.one J r.1 (vY _) (λS T g=>(y S T).2 g) G _ c';subst this;exact H
    exact U N O
   have Q:=aDp M (aKv b P);rw [<-Q] at x;rcases I with ⟨E,rfl,rfl,rfl⟩|⟨E,rfl,rfl,rfl⟩
   ·rcases x with ⟨_,rfl,rfl,rfl⟩|⟨F,_⟩
    ·exact ⟨rfl,rfl,rfl⟩
    ·omega
   ·rcases x with ⟨F,_⟩|⟨_,rfl,rfl,rfl⟩
    ·omega
    ·exact ⟨rfl,rfl,rfl⟩
section
variable {M:List Tg}{o:Int}{t:List Nd}{a b:Nat}{F:List Nat}{rt d:Nat->Nat}{S:List Int}
theorem iP.endsAll(g:iP M a b F rt d S)(J:aQ t 1=true)(u:∀p,p<M.length->cE (aG (M.map zy)) (λr c=>rt r=rt c) p):∀(k p:Nat),p+k=M.length+t.length->cE (aG (M.map zy++t)) (λr c=>cX M (M++t.map λe=>(o,e)) rt r=cX M (M++t.map λe=>(o,e)) rt c) p:=by
 have D:eT (M.map zy++t):=g.whole.append (yU J);intro k;induction k using Nat.strongRecOn with
 |_ k ih=>
  intro p P;by_cases A:p<M.length
  ·exact g.ends (u p A) A
  ·refine ⟨_,λc E q m j=>?_⟩;have f:cX M (M++t.map λe=>(o,e)) rt p=cX M (M++t.map λe=>(o,e)) rt c:=E;by_cases x:c<M.length
   ·have H:=tB x q;rw [tA g.whole (by simpa using x)] at j;have B:=aEj g.whole H j;exact g.ends (u m B) B
   ·rw [g.new (by omega) q] at f;obtain ⟨Q,i,v⟩:=nJ q;have G:c=p:=by
     unfold cX at f;split at f
     ·rename_i I;have:=g.rt_lt I;omega
     ·rw [<-pS M o t,zo] at i;obtain ⟨U,N,rfl⟩:=zn.1 i;cases hm:(M++t.map λe=>(o,e))[p]? with
      |none=>rw [pR (by simpa using (List.getElem?_eq_none_iff.1 hm))] at f;exact f.symm
      |some z=>
       cases hv:aL z.2 with
       |false=>rw [lE hm hv] at f;exact f.symm
       |true=>
        obtain ⟨_,_,T,n,C,_⟩:=kA hm hv;rw [f,N] at n;simp at n;subst n;rw [C] at v;cases v
    subst G;rw [lU i] at j;have O:=aDt _ _ _ (D c _ i) m j;have y:c<(M.map zy++t).length:=(zz.1 i).1;have s:aO ((M.map zy++t).drop c) 1<=((M.map zy++t).drop c).length:=sU _ _;rw [zu y,(zz.1 i).2] at s;simp [aO] at s;simp at y;exact ih (M.length+t.length-m) (by omega) m (by omega)
end
abbrev aN(o:Int)(b:List Nd):List Tg:=b.map λa=>(o,a)
theorem aB3(o:Int)(a:List Nd):(aN o a).map zy=a:=by unfold aN;rw [List.map_map];exact List.map_id _
structure lF(B tb mp:Nat)(M:List Tg)(w:World):Prop where
 tm:∃vn ve vl vs,cK w B tb vn ve vl vs (.map (some mp)) (M.map zy) (eN (M.map zy)) (rN M) (zg M.length 0)
 first:gG w mp M
 whole:eT (M.map zy)
 big:B<=w.heap.size
 ne:mp≠tb
 mlow:B<=mp
theorem lF.new{i:World}{c b:Nat}{f d e g:Value}(a:aFe w c b f d e g i):lF w.heap.size c b [] i:=
 ⟨⟨f,d,e,g,a.tm⟩,a.first,λk m j=>by simp at j,a.low.size,a.ne,a.mlow⟩
theorem aB4{e i j:Nat}{a:List Tg}(b:lF e i j a w)(d:Int)(f:Option Addr)(m:Nat)(c:List Nd)(x:dV w f c)(r:aQ c 1=true)(v:∀p,f=some p->p.block<e)(u:a.length+c.length<=1000000)(y : -1000<=d/\d<=1000):Calls Tryz.prog 105 #[.pointer (some ⟨i,0,none⟩),.int .i64 d,.slice f c.length m] w λn k=>n=.returned (.int .i64 a.length)/\lF e i j (a++aN d c) k/\Below e w k:=by
 obtain ⟨E,A,C,G,z⟩:=b.tm;have g:(a.map zy).length=a.length:=by simp
 refine (aMc e i j E A C G (a.map zy) (rN a) (zg a.length 0) a d f m c w z rfl b.whole b.first (by rw [mR,g]) (by rw [zh,g]) b.big b.ne b.mlow r x v (by rw [g];exact u) y).mono ?_;rintro n k ⟨F,B,D,H,rfl,s,t,o,_⟩;have q:(a++aN d c).map zy=a.map zy++c:=by rw [List.map_append,aB3]
 refine ⟨by rw [g],⟨⟨F,B,D,H,?_⟩,t,by rw [q];exact b.whole.append (yU r),Nat.le_trans b.big o.low.size,b.ne,b.mlow⟩,o.low⟩;rw [q,aKs,zt,List.replicate_append_replicate.symm];simpa using s
theorem aY0(m:eT L){j:Nat->Nat->Prop}{g:Nat->Nat}{i:List Nat}{l:List Nd}(k:aW (aG L) j g i l)(e:∀b∈i,b<L.length):∀a∈l,(aL a=true/\∃b,b<L.length/\a=(⟨#[]⟩,(g b:Int)))\/(aL a=false/\a∈L):=by
 induction k with
 |nil=>intro a hn;simp at hn
 |@var b r l h1 _ ih=>
  intro a hn;rcases zr.1 hn with rfl|hn
  ·exact zs ⟨pG _,b,e b (by simp),rfl⟩
  ·exact ih (λd n=>e d (by simp [n])) a hn
 |@name b d r l h1 h2 _ ih=>
  intro a hn;obtain ⟨t,c,q⟩:=nJ h2;have o:=(zz.1 c).1;rcases zr.1 hn with rfl|hn
  ·right;rw [pI c];exact ⟨q,ze c⟩
  ·refine ih (λp hp=>?_) a hn;rcases zq.1 hp with hp|hp
   ·rw [lU c] at hp;have s:=(aDt _ _ _ (m d _ c) p hp).2;have f:aO (L.drop d) 1<=(L.drop d).length:=sU _ _;rw [zu o,(zz.1 c).2] at f;simp [aO] at f;omega
   ·exact e p (by simp [hp])
theorem yP{b:Option Addr}(c:dV w b l)(g:aQ l 1=true):∀p,b=some p->p.block<w.heap.size:=by
 intro p f;have d:0<l.length:=by
  cases l with
  |nil=>simp [aQ] at g
  |cons=>simp
 obtain ⟨i,j,a,e,_⟩:=c.cell 0 d;rw [f] at a;simp at a;rw [a];exact World.block_lt_of_cell? w _ e
theorem aB5(a:Int×Lt)(b:List (Int×Lt)):aU (a::b)=(a.2.2.map λc=>(a.1,c))++aU b:=by simp [aU]
theorem aKw(b:List Tg)(a:Int×Lt)(c:List (Int×Lt)):b++aU (a::c)=(b++a.2.2.map λd=>(a.1,d))++aU c:=by rw [aB5,zb]
def pT(b:List Tg)(i j:Nat)(e:List Nat)(m:List (List Nd)):Prop:=
 ∃f a k g,iP b i j f a k g/\(∀p,p<b.length->cE (aG (b.map zy)) (λc d=>a c=a d) p)/\aP (λp l=>aW (aG (b.map zy)) (λc d=>a c=a d) a [p] l) e m/\∀p∈e,p<b.length
section
variable {M:List Tg}{a b:Nat}{ps:List Nat}{ls:List (List Nd)}
theorem pT.more(j:pT M a b ps ls)(o:Int){d:List Nd}(k:aQ d 1=true):∃l,pT (M++d.map λe=>(o,e)) a b (ps++[M.length]) (ls++[l]):=by
 obtain ⟨A,f,B,S,m,t,v,r⟩:=j;have s:=pS M o d;have y:0<d.length:=by
  cases d with
  |nil=>simp [aQ] at k
  |cons=>simp
 have n:∀p,p<M.length+d.length->cE (aG (M.map zy++d)) (λg i=>cX M (M++d.map λe=>(o,e)) f g=cX M (M++d.map λe=>(o,e)) f i) p:=λp hp=>m.endsAll (o:=o) k t (M.length+d.length-p) p (by omega)
 obtain ⟨l,u⟩:=(n M.length (by omega)).exp (rep:=cX M (M++d.map λe=>(o,e)) f);refine ⟨l,_,_,_,_,m.add (o:=o) k,λp hp=>by rw [s];exact n p (by simpa using hp),?_,λp hp=>?_⟩
 ·rw [s];have z:∀{ps:List Nat} {ls:List (List Nd)},aP (λp l=>aW (aG (M.map zy)) (λg i=>f g=f i) f [p] l) ps ls->(∀p∈ps,p<M.length)->aP (λp l=>aW (aG (M.map zy++d)) (λg i=>cX M (M++d.map λe=>(o,e)) f g=cX M (M++d.map λe=>(o,e)) f i) (cX M (M++d.map λe=>(o,e)) f) [p] l) ps ls:=by
   intro ps ls j;induction j with
   |nil=>intro _;exact aP.nil
   |cons c _ ih=>
    intro hp;exact aP.cons (m.exp (o:=o) c (λg q=>by simp at q;subst q;exact hp _ (by simp))) (ih λp x=>hp p (by simp [x]))
  exact (z v r).snoc u
 ·rcases zq.1 hp with hp|hp
  ·have:=r p hp;simp;omega
  ·simp at hp;subst hp;simp;exact y
theorem pT.all:∀(e:List (Int×Lt)) {M:List Tg} {ps:List Nat} {ls:List (List Nd)},pT M a b ps ls->(∀c∈e,aQ c.2.2 1=true)->∃d,pT (M++aU e) a b (ps++cU M.length e) (ls++d):=by
 intro e;induction e with
 |nil=>
  intro M ps ls f _;exact ⟨[],by simpa [aU,cU] using f⟩
 |cons c rs ih=>
  intro M ps ls f g;obtain ⟨l,k⟩:=f.more c.1 (g c (by simp));obtain ⟨d,m⟩:=ih k (λq n=>g q (by simp [n]));refine ⟨l::d,?_⟩;rw [aKw];have i:ps++cU M.length (c::rs)=ps++[M.length]++cU (M++c.2.2.map λo=>(c.1,o)).length rs:=by simp [cU]
  have j:ls++l::d=ls++[l]++d:=by simp
  rw [i,j];exact m
end
theorem aY1:∀(f:List (Int×Lt)) {a:List Tg} {b c:Nat},(∀e∈f,aQ e.2.2 1=true)->eT (a.map zy)->wL (a++aU f) b c->kJ (aG (a.map zy)) (dE a b c)/\∀p,p<a.length->cE (aG (a.map zy)) (dE a b c) p:=by
 intro f;induction f with
 |nil=>
  intro a b c _ _ d;simp only [aU,List.flatMap_nil,List.append_nil] at d;exact d
 |cons e rs ih=>
  intro a b c m g d;rw [aKw] at d;have k:=pS a e.1 e.2.2;obtain ⟨i,j⟩:=ih (λo n=>m o (by simp [n])) (by rw [k];exact g.append (yU (m e (by simp)))) d;rw [k] at i j;exact ⟨aXx g i,λp q=>aXw g (j p (by simp;omega))⟩
theorem aEm{b:List Lt}{a:Lt}(h:a∈b):a∈bT b:=by
 suffices ∀(b:List Lt) (c:List Lt) (a:Lt),a∈c\/a∈b->a∈b.foldl eF c from this b [] a (zp h)
 intro b;induction b with
 |nil=>intro c a h;simpa using h
 |cons y r ih=>
  intro c a h;simp only [zi];refine ih _ _ ?_;have f:∀e,e∈c\/e=y->e∈eF c y:=by
   intro e d;unfold eF;split
   ·rename_i g;rcases d with d|rfl
    ·exact d
    ·exact (xM _ _).1 g
   ·simpa using d
  rcases h with h|h
  ·exact zs (f a (zs h))
  ·rcases zr.1 h with rfl|h
   ·exact zs (f a (zp rfl))
   ·exact zp h
theorem aY2(a:List Lt):aR (cW a).1=aR a:=by
 suffices ∀(a:List Lt) (b:List Lt×List Int),aR (a.foldl dK b).1=aR b.1+aR a by
  have:=this a ([],[]);simpa [cW,aR] using this
 intro a;induction a with
 |nil=>intro b;simp [aR]
 |cons x r ih=>
  intro b;simp only [zi];rw [ih];have c:(dW x.2 b.2).1.length=x.2.length:=(xK x.2 b.2).1;simp only [dK,qY,c];have d:aR (x::r)=x.2.length+aR r:=by simp [aR]
  omega
theorem aY3{a:List Lt}{b:Lt}(c:b∈a)(d:500<b.2.length):500<aR (aV a):=by unfold aV;rw [aY2];have:=uZ (bT a) b (aEm c);omega
theorem aKx:∀(c:List (Int×Lt)) (a:List (List Nd)),c.length=a.length->∀l∈a,∃b,(b,l)∈bX c a
 |[],[],_,l,hl=>by simp at hl
 |r::rs,m::ms,h,l,hl=>by
  rcases zr.1 hl with rfl|hl
  ·exact ⟨r.2.1,by simp [bX]⟩
  ·obtain ⟨b,d⟩:=aKx rs ms (by simpa using h) l hl;exact ⟨b,by simp only [bX,List.zipWith_cons_cons];exact zf _ d⟩
theorem pT.out{b:List Tg}{c d:Nat}{rest:List (Int×Lt)}{ls:List (List Nd)}(o:pT (b++aU rest) c d (cU b.length rest) ls):(500<aR (aV (bX rest ls))->eG b c d rest [] false 4)/\(aR (aV (bX rest ls))<=500->eG b c d rest (aV (bX rest ls)) true 0):=by
 obtain ⟨r,g,s,S,f,m,k,t⟩:=o;have q:(λa j=>g a=g j)=dE (b++aU rest) c d:=by
  funext a j
  exact propext (f.iff a j)
 rw [q] at m k;have n:wL (b++aU rest) c d:=by refine ⟨?_,m⟩;have:=f.cl.done (B:=λa j=>bI (b++aU rest) a=bI (b++aU rest) j\/(a=c/\j=d)) (rK g) (λa j e=>(f.iff a j).1 e) (λa j e=>(f.iff a j).2 (Cl.base e));exact this.2
 exact ⟨λi=>zp ⟨n,g,ls,f.iff,k,zs ⟨i,rfl,rfl,rfl⟩⟩,λi=>zp ⟨n,g,ls,f.iff,k,zp ⟨i,rfl,rfl,rfl⟩⟩⟩
theorem aY4(a:Int->List Nd)(b c:List Nd):subst a (b++c)=subst a b++subst a c:=by simp [subst]
theorem aY5{a:Nd}(d:aL a=true):a=(⟨#[]⟩,a.2):=by
 obtain ⟨b,e⟩:=a;have:b.toList=[]:=by simpa [aL] using d
 have c:b=⟨#[]⟩:=by rw [ByteArray.toList_eq] at this;obtain ⟨f⟩:=b;simp at this;subst this;rfl
 rw [c]
theorem aY6(l:List Nd):subst (λa=>[(⟨#[]⟩,a)]) l=l:=by
 induction l with
 |nil=>rfl
 |cons n r ih=>
  rw [nH,ih];cases hv:aL n with
  |false=>rfl
  |true=>simp only [if_true];rw [<-aY5 hv];rfl
def lW(l:List Nd)(a:Nat):Prop:=dZ l a/\aO l a=l.length
theorem aKy{a:Nat}(b:aQ l a=true):lW l a:=⟨aJt l a b,by have:=xY l a [] b;simpa using this⟩
theorem aKz{a b:List Nd}{c g:Nat}(d:lW a c)(f:lW b g):lW (a++b) (c+g):=by
 have e:aO (a++b) c=a.length:=by rw [aDu a b c d.1,d.2]
 refine ⟨(vX _ _ _).2 ⟨aJu a b c d.1,?_⟩,?_⟩
 ·rw [e,List.drop_left];exact f.1
 ·rw [uE,e,List.drop_left,f.2,zt]
theorem aY7{j:Int->List Nd}:∀(l:List Nd) (a:Nat),(∀b∈l,aL b=true->lW (j b.2) 1)->lW l a->lW (subst j l) a:=by
 intro l;induction l with
 |nil=>intro a _ c;exact c
 |cons b r ih=>
  intro a f c;cases a with
  |zero=>have:=c.2;simp at this
  |succ a=>
   have e:lW r (a+aX b):=⟨by have:=c.1;simpa [dZ] using this,by have:=c.2;simp [aO] at this;omega⟩;rw [nH];cases hv:aL b with
   |true=>
    rw [jK hv,za] at e;have:=aKz (f b (by simp) hv) (ih a (λg d=>f g (by simp [d])) e);rw [zj] at this;simpa using this
   |false=>
    have i:=ih (a+aX b) (λg d=>f g (by simp [d])) e;refine ⟨by simpa [dZ] using i.1,?_⟩;have:=i.2;simp [aO];omega
theorem aEn:∀(l:List Nd) (a:Nat),lW l a->(∀c∈l,cZ c=true)->aQ l a=true:=by
 intro l;induction l with
 |nil=>
  intro a b _;cases a with
  |zero=>rfl
  |succ a=>exact absurd b.1 (by simp [dZ])
 |cons c r ih=>
  intro a b d;cases a with
  |zero=>have:=b.2;simp at this
  |succ a=>
   rw [mI,d c (by simp),Bool.true_and];exact ih _ ⟨by have:=b.1;simpa [dZ] using this,by have:=b.2;simp [aO] at this;omega⟩ λf e=>d f (by simp [e])
theorem aL0{f:Nat->Nat}{g:List Nat}(k:aW (aG L) R f g l):lW l g.length/\∀a∈l,aL a=false->a∈L:=by
 induction k with
 |nil=>exact ⟨⟨by simp,by simp⟩,by simp⟩
 |@var i r l _ _ ih=>
  have d:=jK (pG (f i:Int));refine ⟨⟨?_,?_⟩,?_⟩
  ·simp only [zl,dZ,d,za];exact ih.1.1
  ·have:=ih.1.2;simp only [zl,aO,d,za];omega
  ·intro a hn b;rcases zr.1 hn with rfl|hn
   ·rw [pG] at b;cases b
   ·exact ih.2 a hn b
 |@name i j r l _ h2 _ ih=>
  obtain ⟨a,c,s⟩:=nJ h2;have m:((aG L).ch j).length=aX a:=by rw [lU c,yE]
  obtain ⟨⟨e,n⟩,o⟩:=ih;rw [zt,m,zj] at e n;rw [pI c];refine ⟨⟨?_,?_⟩,?_⟩
  ·simp only [zl,dZ];exact e
  ·simp only [zl,aO];omega
  ·intro q hm b;rcases zr.1 hm with rfl|hm
   ·exact ze c
   ·exact o q hm b
def eX(d:List Int)(b c:Int):Prop:=∃a:Nat,d[a]?=some b/\c=(a:Int)
theorem aL1(a:List Int)(b:Int):(eS a b<0->b∉a)/\(0<=eS a b->eX a b (eS a b)):=by
 unfold eS eX;rw [<-zd a];generalize a.reverse=r;rw [zd];induction r with
 |nil=>simp [sE]
 |cons y r ih=>
  simp only [sE];by_cases c:y=b
  ·subst c;rw [aI rfl];refine ⟨λc=>by omega,λ_=>⟨r.length,?_,rfl⟩⟩;rw [zk,zw (by simp)];simp
  ·rw [aH c];refine ⟨λd h2=>?_,λd=>?_⟩
   ·rw [zk] at h2;rcases zq.1 h2 with h2|h2
    ·exact ih.1 d h2
    ·simp at h2;exact c h2.symm
   ·obtain ⟨f,e,g⟩:=ih.2 d;refine ⟨f,?_,g⟩;rw [zk,zx (zz.1 e).1];exact e
theorem aL2{c d:Int->Int->Prop}(j:∀a b,c a b->d a b){f e:Nd}(k:fS c f e):fS d f e:=by
 rcases k with ⟨a,b,g,i⟩|k
 ·exact zs ⟨a,b,g,j _ _ i⟩
 ·exact zp k
theorem aY8:∀(l:List Nd) (p:List Nd) (a:List Nd×List Int),a.2.Nodup->aP (fS (eX a.2)) p a.1->(l.foldl cI a).2.Nodup/\aP (fS (eX (l.foldl cI a).2)) (p++l) (l.foldl cI a).1:=by
 intro l;induction l with
 |nil=>intro p a d e;simpa using ⟨d,e⟩
 |cons n l ih=>
  intro p a d e;rw [zi];have k:(cI a n).2.Nodup/\aP (fS (eX (cI a n).2)) (p++[n]) (cI a n).1:=by
   unfold cI;cases hv:aL n with
   |false=>exact ⟨d,e.snoc (zp ⟨hv,rfl⟩)⟩
   |true=>
    simp only [if_true];by_cases f:eS a.2 n.2<0
    ·rw [aI f];have q:=(aL1 a.2 n.2).1 f;refine ⟨?_,?_⟩
     ·rw [List.nodup_append];exact ⟨d,by simp,λb o c i=>by simp at i;subst i;exact λm=>q (m▸o)⟩
     ·have r:∀b c,eX a.2 b c->eX (a.2++[n.2]) b c:=by
       rintro b c ⟨g,j,s⟩;exact ⟨g,by rw [zx (zz.1 j).1];exact j,s⟩
      refine aP.snoc (e.mono λb c g=>aL2 r g) (zs ⟨hv,hv,rfl,a.2.length,?_,rfl⟩);rw [zw (Nat.le_refl _)];simp
    ·rw [aH f];exact ⟨d,e.snoc (zs ⟨hv,hv,rfl,(aL1 a.2 n.2).2 (by omega)⟩)⟩
  have:=ih (p++[n]) (cI a n) k.1 k.2;rwa [zb,List.singleton_append] at this
theorem eX.pairs{b:List Int}(c:b.Nodup):mL (eX b):=by
 rintro i k j m ⟨d,f,rfl⟩ ⟨e,g,rfl⟩;obtain ⟨n,rfl⟩:=zz.1 f;obtain ⟨o,rfl⟩:=zz.1 g;constructor
 ·intro a;have:=(List.getElem_inj c).1 a;omega
 ·intro a;have:d=e:=by omega
  subst this;rfl
theorem aY9(a b:Int->List Nd)(l:List Nd):subst b (subst a l)=subst (λc=>subst b (a c)) l:=by
 induction l with
 |nil=>rfl
 |cons n r ih=>
  rw [nH,nH,aY4,ih];cases hv:aL n with
  |true=>simp
  |false=>simp [subst,hv]
