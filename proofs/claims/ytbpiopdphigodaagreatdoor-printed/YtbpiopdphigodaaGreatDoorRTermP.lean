import Derived.Test.YtbpiopdphigodaaGreatDoorBase0P
open Bool renaming and_eq_true→zu
open List renaming foldl_cons→zz,drop_eq_getElem_cons→zy,mem_cons_of_mem→zt,mem_map→zs,take_succ_eq_append_getElem→zp,foldl_append→zo,take_append_drop→zn,mem_append→zl,nodup_append→zk,getElem_mem→zi,append_cancel_left→zh,map_append→zg,nil_append→zf,mem_append_left→zd,mem_iff_getElem→zc,lookup_append→zb,append_assoc→za,cons_append→z0,length_cons→z1
open Nat renaming le_refl→zm
open Or renaming inl→ze,inr→z2
open Prod renaming fst→zw
namespace Go.Proofs.YtbpiopdphigodaaGreatDoor
open Value renaming ownBlock→zv
open World renaming cell?_setCell_other→zx,cell?_setCell_same→zr,block_lt_of_cell?→zq
open Go.RowKit
set_option maxRecDepth 100000
variable{x:Int}{c d:List Lt}{b l r t:List Nd}{xs:List Value}{B g k:Nat}{n:Nd}{a:Option Addr}{dv v:Value}{w w':World}
def aL:List Nd->Nat->Nat
 |_,0=>0
 |[],_+1=>0
 |n::r,q+1=>1+aL r (q+aX n)
@[simp] theorem bAd(l:List Nd):aL l 0=0:=by cases l<;>rfl
theorem mQ(n:Nd)(r:List Nd)(e:Nat):aN (n::r) (e+1)=(dE n && aN r (e+aX n)):=by simp only [aN];cases dE n<;>simp
theorem aCa(l:List Nd):∀e i,aN l (e+i)=true->aN (l.take (aL l e)) e=true/\aN (l.drop (aL l e)) i=true:=by
 induction l with
 |nil=>
  intro e i f;cases e with
  |zero=>simpa [aN] using f
  |succ e=>simp [aN] at f
 |cons n r ih=>
  intro e i f;cases e with
  |zero=>simpa [aN] using f
  |succ e=>
   rw [show e+1+i=(e+i)+1 by omega,mQ,zu] at f;have:=ih (e+aX n) i (by rw [<-f.2];congr 1;omega);simp only [aL,Nat.add_comm 1,List.take_succ_cons,List.drop_succ_cons];exact ⟨by rw [mQ,f.1,this.1];rfl,this.2⟩
theorem yU(t:List Nd):∀f i,aN t f=true->aL (t++i) f=t.length:=by
 induction t with
 |nil=>intro f i e;simp [aN] at e;subst e;simp
 |cons n r ih=>
  intro f i e;cases f with
  |zero=>simp [aN] at e
  |succ f=>
   rw [mQ,zu] at e;simp [aL,ih _ i e.2];omega
theorem rS(l:List Nd):∀e,aL l e<=l.length:=by
 induction l with
 |nil=>intro e;cases e<;>simp [aL]
 |cons n r ih=>intro e;cases e with
  |zero=>simp
  |succ e=>have:=ih (e+aX n);simp [aL];omega
theorem aTh(l:List Nd)(f:Nat)(e:l≠[]):0<aL l (f+1):=by
 cases l with
 |nil=>exact absurd rfl e
 |cons n r=>simp [aL];omega
theorem aTi{q:Nat}(e:aN l (q+1)=true):l≠[]:=by rintro rfl;simp [aN] at e
abbrev bD:=List (Int×List Nd)
def look(e:bD)(x:Int):Option (List Nd):=e.lookup x
theorem wA(i:bD)(x e:Int)(t:List Nd):look (i++[(x,t)]) e=(look i e).or (if e=x then some t else none):=by
 unfold look;rw [zb];simp [List.lookup];by_cases f:e=x
 ·simp [f]
 ·rw [show (e==x)=false by simpa using f];simp [f]
theorem wB(f i:bD)(e:Int):look (f++i) e=(look f e).or (look i e):=by unfold look;rw [zb]
def subst(e:Int->List Nd)(l:List Nd):List Nd:=l.flatMap λn=>if aM n then e n.2 else [n]
theorem rT(e:Int->List Nd)(n:Nd)(r:List Nd):subst e (n::r)=(if aM n then e n.2 else [n])++subst e r:=by simp [subst]
def Tm(e:Int->List Nd):Prop:=∀x,aN (e x) 1=true
def jB(f:Int->List Nd)(e:bD):Prop:=∀x t,look e x=some t->f x=t
theorem jB.snoc{j:Int->List Nd}{i:bD}(q:look i x=none):jB j (i++[(x,t)])↔jB j i/\j x=t:=by
 constructor
 ·intro k;refine ⟨λf o e=>k f o (by rw [wA,e];rfl),k x t (by rw [wA,q];simp)⟩
 ·rintro ⟨k,p⟩ f o e;rw [wA] at e;cases hl:look i f with
  |some u=>rw [hl] at e;simp at e;rw [<-e];exact k f u hl
  |none=>
   rw [hl] at e;by_cases m:f=x
   ·subst m;simp at e;rw [<-e];exact p
   ·simp [m] at e
theorem jB.left{f:Int->List Nd}{e i:bD}(j:jB f (e++i)):jB f e:=λx t m=>j x t (by rw [wB,m];rfl)
def dG:List Nd->List Nd->bD->Option bD
 |[],[],L=>some L
 |[],_::_,_=>none
 |n::r,b,L=>
  if aM n then
   match look L n.2 with
   |some t=>if t=b.take (aL b 1) then dG r (b.drop (aL b 1)) L else none
   |none=>dG r (b.drop (aL b 1)) (L++[(n.2,b.take (aL b 1))])
  else match b with
   |[]=>none
   |m::b'=>if n=m then dG r b' L else none
theorem aCb{e:bD}(i:aM n=true)(f:look e n.2=some t):dG (n::r) b e=if t=b.take (aL b 1) then dG r (b.drop (aL b 1)) e else none:=by rw [dG.eq_def];simp [i,f]
theorem aCc{e:bD}(i:aM n=true)(f:look e n.2=none):dG (n::r) b e=dG r (b.drop (aL b 1)) (e++[(n.2,b.take (aL b 1))]):=by rw [dG.eq_def];simp [i,f]
theorem aCd{f:Nd}{e:bD}(i:aM n=false):dG (n::r) (f::b) e=if n=f then dG r b e else none:=by rw [dG.eq_def];simp [i]
theorem wC{e:Int->List Nd}(m:Tm e){n:Nd}{r b:List Nd}(j:aM n=true):subst e (n::r)=b↔e n.2=b.take (aL b 1)/\subst e r=b.drop (aL b 1):=by
 rw [rT,aG j];constructor
 ·rintro rfl;rw [yU _ _ _ (m n.2)];simp
 ·rintro ⟨f,i⟩;rw [f,i,zn]
theorem nL(e:aM n=true):aX n=0:=by simp [aX,e]
theorem aHy(a:List Nd):∀(b:List Nd) (o:Nat) (p:bD),aN a o=true->aN b o=true->
  (∀q,dG a b p=some q->∀e,Tm e->(jB e q↔jB e p/\subst e a=b))/\(dG a b p=none->∀e,Tm e->jB e p->subst e a≠b):=by
 induction a with
 |nil=>
  intro b o p y z;cases o with
  |succ o=>simp [aN] at y
  |zero=>
   cases b with
   |nil=>simp [dG,subst]
   |cons m b=>simp [aN] at z
 |cons n r ih=>
  intro b o p y z;cases o with
  |zero=>simp [aN] at y
  |succ o=>
   rw [mQ,zu] at y;by_cases s:aM n=true
   ·have J:=aCa b 1 o (by rw [<-z];congr 1;omega);have I:aN r o=true:=by simpa [nL s] using y.2
    cases hl:look p n.2 with
    |some t=>
     rw [aCb s hl];by_cases E:t=b.take (aL b 1)
     ·rw [aG E];obtain ⟨A,C⟩:=ih (b.drop (aL b 1)) o p I J.2;refine ⟨λq i e f=>?_,λi e f u j=>?_⟩
      ·rw [A q i e f,wC f s];constructor
       ·rintro ⟨D,G⟩;exact ⟨D,(D _ _ hl).trans E,G⟩
       ·rintro ⟨D,_,G⟩;exact ⟨D,G⟩
      ·exact C i e f u ((wC f s).1 j).2
     ·rw [aF E];refine ⟨λq i=>by simp at i,λ_ e f u j=>E ?_⟩;rw [<-u _ _ hl];exact ((wC f s).1 j).1
    |none=>
     rw [aCc s hl];obtain ⟨A,C⟩:=ih (b.drop (aL b 1)) o (p++[(n.2,b.take (aL b 1))]) I J.2;refine ⟨λq i e f=>?_,λi e f u j=>?_⟩
     ·rw [A q i e f,jB.snoc hl,wC f s,and_assoc]
     ·obtain ⟨L,M⟩:=(wC f s).1 j;exact C i e f ((jB.snoc hl).2 ⟨u,L⟩) M
   ·have F:aM n=false:=by simpa using s
    cases b with
    |nil=>simp [aN] at z
    |cons m b=>
     rw [mQ,zu] at z;rw [aCd F];by_cases H:n=m
     ·subst H;rw [aG rfl];obtain ⟨A,C⟩:=ih b (o+aX n) p y.2 z.2;refine ⟨λq i e f=>?_,λi e f u j=>?_⟩
      ·rw [A q i e f,rT,F];simp
      ·rw [rT,F] at j;simp at j;exact C i e f u j
     ·rw [aF H];refine ⟨λq i=>by simp at i,λ_ e f u j=>?_⟩;rw [rT,F] at j;simp at j;exact H j.1
def aCe(x:Int)(a:List Nd):Prop:=∃n∈a,aM n=true/\n.2=x
theorem aTj(a:List Nd):∀(b:List Nd) (i:Nat) (j q:bD),aN a i=true->aN b i=true->dG a b j=some q->
  ∃m,q=j++m/\∀f∈m,aCe f.1 a/\look j f.1=none:=by
 induction a with
 |nil=>
  intro b i j q _ _ e;cases b with
  |nil=>simp [dG] at e;exact ⟨[],by simp [e],by simp⟩
  |cons p b=>simp [dG] at e
 |cons n r ih=>
  intro b i j q C D e;cases i with
  |zero=>simp [aN] at C
  |succ i=>
   rw [mQ,zu] at C;by_cases y:aM n=true
   ·have G:=aCa b 1 i (by rw [<-D];congr 1;omega);have F:aN r i=true:=by simpa [nL y] using C.2
    cases hl:look j n.2 with
    |some t=>
     rw [aCb y hl] at e;by_cases H:t=b.take (aL b 1)
     ·rw [aG H] at e;obtain ⟨m,s,o⟩:=ih _ i j q F G.2 e;exact ⟨m,s,λf hp=>⟨by obtain ⟨p,z,A⟩:=(o f hp).1;exact ⟨p,zt _ z,A⟩,(o f hp).2⟩⟩
     ·rw [aF H] at e;simp at e
    |none=>
     rw [aCc y hl] at e;obtain ⟨m,s,o⟩:=ih _ i _ q F G.2 e;refine ⟨(n.2,b.take (aL b 1))::m,by rw [s];simp,λf hp=>?_⟩;rcases List.mem_cons.1 hp with rfl|hp
     ·exact ⟨⟨n,by simp,y,rfl⟩,hl⟩
     ·refine ⟨by obtain ⟨p,z,A⟩:=(o f hp).1;exact ⟨p,zt _ z,A⟩,?_⟩;have:=(o f hp).2;rw [wA] at this;cases hh:look j f.1 with
      |none=>rfl
      |some u=>rw [hh] at this;simp at this
   ·have I:aM n=false:=by simpa using y
    cases b with
    |nil=>simp [aN] at D
    |cons p b=>
     rw [mQ,zu] at D;rw [aCd I] at e;by_cases E:n=p
     ·subst E;rw [aG rfl] at e;obtain ⟨m,s,o⟩:=ih _ _ j q C.2 D.2 e;exact ⟨m,s,λf hp=>⟨by obtain ⟨p,z,A⟩:=(o f hp).1;exact ⟨p,zt _ z,A⟩,(o f hp).2⟩⟩
     ·rw [aF E] at e;simp at e
def jL(d c:List Lt)(f:bD):Prop:=∃e,Tm e/\jB e f/\∀l∈c,(l.1,subst e l.2)∈d
def Tms(c:List Lt):Prop:=∀l∈c,aN l.2 1=true
def jM(x e:Lt)(f:bD):Option bD:=if x.1=e.1 then dG x.2 e.2 f else none
theorem aCf{x y:Lt}{i j:bD}(o:aN x.2 1=true)(p:aN y.2 1=true)(e:jM x y i=some j)(f:Int->List Nd)(q:Tm f):jB f j↔jB f i/\(x.1,subst f x.2)=y:=by
 unfold jM at e;by_cases m:x.1=y.1
 ·rw [aG m] at e;rw [(aHy x.2 y.2 1 i o p).1 j e f q,Prod.ext_iff];simp [m]
 ·rw [aF m] at e;simp at e
theorem aTl{x e:Lt}{i:bD}(q:aN x.2 1=true)(s:aN e.2 1=true)(m:jM x e i=none)(f:Int->List Nd)(u:Tm f)(p:jB f i):(x.1,subst f x.2)≠e:=by
 unfold jM at m;by_cases o:x.1=e.1
 ·rw [aG o] at m;intro j;exact (aHy x.2 e.2 1 i q s).2 m f u p (by rw [<-j])
 ·intro j;exact o (by rw [<-j])
theorem aTm{x y:Lt}{f i:bD}(p:aN x.2 1=true)(q:aN y.2 1=true)(e:jM x y f=some i):∃j,i=f++j/\∀o∈j,aCe o.1 x.2/\look f o.1=none:=by
 unfold jM at e;by_cases m:x.1=y.1
 ·rw [aG m] at e;exact aTj x.2 y.2 1 f i p q e
 ·rw [aF m] at e;simp at e
theorem aTn{A:List Lt}{s:bD}{x:Lt}(z:Tms d)(u:aN x.2 1=true)(q:∀l,l∈c↔l=x\/l∈A):jL d c s↔∃y∈d,∃i,jM x y s=some i/\jL d A i:=by
 constructor
 ·rintro ⟨e,f,o,j⟩;refine ⟨_,j x ((q x).2 (ze rfl)),?_⟩;have m:=z _ (j x ((q x).2 (ze rfl)));cases p:jM x (x.1,subst e x.2) s with
  |none=>exact absurd rfl (aTl u m p e f o)
  |some i=>exact ⟨i,rfl,e,f,(aCf u m p e f).2 ⟨o,rfl⟩,λl hl=>j l ((q l).2 (z2 hl))⟩
 ·rintro ⟨y,m,i,p,e,f,o,j⟩;obtain ⟨C,D⟩:=(aCf u (z y m) p e f).1 o;refine ⟨e,f,C,λl hl=>?_⟩;rcases (q l).1 hl with rfl|hl
  ·rw [D];exact m
  ·exact j l hl
def aCg(d c:List Lt)(f:bD):Prop:=∀e,Tm e->jB e f->∀l∈c,(l.1,subst e l.2)∈d
def kB(c:List Lt)(e j:bD):Prop:=∃f,j=e++f/\∀i∈f,(∃l∈c,aCe i.1 l.2)/\look e i.1=none
def aCh(e:bD)(g r:List Lt):Prop:=∀x∈g,∀f∈r,∀n∈x.2,aM n=true->look e n.2=none->n∉f.2
theorem aTo{i j:Int->List Nd}(f:∀n∈l,aM n=true->i n.2=j n.2):subst i l=subst j l:=by
 induction l with
 |nil=>rfl
 |cons n r ih=>
  rw [rT,rT,ih λo m=>f o (zt _ m)];by_cases e:aM n=true
  ·rw [aG e,aG e,f n (by simp) e]
  ·rw [aF e,aF e]
theorem aTp{e:Nd}(j:aM n=true)(i:aM e=true)(f:n.2=e.2):n=e:=by
 obtain ⟨o,x⟩:=n;obtain ⟨t,p⟩:=e;simp only at f;subst f;have m:o.toList=t.toList:=by simp [aM] at j i;rw [j,i]
 rw [xO.1 m]
theorem kB.refl(c:List Lt)(L:bD):kB c L L:=⟨[],by simp,by simp⟩
theorem kB.trans{c q f:List Lt}{L m o:bD}(z:kB c L m)(k:kB q m o)(A:∀l∈c,l∈f)(C:∀l∈q,l∈f):kB f L o:=by
 obtain ⟨s,rfl,D⟩:=z;obtain ⟨y,rfl,E⟩:=k;refine ⟨s++y,by simp,λp hp=>?_⟩;rcases zl.1 hp with hp|hp
 ·obtain ⟨⟨l,i,j⟩,e⟩:=D p hp;exact ⟨⟨l,A l i,j⟩,e⟩
 ·obtain ⟨⟨l,i,j⟩,e⟩:=E p hp;refine ⟨⟨l,C l i,j⟩,?_⟩;rw [wB] at e;cases hh:look L p.1 with
  |none=>rfl
  |some u=>rw [hh] at e;simp at e
theorem yV{i:bD}(e:look i x=some t):(x,t)∈i:=by
 unfold look at e;induction i with
 |nil=>simp at e
 |cons p r ih=>
  obtain ⟨j,m⟩:=p;rw [List.lookup_cons] at e;by_cases f:(x==j)=true
  ·rw [f] at e;simp at e f;subst f e;simp
  ·simp only [f] at e;exact zt _ (ih e)
theorem kB.ext{e f:bD}(j:kB c e f){i:Int->List Nd}(k:jB i f):jB i e:=by obtain ⟨m,rfl,_⟩:=j;exact k.left
theorem aTq{g r:List Lt}{i e:bD}(y:∀l,l∈c↔l∈g\/l∈r)(E:aCh i g r)(p:kB g i e)(D:∀x t,look e x=some t->aN t 1=true)(A:aCg d g e):jL d c i↔jL d r e:=by
 constructor
 ·rintro ⟨f,j,m,o⟩;refine ⟨λx=>(look e x).getD (f x),λx=>?_,λx t s=>by simp [s],λl hl=>?_⟩
  ·show aN ((look e x).getD (f x)) 1=true;cases hh:look e x with
   |none=>exact j x
   |some t=>exact D x t hh
  ·have:=o l ((y l).2 (z2 hl));rw [show subst (λx=>(look e x).getD (f x)) l.2=subst f l.2 from ?_]
   ·exact this
   ·refine aTo λn G I=>?_
    cases hh:look i n.2 with
    |some t=>
     obtain ⟨u,rfl,_⟩:=p;show (look (i++u) n.2).getD (f n.2)=f n.2;rw [wB,hh];simp only [Option.some_or,Option.getD_some];exact (m _ _ hh).symm
    |none=>
     cases hk:look e n.2 with
     |none=>simp only [Option.getD_none]
     |some t=>
      exfalso;obtain ⟨u,rfl,C⟩:=p;rw [wB,hh] at hk;obtain ⟨⟨x,s,J,F,z,q⟩,_⟩:=C _ (yV (by simpa using hk));simp only at q;have H:=aTp z I q;exact E x s l hl J F z (by rw [q];exact hh) (by rw [H];exact G)
 ·rintro ⟨f,j,m,o⟩;refine ⟨f,j,p.ext m,λl hl=>?_⟩;rcases (y l).1 hl with hl|hl
  ·exact A f j m l hl
  ·exact o l hl
theorem aTr{e:bD}(f:∀x t,look e x=some t->aN t 1=true):jL d [] e:=by
 refine ⟨λx=>(look e x).getD [(⟨#[]⟩,0)],λx=>?_,λx t j=>by simp [j],by simp⟩;show aN ((look e x).getD [(⟨#[]⟩,0)]) 1=true;cases hh:look e x with
 |none=>
  have i:(⟨#[]⟩ : ByteArray).toList=[]:=by rw [ByteArray.toList_eq]
  simp [aN,dE,aX,aM,i]
 |some t=>exact f x t hh
structure lZ(L:bD):Prop where
 keys:∀p∈L,0<=p.1/\p.1<60
 once:(L.map zw).Nodup
 terms:∀p∈L,aN p.2 1=true/\p.2.length<=60
theorem lZ.nil:lZ []:=⟨by simp,by simp,by simp⟩
theorem lZ.look{e:bD}(f:lZ e):∀x t,look e x=some t->aN t 1=true:=λ_ _ i=>(f.terms _ (yV i)).1
theorem aTs{e:bD}(f:look e x=none):x∉e.map zw:=by intro j;obtain ⟨m,i,rfl⟩:=zs.1 j;unfold Go.Proofs.YtbpiopdphigodaaGreatDoor.look at f;have:=List.lookup_eq_none_iff.1 f m i;simp at this
theorem lZ.snoc{e:bD}(f:lZ e)(s:Go.Proofs.YtbpiopdphigodaaGreatDoor.look e x=none)(m:0<=x)(o:x<60)(y:aN t 1=true)(u:t.length<=60):lZ (e++[(x,t)]):=by
 refine ⟨λp hp=>?_,?_,λp hp=>?_⟩
 ·rcases zl.1 hp with hp|hp
  ·exact f.keys p hp
  ·simp at hp;subst hp;exact ⟨m,o⟩
 ·rw [zg,zk];refine ⟨f.once,by simp,λa q b i j=>aTs s ?_⟩;simp at i;subst i j;exact q
 ·rcases zl.1 hp with hp|hp
  ·exact f.terms p hp
  ·simp at hp;subst hp;exact ⟨y,u⟩
theorem lZ.few{e:bD}(f:lZ e):e.length<=60:=by
 have i:∀x∈e.map zw,x∈(List.range 60).map (λn:Nat=>(n:Int)):=by intro x o;obtain ⟨p,m,rfl⟩:=zs.1 o;have:=f.keys p m;exact zs.2 ⟨p.1.toNat,by simp;omega,by omega⟩
 have j:=List.Nodup.length_le_of_subset f.once i;simpa using j
theorem lZ.left{j m:bD}(e:lZ (j++m)):lZ j:=
 ⟨λi f=>e.keys i (zd _ f),by have:=e.once;rw [zg,zk] at this;exact this.1,λi f=>e.terms i (zd _ f)⟩
theorem aHz(e:dE n=true)(f:aM n=true):0<=n.2/\n.2<60:=by simpa [dE,f] using e
theorem aTt(l:List Nd)(k e:Nat)(f:k<l.length):aL (l.drop k) (e+1)=1+aL (l.drop (k+1)) (e+aX l[k]):=by rw [zy f];rfl
theorem aCi(l:List Nd)(k e:Nat)(f:k<l.length):aN (l.drop k) (e+1)=(dE l[k] && aN (l.drop (k+1)) (e+aX l[k])):=by rw [zy f,mQ]
theorem aTu(b:List Nd)(f:Nat)(e:bD)(i:f=b.length):dG [] (b.drop f) e=some e:=by subst i;simp [dG]
theorem aTv(a b:List Nd)(k e:Nat)(f:bD)(t:List Nd)(i:k<a.length)(m:aM a[k]=true)(j:look f a[k].2=some t):dG (a.drop k) (b.drop e) f=if t=(b.drop e).take (aL (b.drop e) 1) then dG (a.drop (k+1)) (b.drop (e+aL (b.drop e) 1)) f else none:=by
 rw [zy i,aCb m j,List.drop_drop]
theorem aTw(a b:List Nd)(k e:Nat)(f:bD)(i:k<a.length)(m:aM a[k]=true)(j:look f a[k].2=none):dG (a.drop k) (b.drop e) f=dG (a.drop (k+1)) (b.drop (e+aL (b.drop e) 1)) (f++[(a[k].2,(b.drop e).take (aL (b.drop e) 1))]):=by
 rw [zy i,aCc m j,List.drop_drop]
theorem aTx(a b:List Nd)(k e:Nat)(f:bD)(j:k<a.length)(i:e<b.length)(m:aM a[k]=false):dG (a.drop k) (b.drop e) f=if a[k]=b[e] then dG (a.drop (k+1)) (b.drop (e+1)) f else none:=by
 rw [zy j,zy i,aCd m]
theorem aI0{q:Nat}(e:aN (l.drop k) (q+1)=true):k<l.length:=by
 rcases Nat.lt_or_ge k l.length with hk|hk
 ·exact hk
 ·rw [List.drop_eq_nil_of_le hk] at e;simp [aN] at e
theorem aTy(f:k<=l.length)(e:aN (l.drop k) 0=true):k=l.length:=by
 rcases Nat.lt_or_ge k l.length with hl|hl
 ·rw [aAd l k hl] at e;simp at e
 ·omega
def gD(l:List Nd):Bool:=jI l && !aM (l.headD (⟨#[]⟩,0))
def bK(c:List Lt):Bool:=cZ c && (c.all λl=>gD l.2) && decide (c=aT c)
theorem aTz(l:List Nd)(f:List Int):(dY l f).1.map zw=l.map zw:=by
 suffices ∀(l:List Nd) (e:List Nd×List Int),(l.foldl cD e).1.map zw=e.1.map zw++l.map zw by
  have i:=this l ([],f);simpa [dY] using i
 intro l;induction l with
 |nil=>intro e;simp
 |cons x r ih=>
  intro e;rw [zz,ih];have:(cD e x).1.map zw=e.1.map zw++[x.1]:=by
   unfold cD;split
   ·split<;>simp
   ·simp
  rw [this];simp
theorem aU0(c:List Lt):∀x∈(dB c).1,∃e∈c,x.2.map zw=e.2.map zw:=by
 suffices ∀(c:List Lt) (f:List Lt×List Int),∀x∈(c.foldl dM f).1,x∈f.1\/∃e∈c,x.2.map zw=e.2.map zw by
  intro x i;rcases this c ([],[]) x i with h|h
  ·simp at h
  ·exact h
 intro c;induction c with
 |nil=>intro f x i;exact ze i
 |cons e r ih=>
  intro f x i;rcases ih (dM f e) x i with h|⟨o,j,m⟩
  ·rcases zl.1 (show x∈f.1++[(e.1,(dY e.2 f.2).1)] from h) with h|h
   ·exact ze h
   ·simp at h;subst h;exact z2 ⟨e,by simp,aTz _ _⟩
  ·exact z2 ⟨o,by simp [j],m⟩
theorem aU1(c:List Lt):∀x∈aT c,∃e∈c,x.2.map zw=e.2.map zw:=by intro x i;obtain ⟨e,j,f⟩:=aU0 _ x i;exact ⟨e,(rF c).2.2 e j,f⟩
def tB(c:List Lt):Prop:=∀x∈c,x.2.length<=5864062014805/\∀n∈x.2,n.1.size<=140737488355328
theorem bP.shorts(e:bP w a c):tB c:=by intro x m;obtain ⟨k,i,rfl⟩:=zc.1 m;obtain ⟨_,_,_,_,_,_,_,g⟩:=e.cell k i;refine ⟨g.few,λn j=>?_⟩;obtain ⟨o,f,rfl⟩:=zc.1 j;exact g.short o f
theorem tB.ord(f:tB c):tB (aT c):=by
 intro x s;obtain ⟨e,j,i⟩:=aU1 c x s;have m:x.2.length=e.2.length:=by have:=congrArg List.length i;simpa using this
 refine ⟨by rw [m];exact (f e j).1,λn q=>?_⟩;have:n.1∈e.2.map zw:=by rw [<-i];exact zs.2 ⟨n,q,rfl⟩
 obtain ⟨u,o,p⟩:=zs.1 this;rw [<-p];exact (f e j).2 u o
theorem aI1{e:List (Lt×Value)}(z:e.map zw=d)(F:w.ownsRow B 41 2 v e.length (bC e))(u:∀i∈e,w.ownsRow B 43 2 i.2 i.1.2.length (aV i.1.2))(A:d.length<=4398046511104)(o:tB d):∃a f,v=.slice a d.length f/\bP w a d:=by
 subst z;obtain ⟨a,f,rfl,y⟩:=sJ F;refine ⟨a,f,by simp,A,λk C=>?_⟩;have D:k<e.length:=by simpa using C
 obtain ⟨g,rfl,s,j⟩:=y k D;have G:=u e[k] (zi _);have m:e[k].1∈e.map zw:=zs.2 ⟨e[k],zi _,rfl⟩;obtain ⟨p,q,H,E⟩:=tR G (o _ m).1 (λJ I=>(o _ m).2 _ (zi _));rw [H] at j;refine ⟨g,0,p,q,rfl,?_,?_,?_⟩
 ·rw [Nat.zero_add,s];simp
 ·rw [Nat.zero_add,j];simp
 ·simpa using E
theorem aU2:jI []=false:=by decide
def pL(w:World)(a:Option Addr)(c:List Lt):Prop:=∀k,k<c.length->∀b f i n e,a=some ⟨b,f,none⟩->w.cell? ⟨b,f+k*2+1,none⟩=some (.slice i n e)->n<=e
theorem wD{f x:Value}{t:TypeId}(e:w.heap[g]?=some (.cells #[f,x] t)):w.cell? ⟨g,0,none⟩=some f/\w.cell? ⟨g,1,none⟩=some x:=⟨by simp [World.cell?,e],by simp [World.cell?,e]⟩
theorem wE{a b:Value}{c d:Value}(e:a=c)(k:b=d):Ending.returned (.tuple #[a,b])=.returned (.tuple #[c,d]):=by rw [e,k]
theorem yW(e:gD l=true):aN l 1=true/\l.length<=60:=by
 have:jI l=true:=by simp [gD] at e;exact e.1
 simpa [jI] using this
theorem aU3(w:World)(e:Obj):(w.alloc e).heap[w.heap.size]?=some e:=by show (w.heap.push e)[w.heap.size]?=_;simp
def jC(e:Option Int)(n:Nd):Option Int:=
 match e with
 |none=>none
 |some x=>if aM n then (if x<n.2 then none else if n.2=x then some (x+1) else some x) else some x
def eW(l:List Nd)(e:Option Int):Option Int:=l.foldl jC e
def mR(c:List Lt):Option Int:=c.foldl (λe x=>eW x.2 e) (some 0)
theorem aCj(l:List Nd):eW l none=none:=by
 induction l with
 |nil=>rfl
 |cons x r ih=>simpa [eW,jC] using ih
theorem aU4(l:List Nd)(e:Option Int)(k:Nat)(f:k<l.length):eW (l.take (k+1)) e=jC (eW (l.take k) e) l[k]:=by rw [zp f];simp only [eW,zo,zz,List.foldl_nil]
theorem aU5(c:List Lt)(k:Nat)(e:k<c.length):mR (c.take (k+1))=eW c[k].2 (mR (c.take k)):=by rw [zp e];simp only [mR,zo,zz,List.foldl_nil]
theorem aU6(l:List Nd)(e:Option Int)(k:Nat):eW l e=eW (l.drop k) (eW (l.take k) e):=by
 conv=>lhs;rw [<-zn k l]
 simp only [eW,zo]
theorem aU7(c:List Lt)(k:Nat):mR c=(c.drop k).foldl (λe x=>eW x.2 e) (mR (c.take k)):=by
 conv=>lhs;rw [<-zn k c]
 simp only [mR,zo]
theorem aI2(c:List Lt):c.foldl (λe x=>eW x.2 e) none=none:=by
 induction c with
 |nil=>rfl
 |cons x r ih=>simp only [zz,aCj,ih]
def dC(e:Nat):List Int:=(List.range e).map Int.ofNat
theorem aI3(e:Nat):dC (e+1)=dC e++[(e:Int)]:=by simp [dC,List.range_succ]
theorem aI4(e:Nat):(dC e).length=e:=by simp [dC]
theorem aI5(e:Nat)(x:Int):eQ (dC e) x=if 0<=x/\x<e then x else -1:=by
 induction e with
 |zero=>simp [dC,aE9];omega
 |succ e ih=>
  rw [aI3,aAe,aI4,ih];by_cases f:(e:Int)=x
  ·subst f;rw [aG rfl,aG (by omega)]
  ·rw [aF f];by_cases i:0<=x/\x<e
   ·rw [aG i,aG (by omega)]
   ·rw [aF i,aF (by omega)]
def pM(l:List Nd):Prop:=∀n∈l,aM n=true->0<=n.2
theorem aI6(f:List Nd)(e:Nat)(n:Nd)(m:aM n=true)(i:¬(0<=n.2/\n.2<e)):cD (f,dC e) n=(f++[(n.1,(e:Int))],dC e++[n.2]):=by
 have j:eQ (dC e) n.2=-1:=by rw [aI5,aF i]
 unfold cD;rw [aG m];show (if eQ (dC e) n.2<0 then (f++[(n.1,((dC e).length:Int))],dC e++[n.2]) else (f++[(n.1,eQ (dC e) n.2)],dC e))=_;rw [j,aG (by omega),aI4]
theorem aU8(f:List Nd)(e:Nat)(n:Nd)(m:aM n=true)(i:0<=n.2/\n.2<e):cD (f,dC e) n=(f++[n],dC e):=by
 have j:eQ (dC e) n.2=n.2:=by rw [aI5,aG i]
 unfold cD;rw [aG m];show (if eQ (dC e) n.2<0 then (f++[(n.1,((dC e).length:Int))],dC e++[n.2]) else (f++[(n.1,eQ (dC e) n.2)],dC e))=_;rw [j,aF (by omega)]
theorem aI7(j:List Nd)(f:Nat)(n:Nd)(q:aM n=true->0<=n.2)(p:Int)(e:jC (some (f:Int)) n=some p):∃k:Nat,p=k/\cD (j,dC f) n=(j++[n],dC k):=by
 simp only [jC] at e;by_cases i:aM n=true
 ·have s:=q i;rw [aG i] at e;by_cases o:(f:Int)<n.2
  ·rw [aG o] at e;simp at e
  ·rw [aF o] at e;by_cases m:n.2=(f:Int)
   ·rw [aG m] at e;simp at e;refine ⟨f+1,by omega,?_⟩;rw [aI6 j f n i (by omega),aI3,<-m]
   ·rw [aF m] at e;simp at e;exact ⟨f,by omega,aU8 j f n i (by omega)⟩
 ·rw [aF i] at e;simp at e;refine ⟨f,by omega,?_⟩;unfold cD;rw [aF i]
theorem aU9(l:List Nd):∀(i:List Nd) (f:Nat),pM l->∀j,eW l (some (f:Int))=some j->∃k:Nat,j=k/\l.foldl cD (i,dC f)=(i++l,dC k):=by
 induction l with
 |nil=>intro i f _ j e;simp [eW] at e;exact ⟨f,by omega,by simp⟩
 |cons n r ih=>
  intro i f m j e;simp only [eW,zz] at e ⊢;cases hs:jC (some (f:Int)) n with
  |none=>rw [hs] at e;rw [show List.foldl jC none r=none from aCj r] at e;simp at e
  |some x=>
   rw [hs] at e;obtain ⟨k,rfl,q⟩:=aI7 i f n (m n (by simp)) x hs;rw [q];obtain ⟨u,o,p⟩:=ih (i++[n]) k (λy s=>m y (by simp [s])) j e;exact ⟨u,o,by rw [p];simp⟩
theorem aUa(l:List Nd):∀e:List Nd×List Int,∃t,(l.foldl cD e).1=e.1++t/\t.length=l.length:=by
 induction l with
 |nil=>intro e;exact ⟨[],by simp,rfl⟩
 |cons n r ih=>
  intro e;obtain ⟨t,f,i⟩:=ih (cD e n);have:∃x,(cD e n).1=e.1++[x]:=by
   unfold cD;split
   ·split<;>exact ⟨_,rfl⟩
   ·exact ⟨_,rfl⟩
  obtain ⟨x,j⟩:=this;exact ⟨x::t,by rw [zz,f,j];simp,by simp [i]⟩
theorem aUb(l:List Nd):∀(f:List Nd) (e:Nat),pM l->eW l (some (e:Int))=none->(l.foldl cD (f,dC e)).1≠f++l:=by
 induction l with
 |nil=>intro f e _ i;simp [eW] at i
 |cons n r ih=>
  intro f e o i;simp only [eW,zz] at i ⊢;cases hs:jC (some (e:Int)) n with
  |none=>
   have j:aM n=true:=by
    cases j:aM n
    ·simp [jC,j] at hs
    ·rfl
   have m:(e:Int)<n.2:=by
    by_cases m:(e:Int)<n.2
    ·exact m
    ·exfalso;simp only [jC,aG j,aF m] at hs;split at hs<;>simp at hs
   have C:=o n (by simp) j;have u:=aI6 f e n j (by omega);rw [u];obtain ⟨t,y,_⟩:=aUa r (f++[(n.1,(e:Int))],dC e++[n.2]);rw [y];intro p;simp only [za,z0,zf] at p;have:=zh p;simp only [List.cons.injEq] at this;have q:=congrArg Prod.snd this.1;simp at q;omega
  |some x=>
   rw [hs] at i;obtain ⟨k,rfl,s⟩:=aI7 f e n (o n (by simp)) x hs;rw [s];have:=ih (f++[n]) k (λA z=>o A (by simp [z])) i;simpa using this
theorem aI8(l:List Nd)(e:Nat)(j:pM l)(f:Int)(i:eW l (some (e:Int))=some f):∃k:Nat,f=k/\dY l (dC e)=(l,dC k):=by have:=aU9 l [] e j f i;simpa [dY] using this
theorem aUc(l:List Nd)(e:Nat)(i:pM l)(f:eW l (some (e:Int))=none):(dY l (dC e)).1≠l:=by have:=aUb l [] e i f;simpa [dY] using this
theorem aUd(c:List Lt):∀(f:List Lt) (e:Nat),(∀x∈c,pM x.2)->∀j,c.foldl (λy x=>eW x.2 y) (some (e:Int))=some j->∃k:Nat,c.foldl dM (f,dC e)=(f++c,dC k):=by
 induction c with
 |nil=>intro f e _ j i;exact ⟨e,by simp⟩
 |cons x r ih=>
  intro f e o j i;simp only [zz] at i ⊢;cases hs:eW x.2 (some (e:Int)) with
  |none=>rw [hs,aI2] at i;simp at i
  |some m=>
   rw [hs] at i;obtain ⟨k,rfl,q⟩:=aI8 x.2 e (o x (by simp)) m hs;have:dM (f,dC e) x=(f++[x],dC k):=by simp [dM,q]
   rw [this];obtain ⟨u,p⟩:=ih (f++[x]) k (λm s=>o m (by simp [s])) j i;exact ⟨u,by rw [p];simp⟩
theorem aUe(c:List Lt):∀e:List Lt×List Int,∃t,(c.foldl dM e).1=e.1++t:=by
 induction c with
 |nil=>intro e;exact ⟨[],by simp⟩
 |cons x r ih=>
  intro e;obtain ⟨t,f⟩:=ih (dM e x);exact ⟨(x.1,(dY x.2 e.2).1)::t,by rw [zz,f];simp [dM]⟩
theorem aUf(c:List Lt):∀(f:List Lt) (e:Nat),(∀x∈c,pM x.2)->c.foldl (λz x=>eW x.2 z) (some (e:Int))=none->(c.foldl dM (f,dC e)).1≠f++c:=by
 induction c with
 |nil=>intro f e _ i;simp at i
 |cons x r ih=>
  intro f e j i;simp only [zz] at i ⊢;cases hs:eW x.2 (some (e:Int)) with
  |none=>
   have q:=aUc x.2 e (j x (by simp)) hs;obtain ⟨t,u⟩:=aUe r (dM (f,dC e) x);rw [u];intro o;simp only [dM,za,z0,zf] at o;have:=zh o;simp only [List.cons.injEq] at this;have p:=congrArg Prod.snd this.1;exact q p
  |some m=>
   rw [hs] at i;obtain ⟨k,rfl,s⟩:=aI8 x.2 e (j x (by simp)) m hs;have:dM (f,dC e) x=(f++[x],dC k):=by simp [dM,s]
   rw [this];have:=ih (f++[x]) k (λm y=>j m (by simp [y])) i;simpa using this
theorem aI9(c:List Lt):∀e:List Lt,(c.foldl eE e).length=e.length+c.length->c.foldl eE e=e++c:=by
 induction c with
 |nil=>intro e _;simp
 |cons x r ih=>
  intro e i;simp only [zz,z1] at i ⊢;have m:∀(r e:List Lt),(r.foldl eE e).length<=e.length+r.length:=by
   intro r;induction r with
   |nil=>intro e;simp
   |cons y r ih=>
    intro e;have:=ih (eE e y);have f:(eE e y).length<=e.length+1:=by unfold eE;split<;>simp
    simp only [zz,z1];omega
  by_cases j:fI e x=true
  ·have f:eE e x=e:=by simp [eE,j]
   rw [f] at i;have:=m r e;omega
  ·have f:eE e x=e++[x]:=by simp [eE,j]
   rw [f] at i ⊢;have:=ih (e++[x]) (by simp;omega);rw [this];simp
theorem aUg(c:List Lt)(o:∀x∈c,pM x.2):decide (c=aT c)=(decide ((bV c).length=c.length) && (mR c).isSome):=by
 rw [Bool.eq_iff_iff];simp only [decide_eq_true_eq,zu];have p:dC 0=[]:=rfl;constructor
 ·intro i;have e:(bV c).length=c.length:=by
   have s:=(rG (bV c)).1;have j:(aT c).length=(bV c).length:=s;rw [<-i] at j;exact j.symm
  have f:bV c=c:=by have:=aI9 c [] (by simpa [bV] using e);simpa [bV] using this
  refine ⟨e,?_⟩;cases hc:mR c with
  |none=>
   exfalso;have:=aUf c [] 0 o hc;rw [p] at this;apply this;rw [zf];conv=>rhs;rw [i]
   unfold aT dB;rw [f]
  |some q=>rfl
 ·rintro ⟨e,u⟩;have f:bV c=c:=by
   have:=aI9 c [] (by simpa [bV] using e);simpa [bV] using this
  obtain ⟨q,y⟩:=Option.isSome_iff_exists.1 u;obtain ⟨k,m⟩:=aUd c [] 0 o q y;rw [p] at m;unfold aT dB;rw [f,m];simp
theorem aUh(f:gD l=true):pM l:=by
 have e:aN l 1=true:=by
  have:jI l=true:=by simp [gD] at f;exact f.1
  have:aN l 1=true/\l.length<=60:=by simpa [jI] using this
  exact this.1
 clear f;generalize 1=q at e;intro n hn i;induction l generalizing q with
 |nil=>simp at hn
 |cons x r ih=>
  simp only [aN] at e;split at e
  ·simp at e
  ·split at e
   ·next hok=>
    rcases List.mem_cons.1 hn with rfl|hn
    ·have:0<=n.2/\n.2<60:=by simpa [dE,i] using hok
     exact this.1
    ·exact ih _ e hn
   ·simp at e
def lF(w:World)(B k:Nat):Prop:=k<B\/∀f e i,w.heap[k]?=some (.cells f e i)->e≠153/\e≠3
structure Fr(B:Nat)(w w':World):Prop where
 os:w'.os=w.os
 tape:w'.tape=w.tape
 output:w'.output=w.output
 size:w.heap.size<=w'.heap.size
 block:∀k,k<w.heap.size->lF w B k->w'.heap[k]?=w.heap[k]?
theorem Fr.refl(B:Nat)(w:World):Fr B w w:=⟨rfl,rfl,rfl,zm _,λ_ _ _=>rfl⟩
theorem lF.fr(h:lF w B k)(o:k<w.heap.size)(j:Fr B w w'):lF w' B k:=by
 have i:=j.block k o h;rcases h with h|h
 ·exact ze h
 ·exact z2 λf e m p=>h f e m (by rw [<-i];exact p)
theorem Fr.trans{B:Nat}{a b c:World}(e:Fr B a b)(k:Fr B b c):Fr B a c:=
 ⟨k.os.trans e.os,k.tape.trans e.tape,k.output.trans e.output,Nat.le_trans e.size k.size,λj f i=>by
  rw [k.block j (Nat.lt_of_lt_of_le f e.size) (i.fr f e),e.block j f i]⟩
theorem Fr.of_below(e:aB w w'):Fr B w w':=⟨e.os,e.tape,e.output,e.size,λk f _=>e.block k f⟩
theorem Fr.below(e:Fr B w w')(i:B<=w.heap.size):Below B w w':=⟨e.os,e.tape,e.output,e.size,λk f=>e.block k (by omega) (ze f)⟩
theorem Fr.cell(f:Fr B w w'){a:Addr}{v:Value}(e:w.cell? a=some v)(i:lF w B a.block):w'.cell? a=some v:=
 (World.cell?_of_block (f.block _ (zq w a e) i)).trans e
theorem Fr.alloc{a:World}(f:Fr B a w)(e:Obj):Fr B a (w.alloc e):=f.trans (.of_below ((Below.refl _ _).alloc (zm _) e))
theorem Fr.drawn{a e:World}(f:Fr B a w)(k:∃n,e=w.drewN n):Fr B a e:=f.trans (.of_below (aQ k))
structure fM(w:World)(B:Nat)(a:Option Addr)(l:List Nd):Prop where
 nodes:cS w a l
 low:∀p,a=some p->p.block<B
theorem fM.fr(e:fM w B a l)(i:Fr B w w'):fM w' B a l:=
 ⟨⟨e.nodes.few,e.nodes.short,λk p=>by
  obtain ⟨b,q,f,m,o⟩:=e.nodes.cell k p;have j:=e.low _ f;exact ⟨b,q,f,i.cell m (ze j),i.cell o (ze j)⟩⟩,e.low⟩
structure dD(w:World)(B:Nat)(a:Option Addr)(c:List Lt):Prop where
 few:c.length<=8
 cell:∀k (h:k<c.length),∃b o aa cap,a=some ⟨b,o,none⟩/\lF w B b/\w.cell? ⟨b,o+k*2,none⟩=some (.bool c[k].1)/\w.cell? ⟨b,o+k*2+1,none⟩=some (.slice aa c[k].2.length cap)/\c[k].2.length<=cap/\fM w B aa c[k].2
theorem dD.fr(i:dD w B a c)(e:Fr B w w'):dD w' B a c:=
 ⟨i.few,λk y=>by
  obtain ⟨b,z,m,o,p,f,j,q,u,s⟩:=i.cell k y;exact ⟨b,z,m,o,p,f.fr (zq w _ j) e,e.cell j f,e.cell q f,u,s.fr e⟩⟩
def yX(w:World)(B:Nat)(r:Option (List Nd))(v:Value):Prop:=
 match r with
 |none=>v=.slice none 0 0
 |some t=>∃a e,v=.slice (some a) t.length e/\fM w B (some a) t
theorem yX.fr{r:Option (List Nd)}(e:yX w B r v)(i:Fr B w w'):yX w' B r v:=by
 cases r with
 |none=>exact e
 |some t=>obtain ⟨a,f,j,m⟩:=e;exact ⟨a,f,j,m.fr i⟩
structure bU(w:World)(B g:Nat)(dv:Value)(L:bD):Prop where
 low:B<=g
 blk:∃cs,w.heap[g]?=some (.cells cs 153 (0,0))
 among:w.cell? ⟨g,0,none⟩=some dv
 term:∀x:Nat,x<60->∃v,w.cell? ⟨g,1+x,none⟩=some v/\yX w B (look L (x:Int)) v
 bound:∃bv,w.cell? ⟨g,61,none⟩=some bv/\w.ownsRow B 3 1 bv L.length (L.map λp=>.int .i64 p.1)
 ok:lZ L
theorem bU.frozen{e:bD}(f:bU w B g dv e)(j:Nat):w.frozen? ⟨g,j,none⟩=false:=by obtain ⟨m,i⟩:=f.blk;simp [World.frozen?,i]
theorem bU.lt{e:bD}(f:bU w B g dv e):g<w.heap.size:=zq w _ f.among
theorem bU.below{f:bD}(e:bU w B g dv f)(k:aB w w'):bU w' B g dv f:=by
 obtain ⟨m,i,j⟩:=e.bound;refine ⟨e.low,?_,aD k e.among,λx p=>?_,⟨m,aD k i,bF j k (zm _)⟩,e.ok⟩
 ·obtain ⟨cs,o⟩:=e.blk;exact ⟨cs,by rw [k.block g e.lt];exact o⟩
 ·obtain ⟨v,q,s⟩:=e.term x p;exact ⟨v,aD k q,s.fr (Fr.of_below k)⟩
theorem bU.drawn{e:bD}(f:bU w B g dv e)(k:∃n,w'=w.drewN n):bU w' B g dv e:=f.below (aQ k)
theorem aUi{n:Nat}(f:w.ownsRow B 3 1 v n xs)(e:v.ownBlock=some k):¬lF w B k:=by
 obtain ⟨_,⟨rfl,_⟩|⟨g,j,m,rfl,o,i,_⟩⟩:=f
 ·simp [zv] at e
 ·simp [zv] at e;subst e;rintro (hs|hs)
  ·omega
  ·exact (hs _ _ _ i).2 rfl
theorem Fr.grownInts{n:Nat}(i:w.ownsRow B 3 1 v n xs)(e:w.grownBy w' v.ownBlock):Fr B w w':=
 ⟨e.os,e.tape,e.output,e.size,λk j m=>e.block k j (λf=>aUi i f.symm m)⟩
theorem bU.apart{i:bD}(j:bU w B g dv i){v:Value}{n:Nat}{xs:List Value}(o:w.ownsRow B 3 1 v n xs):some g≠v.ownBlock:=by
 intro e;obtain ⟨_,⟨rfl,_⟩|⟨k,p,s,rfl,u,m,_⟩⟩:=o
 ·simp [zv] at e
 ·simp [zv] at e;subst e;obtain ⟨q,f⟩:=j.blk;rw [m] at f;simp at f
theorem yY{e:TypeId}{i:Nat}{n:Nat}(o:w.ownsRow B e i v n xs){p:Addr}(y:some p.block≠v.ownBlock)(A:Value):(w.setCell p A).ownsRow B e i v n xs:=by
 obtain ⟨f,⟨rfl,q⟩|⟨g,j,m,rfl,s,u,z⟩⟩:=o
 ·exact ⟨f,ze ⟨rfl,q⟩⟩
 ·refine ⟨f,z2 ⟨g,j,m,rfl,s,?_,z⟩⟩;rw [heap_setCell_other _ _ _ _ (λe=>y (by simp [zv,e])),u]
def nM(w:World)(g:Nat):Prop:=∃e,w.heap[g]?=some (.cells e 153 (0,0))
theorem nM.set(f:nM w g)(j:Nat)(u:Value):nM (w.setCell ⟨g,j,none⟩ u) g:=by obtain ⟨e,i⟩:=f;exact ⟨_,heap_setCell_same w g j e _ u i⟩
theorem nM.grown{r:Option Nat}(i:nM w g)(j:w.grownBy w' r)(m:some g≠r):nM w' g:=by obtain ⟨f,e⟩:=i;exact ⟨f,by rw [j.block g (Array.getElem?_eq_some_iff.1 e).1 m];exact e⟩
theorem Fr.setB(p:B<=g)(i:nM w g)(m:Nat)(o:Value):Fr B w (w.setCell ⟨g,m,none⟩ o):=by
 refine ⟨rfl,rfl,rfl,by simp [World.setCell],λk _ hs=>heap_setCell_other _ _ _ _ (λe=>?_)⟩;simp at e;subst e;rcases hs with hs|hs
 ·omega
 ·obtain ⟨f,j⟩:=i;exact (hs f _ _ j).1 rfl
theorem aUj{f:bD}{e x:Nat}(j:look f (e:Int)=none):look (f++[((e:Int),t)]) (x:Int)=if x=e then some t else look f (x:Int):=by
 rw [wA];by_cases i:x=e
 ·subst i;rw [j];simp
 ·have:¬(x:Int)=(e:Int):=by omega
  simp [i,this]
theorem bU.more{e:World}{f q:Nat}{E j:Value}{m:bD}{a:Addr}{o:Obj}(i:bU w B g dv m)(Y:f<60)(G:look m (f:Int)=none)(T:fM w B (some a) t)(Z:aN t 1=true)(S:t.length<=60)
  (H:w.ownsRow B 3 1 E m.length (m.map λp=>.int .i64 p.1)) (u:((w.setCell ⟨g,1+f,none⟩ (.slice (some a) t.length q)).alloc o).grownBy e E.ownBlock)
  (I:e.ownsRow B 3 1 j (m.length+1) ((m.map λp=>.int .i64 p.1)++[.int .i64 (f:Int)])):bU (e.setCell ⟨g,61,none⟩ j) B g dv (m++[((f:Int),t)])/\Fr B w (e.setCell ⟨g,61,none⟩ j):=by
 have s:=i.apart H;have N:nM (w.setCell ⟨g,1+f,none⟩ (.slice (some a) t.length q)) g:=nM.set i.blk _ _;have a3:=yY H (p:=⟨g,1+f,none⟩) s (.slice (some a) t.length q);have Q:Fr B w (w.setCell ⟨g,1+f,none⟩ (.slice (some a) t.length q)):=Fr.setB i.low i.blk _ _;have A:nM e g:=(N.grown (World.grownBy_alloc _ o none) (by simp)).grown u s;have R:Fr B w e:=(Q.alloc o).trans (Fr.grownInts (a3.alloc o) u);have D:Fr B w (e.setCell ⟨g,61,none⟩ j):=R.trans (Fr.setB i.low A _ _);have L:∀z v,z≠1+f->z≠61->w.cell? ⟨g,z,none⟩=some v->(e.setCell ⟨g,61,none⟩ j).cell? ⟨g,z,none⟩=some v:=by intro z v a6 a7 y;rw [zx e _ _ _ (by first|(simp;done)|(simp;omega))];refine u.cell (aD ((Below.refl _ _).alloc (zm _) o) ?_) s;rw [zx w _ _ _ (by first|(simp;done)|(simp;omega))];exact y
 have a2:(e.setCell ⟨g,61,none⟩ j).cell? ⟨g,1+f,none⟩=some (.slice (some a) t.length q):=by rw [zx e _ _ _ (by first|(simp;done)|(simp;omega))];obtain ⟨v,y,_⟩:=i.term f Y;exact u.cell (aD ((Below.refl _ _).alloc (zm _) o) (zr w _ _ y)) s
 have P:∃M,e.cell? ⟨g,61,none⟩=some M:=by obtain ⟨O,W,_⟩:=i.bound;refine ⟨O,u.cell (aD ((Below.refl _ _).alloc (zm _) o) ?_) s⟩;rw [zx w _ _ _ (by first|(simp;done)|(simp;omega))];exact W
 obtain ⟨M,a0⟩:=P;have V:some g≠j.ownBlock:=by
  intro C;obtain ⟨_,⟨rfl,_⟩|⟨k,q,a5,rfl,a8,X,_⟩⟩:=I
  ·simp [zv] at C
  ·simp [zv] at C;subst C;obtain ⟨a4,F⟩:=A;rw [X] at F;simp at F
 refine ⟨⟨i.low,A.set _ _,L 0 dv (by omega) (by omega) i.among,λx a1=>?_,⟨j,zr e _ _ a0,?_⟩,i.ok.snoc G (by omega) (by omega) Z S⟩,D⟩
 ·rw [aUj G];by_cases J:x=f
  ·subst J;rw [aG rfl];exact ⟨_,a2,a,q,rfl,T.fr D⟩
  ·rw [aF J];obtain ⟨v,y,U⟩:=i.term x a1;exact ⟨v,L _ v (by omega) (by omega) y,U.fr D⟩
 ·have:=yY I (p:=⟨g,61,none⟩) V j;simpa using this
theorem bU.less{e M:bD}(i:bU w B g dv (e++M))(m:nM w' g)(D:Fr B w w')
  (y:w'.cell? ⟨g,0,none⟩=some dv) (H:∀x:Nat,x<60->w'.cell? ⟨g,1+x,none⟩=if (x:Int)∈M.map zw then some (.slice none 0 0) else w.cell? ⟨g,1+x,none⟩) (z:(w'.cell? ⟨g,61,none⟩).isSome=true) {bv':Value}
  (s:w'.ownsRow B 3 1 bv' e.length (e.map λI=>.int .i64 I.1)):bU (w'.setCell ⟨g,61,none⟩ bv') B g dv e/\Fr B w (w'.setCell ⟨g,61,none⟩ bv'):=by
 have o:Fr B w (w'.setCell ⟨g,61,none⟩ bv'):=D.trans (Fr.setB i.low m _ _);obtain ⟨P,F⟩:=Option.isSome_iff_exists.1 z;have C:some g≠bv'.ownBlock:=by
  intro f;obtain ⟨_,⟨rfl,_⟩|⟨k,J,N,rfl,O,E,_⟩⟩:=s
  ·simp [zv] at f
  ·simp [zv] at f;subst f;obtain ⟨L,p⟩:=m;rw [E] at p;simp at p
 refine ⟨⟨i.low,m.set _ _,by rw [zx w' _ _ _ (by simp)];exact y,λx u=>?_,⟨bv',zr w' _ _ F,yY s (p:=⟨g,61,none⟩) C bv'⟩,i.ok.left⟩,o⟩;rw [zx w' _ _ _ (by first|(simp;done)|(simp;omega)),H x u];obtain ⟨v,G,A⟩:=i.term x u;by_cases j:(x:Int)∈M.map zw
 ·rw [aG j];refine ⟨_,rfl,?_⟩;have:look e (x:Int)=none:=by
   cases hl:look e (x:Int) with
   |none=>rfl
   |some t=>
    exfalso;have q:=i.ok.once;rw [zg,zk] at q;exact q.2.2 _ (zs.2 ⟨_,yV hl,rfl⟩) _ j rfl
  rw [this];rfl
 ·rw [aF j];refine ⟨v,G,?_⟩;have f:look (e++M) (x:Int)=look e (x:Int):=by
   rw [wB];have:look M (x:Int)=none:=by
    cases hl:look M (x:Int) with
    |none=>rfl
    |some t=>exact absurd (zs.2 ⟨_,yV hl,rfl⟩) j
   rw [this];simp
  rw [<-f];exact A.fr o
theorem aUk{e:ByteArray}(j:dE (e,x)=true)(i:¬e.toList.isEmpty=true):0<=x/\x<=5/\aX (e,x)=x.toNat:=by
 have f:dL e=true/\0<=x/\x<=5:=by simpa [dE,aM,i] using j
 exact ⟨f.2.1,f.2.2,by unfold aX aM;rw [aF i]⟩
