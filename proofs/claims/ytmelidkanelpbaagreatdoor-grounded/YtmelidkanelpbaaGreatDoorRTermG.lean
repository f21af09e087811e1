import Derived.Test.YtmelidkanelpbaaGreatDoorBase0G
open Bool renaming and_eq_true→zu
open List renaming drop_eq_getElem_cons→zz,mem_cons_of_mem→zv,mem_map→zt,mem_append→zp,nodup_append→zo,getElem_mem→zn,map_append→zm,mem_append_left→zk,lookup_append→zj
open Nat renaming le_refl→zq
open Or renaming inl→zl,inr→zi
open Prod renaming fst→zx
namespace Go.Proofs.YtmelidkanelpbaaGreatDoor
open Value renaming ownBlock→zw
open World renaming cell?_setCell_other→zy,cell?_setCell_same→zs,block_lt_of_cell?→zr
open Go.RowKit
set_option maxRecDepth 100000
variable{x:Int}{c d:List Lt}{b l r t:List Nd}{xs:List Value}{B g k:Nat}{n:Nd}{dv v:Value}{w w':World}
def gJ(l:List Nd):Bool:=jA l && !aK (l.headD (⟨#[]⟩,0))
def aY(c:List Lt):Bool:=bP c && (c.all λl=>gJ l.2) && decide (c=aV c)
theorem aXo(l:List Nd)(e:List Int):(dW l e).1.map zx=l.map zx:=by
 suffices ∀(l:List Nd) (a:List Nd×List Int),(l.foldl cI a).1.map zx=a.1.map zx++l.map zx by
  have f:=this l ([],e);simpa [dW] using f
 intro l;induction l with
 |nil=>intro a;simp
 |cons x r ih=>
  intro a;rw [List.foldl_cons,ih];have:(cI a x).1.map zx=a.1.map zx++[x.1]:=by
   unfold cI;split
   ·split<;>simp
   ·simp
  rw [this];simp
theorem aXp(c:List Lt):∀x∈(cW c).1,∃a∈c,x.2.map zx=a.2.map zx:=by
 suffices ∀(c:List Lt) (e:List Lt×List Int),∀x∈(c.foldl dL e).1,x∈e.1\/∃a∈c,x.2.map zx=a.2.map zx by
  intro x f;rcases this c ([],[]) x f with h|h
  ·simp at h
  ·exact h
 intro c;induction c with
 |nil=>intro e x f;exact zl f
 |cons a r ih=>
  intro e x f;rcases ih (dL e a) x f with h|⟨m,i,j⟩
  ·rcases zp.1 (show x∈e.1++[(a.1,(dW a.2 e.2).1)] from h) with h|h
   ·exact zl h
   ·simp at h;subst h;exact zi ⟨a,by simp,aXo _ _⟩
  ·exact zi ⟨m,by simp [i],j⟩
theorem aXq(c:List Lt):∀x∈aV c,∃a∈c,x.2.map zx=a.2.map zx:=by intro x f;obtain ⟨a,i,e⟩:=aXp _ x f;exact ⟨a,(mH c).2.2 a i,e⟩
def wV(c:List Lt):Prop:=∀x∈c,x.2.length<=5864062014805/\∀n∈x.2,n.1.size<=140737488355328
theorem wV.ord(e:wV c):wV (aV c):=by
 intro x q;obtain ⟨a,i,f⟩:=aXq c x q;have j:x.2.length=a.2.length:=by have:=congrArg List.length f;simpa using this
 refine ⟨by rw [j];exact (e a i).1,λn p=>?_⟩;have:n.1∈a.2.map zx:=by rw [<-f];exact zt.2 ⟨n,p,rfl⟩
 obtain ⟨s,m,o⟩:=zt.1 this;rw [<-o];exact (e a i).2 s m
theorem aLn{a:List (Lt×Value)}(z:a.map zx=d)(F:w.ownsRow B 86 2 v a.length (bF a))(u:∀i∈a,w.ownsRow B 117 2 i.2 i.1.2.length (bA i.1.2))(A:d.length<=4398046511104)(o:wV d):∃e f,v=.slice e d.length f/\cH w e d:=by
 subst z;obtain ⟨e,f,rfl,y⟩:=tV F;refine ⟨e,f,by simp,A,λk C=>?_⟩;have D:k<a.length:=by simpa using C
 obtain ⟨g,rfl,s,j⟩:=y k D;have G:=u a[k] (zn _);have m:a[k].1∈a.map zx:=zt.2 ⟨a[k],zn _,rfl⟩;obtain ⟨p,q,H,E⟩:=vI G (o _ m).1 (λJ I=>(o _ m).2 _ (zn _));rw [H] at j;refine ⟨g,0,p,q,rfl,?_,?_,?_⟩
 ·rw [Nat.zero_add,s];simp
 ·rw [Nat.zero_add,j];simp
 ·simpa using E
theorem aXr:jA []=false:=by decide
def aB5(w:World)(f:Option Addr)(c:List Lt):Prop:=∀k,k<c.length->∀b e i n a,f=some ⟨b,e,none⟩->w.cell? ⟨b,e+k*2+1,none⟩=some (.slice i n a)->n<=a
theorem aLo{e x:Value}{t:TypeId}(a:w.heap[g]?=some (.cells #[e,x] t)):w.cell? ⟨g,0,none⟩=some e/\w.cell? ⟨g,1,none⟩=some x:=⟨by simp [World.cell?,a],by simp [World.cell?,a]⟩
theorem aLp(a:gJ l=true):aQ l 1=true/\l.length<=60:=by
 have:jA l=true:=by simp [gJ] at a;exact a.1
 simpa [jA] using this
def aO:List Nd->Nat->Nat
 |_,0=>0
 |[],_+1=>0
 |n::r,q+1=>1+aO r (q+aX n)
@[simp] theorem bEm(l:List Nd):aO l 0=0:=by cases l<;>rfl
theorem mS(n:Nd)(r:List Nd)(a:Nat):aQ (n::r) (a+1)=(cZ n && aQ r (a+aX n)):=by simp only [aQ];cases cZ n<;>simp
theorem aEg(l:List Nd):∀a f,aQ l (a+f)=true->aQ (l.take (aO l a)) a=true/\aQ (l.drop (aO l a)) f=true:=by
 induction l with
 |nil=>
  intro a f e;cases a with
  |zero=>simpa [aQ] using e
  |succ a=>simp [aQ] at e
 |cons n r ih=>
  intro a f e;cases a with
  |zero=>simpa [aQ] using e
  |succ a=>
   rw [show a+1+f=(a+f)+1 by omega,mS,zu] at e;have:=ih (a+aX n) f (by rw [<-e.2];congr 1;omega);simp only [aO,Nat.add_comm 1,List.take_succ_cons,List.drop_succ_cons];exact ⟨by rw [mS,e.1,this.1];rfl,this.2⟩
theorem yU(t:List Nd):∀e f,aQ t e=true->aO (t++f) e=t.length:=by
 induction t with
 |nil=>intro e f a;simp [aQ] at a;subst a;simp
 |cons n r ih=>
  intro e f a;cases e with
  |zero=>simp [aQ] at a
  |succ e=>
   rw [mS,zu] at a;simp [aO,ih _ f a.2];omega
theorem tG(l:List Nd):∀a,aO l a<=l.length:=by
 induction l with
 |nil=>intro a;cases a<;>simp [aO]
 |cons n r ih=>intro a;cases a with
  |zero=>simp
  |succ a=>have:=ih (a+aX n);simp [aO];omega
theorem aXs(l:List Nd)(e:Nat)(a:l≠[]):0<aO l (e+1):=by
 cases l with
 |nil=>exact absurd rfl a
 |cons n r=>simp [aO];omega
theorem aXt{q:Nat}(a:aQ l (q+1)=true):l≠[]:=by rintro rfl;simp [aQ] at a
abbrev bG:=List (Int×List Nd)
def look(a:bG)(x:Int):Option (List Nd):=a.lookup x
theorem yV(f:bG)(x a:Int)(t:List Nd):look (f++[(x,t)]) a=(look f a).or (if a=x then some t else none):=by
 unfold look;rw [zj];simp [List.lookup];by_cases e:a=x
 ·simp [e]
 ·rw [show (a==x)=false by simpa using e];simp [e]
theorem yW(e f:bG)(a:Int):look (e++f) a=(look e a).or (look f a):=by unfold look;rw [zj]
def subst(σ:Int->List Nd)(l:List Nd):List Nd:=l.flatMap λn=>if aK n then σ n.2 else [n]
theorem oB(a:Int->List Nd)(n:Nd)(r:List Nd):subst a (n::r)=(if aK n then a n.2 else [n])++subst a r:=by simp [subst]
def Tm(a:Int->List Nd):Prop:=∀x,aQ (a x) 1=true
def jR(e:Int->List Nd)(a:bG):Prop:=∀x t,look a x=some t->e x=t
theorem jR.snoc{i:Int->List Nd}{f:bG}(p:look f x=none):jR i (f++[(x,t)])↔jR i f/\i x=t:=by
 constructor
 ·intro k;refine ⟨λe m a=>k e m (by rw [yV,a];rfl),k x t (by rw [yV,p];simp)⟩
 ·rintro ⟨k,o⟩ e m a;rw [yV] at a;cases hl:look f e with
  |some u=>rw [hl] at a;simp at a;rw [<-a];exact k e u hl
  |none=>
   rw [hl] at a;by_cases j:e=x
   ·subst j;simp at a;rw [<-a];exact o
   ·simp [j] at a
theorem jR.left{e:Int->List Nd}{a f:bG}(i:jR e (a++f)):jR e a:=λx t j=>i x t (by rw [yW,j];rfl)
def dI:List Nd->List Nd->bG->Option bG
 |[],[],L=>some L
 |[],_::_,_=>none
 |n::r,b,L=>
  if aK n then
   match look L n.2 with
   |some t=>if t=b.take (aO b 1) then dI r (b.drop (aO b 1)) L else none
   |none=>dI r (b.drop (aO b 1)) (L++[(n.2,b.take (aO b 1))])
  else match b with
   |[]=>none
   |m::b'=>if n=m then dI r b' L else none
theorem aEh{a:bG}(f:aK n=true)(e:look a n.2=some t):dI (n::r) b a=if t=b.take (aO b 1) then dI r (b.drop (aO b 1)) a else none:=by rw [dI.eq_def];simp [f,e]
theorem aEi{a:bG}(f:aK n=true)(e:look a n.2=none):dI (n::r) b a=dI r (b.drop (aO b 1)) (a++[(n.2,b.take (aO b 1))]):=by rw [dI.eq_def];simp [f,e]
theorem aEj{e:Nd}{a:bG}(f:aK n=false):dI (n::r) (e::b) a=if n=e then dI r b a else none:=by rw [dI.eq_def];simp [f]
theorem yX{a:Int->List Nd}(j:Tm a){n:Nd}{r b:List Nd}(i:aK n=true):subst a (n::r)=b↔a n.2=b.take (aO b 1)/\subst a r=b.drop (aO b 1):=by
 rw [oB,aI i];constructor
 ·rintro rfl;rw [yU _ _ _ (j n.2)];simp
 ·rintro ⟨e,f⟩;rw [e,f,List.take_append_drop]
theorem jS(a:aK n=true):aX n=0:=by simp [aX,a]
theorem aLq(u:List Nd):∀(b:List Nd) (j:Nat) (o:bG),aQ u j=true->aQ b j=true->
  (∀p,dI u b o=some p->∀a,Tm a->(jR a p↔jR a o/\subst a u=b))/\(dI u b o=none->∀a,Tm a->jR a o->subst a u≠b):=by
 induction u with
 |nil=>
  intro b j o y z;cases j with
  |succ j=>simp [aQ] at y
  |zero=>
   cases b with
   |nil=>simp [dI,subst]
   |cons m b=>simp [aQ] at z
 |cons n r ih=>
  intro b j o y z;cases j with
  |zero=>simp [aQ] at y
  |succ j=>
   rw [mS,zu] at y;by_cases q:aK n=true
   ·have J:=aEg b 1 j (by rw [<-z];congr 1;omega);have I:aQ r j=true:=by simpa [jS q] using y.2
    cases hl:look o n.2 with
    |some t=>
     rw [aEh q hl];by_cases E:t=b.take (aO b 1)
     ·rw [aI E];obtain ⟨A,C⟩:=ih (b.drop (aO b 1)) j o I J.2;refine ⟨λp f a e=>?_,λf a e s i=>?_⟩
      ·rw [A p f a e,yX e q];constructor
       ·rintro ⟨D,G⟩;exact ⟨D,(D _ _ hl).trans E,G⟩
       ·rintro ⟨D,_,G⟩;exact ⟨D,G⟩
      ·exact C f a e s ((yX e q).1 i).2
     ·rw [aH E];refine ⟨λp f=>by simp at f,λ_ a e s i=>E ?_⟩;rw [<-s _ _ hl];exact ((yX e q).1 i).1
    |none=>
     rw [aEi q hl];obtain ⟨A,C⟩:=ih (b.drop (aO b 1)) j (o++[(n.2,b.take (aO b 1))]) I J.2;refine ⟨λp f a e=>?_,λf a e s i=>?_⟩
     ·rw [A p f a e,jR.snoc hl,yX e q,and_assoc]
     ·obtain ⟨L,M⟩:=(yX e q).1 i;exact C f a e ((jR.snoc hl).2 ⟨s,L⟩) M
   ·have F:aK n=false:=by simpa using q
    cases b with
    |nil=>simp [aQ] at z
    |cons m b=>
     rw [mS,zu] at z;rw [aEj F];by_cases H:n=m
     ·subst H;rw [aI rfl];obtain ⟨A,C⟩:=ih b (j+aX n) o y.2 z.2;refine ⟨λp f a e=>?_,λf a e s i=>?_⟩
      ·rw [A p f a e,oB,F];simp
      ·rw [oB,F] at i;simp at i;exact C f a e s i
     ·rw [aH H];refine ⟨λp f=>by simp at f,λ_ a e s i=>?_⟩;rw [oB,F] at i;simp at i;exact H i.1
def aEk(x:Int)(a:List Nd):Prop:=∃n∈a,aK n=true/\n.2=x
theorem aXu(A:List Nd):∀(b:List Nd) (f:Nat) (i p:bG),aQ A f=true->aQ b f=true->dI A b i=some p->
  ∃j,p=i++j/\∀e∈j,aEk e.1 A/\look i e.1=none:=by
 induction A with
 |nil=>
  intro b f i p _ _ a;cases b with
  |nil=>simp [dI] at a;exact ⟨[],by simp [a],by simp⟩
  |cons o b=>simp [dI] at a
 |cons n r ih=>
  intro b f i p C D a;cases f with
  |zero=>simp [aQ] at C
  |succ f=>
   rw [mS,zu] at C;by_cases s:aK n=true
   ·have G:=aEg b 1 f (by rw [<-D];congr 1;omega);have F:aQ r f=true:=by simpa [jS s] using C.2
    cases hl:look i n.2 with
    |some t=>
     rw [aEh s hl] at a;by_cases H:t=b.take (aO b 1)
     ·rw [aI H] at a;obtain ⟨j,q,m⟩:=ih _ f i p F G.2 a;exact ⟨j,q,λe hp=>⟨by obtain ⟨o,y,z⟩:=(m e hp).1;exact ⟨o,zv _ y,z⟩,(m e hp).2⟩⟩
     ·rw [aH H] at a;simp at a
    |none=>
     rw [aEi s hl] at a;obtain ⟨j,q,m⟩:=ih _ f _ p F G.2 a;refine ⟨(n.2,b.take (aO b 1))::j,by rw [q];simp,λe hp=>?_⟩;rcases List.mem_cons.1 hp with rfl|hp
     ·exact ⟨⟨n,by simp,s,rfl⟩,hl⟩
     ·refine ⟨by obtain ⟨o,y,z⟩:=(m e hp).1;exact ⟨o,zv _ y,z⟩,?_⟩;have:=(m e hp).2;rw [yV] at this;cases hh:look i e.1 with
      |none=>rfl
      |some u=>rw [hh] at this;simp at this
   ·have I:aK n=false:=by simpa using s
    cases b with
    |nil=>simp [aQ] at D
    |cons o b=>
     rw [mS,zu] at D;rw [aEj I] at a;by_cases E:n=o
     ·subst E;rw [aI rfl] at a;obtain ⟨j,q,m⟩:=ih _ _ i p C.2 D.2 a;exact ⟨j,q,λe hp=>⟨by obtain ⟨o,y,z⟩:=(m e hp).1;exact ⟨o,zv _ y,z⟩,(m e hp).2⟩⟩
     ·rw [aH E] at a;simp at a
def gR(d c:List Lt)(e:bG):Prop:=∃a,Tm a/\jR a e/\∀l∈c,(l.1,subst a l.2)∈d
def Tms(c:List Lt):Prop:=∀l∈c,aQ l.2 1=true
def kA(x a:Lt)(e:bG):Option bG:=if x.1=a.1 then dI x.2 a.2 e else none
theorem aEl{x y:Lt}{f i:bG}(m:aQ x.2 1=true)(o:aQ y.2 1=true)(a:kA x y f=some i)(e:Int->List Nd)(p:Tm e):jR e i↔jR e f/\(x.1,subst e x.2)=y:=by
 unfold kA at a;by_cases j:x.1=y.1
 ·rw [aI j] at a;rw [(aLq x.2 y.2 1 f m o).1 i a e p,Prod.ext_iff];simp [j]
 ·rw [aH j] at a;simp at a
theorem aXw{x a:Lt}{f:bG}(p:aQ x.2 1=true)(q:aQ a.2 1=true)(j:kA x a f=none)(e:Int->List Nd)(s:Tm e)(o:jR e f):(x.1,subst e x.2)≠a:=by
 unfold kA at j;by_cases m:x.1=a.1
 ·rw [aI m] at j;intro i;exact (aLq x.2 a.2 1 f p q).2 j e s o (by rw [<-i])
 ·intro i;exact m (by rw [<-i])
theorem aXx{x y:Lt}{e f:bG}(o:aQ x.2 1=true)(p:aQ y.2 1=true)(a:kA x y e=some f):∃i,f=e++i/\∀m∈i,aEk m.1 x.2/\look e m.1=none:=by
 unfold kA at a;by_cases j:x.1=y.1
 ·rw [aI j] at a;exact aXu x.2 y.2 1 e f o p a
 ·rw [aH j] at a;simp at a
theorem aXy{z:List Lt}{q:bG}{x:Lt}(y:Tms d)(s:aQ x.2 1=true)(p:∀l,l∈c↔l=x\/l∈z):gR d c q↔∃u∈d,∃f,kA x u q=some f/\gR d z f:=by
 constructor
 ·rintro ⟨a,e,m,i⟩;refine ⟨_,i x ((p x).2 (zl rfl)),?_⟩;have j:=y _ (i x ((p x).2 (zl rfl)));cases o:kA x (x.1,subst a x.2) q with
  |none=>exact absurd rfl (aXw s j o a e m)
  |some f=>exact ⟨f,rfl,a,e,(aEl s j o a e).2 ⟨m,rfl⟩,λl hl=>i l ((p l).2 (zi hl))⟩
 ·rintro ⟨u,j,f,o,a,e,m,i⟩;obtain ⟨A,C⟩:=(aEl s (y u j) o a e).1 m;refine ⟨a,e,A,λl hl=>?_⟩;rcases (p l).1 hl with rfl|hl
  ·rw [C];exact j
  ·exact i l hl
def aEm(d c:List Lt)(e:bG):Prop:=∀a,Tm a->jR a e->∀l∈c,(l.1,subst a l.2)∈d
def kR(c:List Lt)(a i:bG):Prop:=∃e,i=a++e/\∀f∈e,(∃l∈c,aEk f.1 l.2)/\look a f.1=none
def aEn(a:bG)(g r:List Lt):Prop:=∀x∈g,∀e∈r,∀n∈x.2,aK n=true->look a n.2=none->n∉e.2
theorem aLr{f τ:Int->List Nd}(e:∀n∈l,aK n=true->f n.2=τ n.2):subst f l=subst τ l:=by
 induction l with
 |nil=>rfl
 |cons n r ih=>
  rw [oB,oB,ih λj i=>e j (zv _ i)];by_cases a:aK n=true
  ·rw [aI a,aI a,e n (by simp) a]
  ·rw [aH a,aH a]
theorem aXz{a:Nd}(i:aK n=true)(f:aK a=true)(e:n.2=a.2):n=a:=by
 obtain ⟨m,x⟩:=n;obtain ⟨t,o⟩:=a;simp only at e;subst e;have j:m.toList=t.toList:=by simp [aK] at i f;rw [i,f]
 rw [zW.1 j]
theorem kR.refl(c:List Lt)(L:bG):kR c L L:=⟨[],by simp,by simp⟩
theorem kR.trans{c o e:List Lt}{L j m:bG}(y:kR c L j)(k:kR o j m)(z:∀l∈c,l∈e)(A:∀l∈o,l∈e):kR e L m:=by
 obtain ⟨q,rfl,C⟩:=y;obtain ⟨s,rfl,D⟩:=k;refine ⟨q++s,by simp,λp hp=>?_⟩;rcases zp.1 hp with hp|hp
 ·obtain ⟨⟨l,f,i⟩,a⟩:=C p hp;exact ⟨⟨l,z l f,i⟩,a⟩
 ·obtain ⟨⟨l,f,i⟩,a⟩:=D p hp;refine ⟨⟨l,A l f,i⟩,?_⟩;rw [yW] at a;cases hh:look L p.1 with
  |none=>rfl
  |some u=>rw [hh] at a;simp at a
theorem aB6{f:bG}(a:look f x=some t):(x,t)∈f:=by
 unfold look at a;induction f with
 |nil=>simp at a
 |cons p r ih=>
  obtain ⟨i,j⟩:=p;rw [List.lookup_cons] at a;by_cases e:(x==i)=true
  ·rw [e] at a;simp at a e;subst e a;simp
  ·simp only [e] at a;exact zv _ (ih a)
theorem kR.ext{a e:bG}(i:kR c a e){f:Int->List Nd}(k:jR f e):jR f a:=by obtain ⟨j,rfl,_⟩:=i;exact k.left
theorem aY0{g r:List Lt}{f a:bG}(u:∀l,l∈c↔l∈g\/l∈r)(D:aEn f g r)(o:kR g f a)(C:∀x t,look a x=some t->aQ t 1=true)(z:aEm d g a):gR d c f↔gR d r a:=by
 constructor
 ·rintro ⟨e,i,j,m⟩;refine ⟨λx=>(look a x).getD (e x),λx=>?_,λx t q=>by simp [q],λl hl=>?_⟩
  ·show aQ ((look a x).getD (e x)) 1=true;cases hh:look a x with
   |none=>exact i x
   |some t=>exact C x t hh
  ·have:=m l ((u l).2 (zi hl));rw [show subst (λx=>(look a x).getD (e x)) l.2=subst e l.2 from ?_]
   ·exact this
   ·refine aLr λn F H=>?_
    cases hh:look f n.2 with
    |some t=>
     obtain ⟨s,rfl,_⟩:=o;show (look (f++s) n.2).getD (e n.2)=e n.2;rw [yW,hh];simp only [Option.some_or,Option.getD_some];exact (j _ _ hh).symm
    |none=>
     cases hk:look a n.2 with
     |none=>simp only [Option.getD_none]
     |some t=>
      exfalso;obtain ⟨s,rfl,A⟩:=o;rw [yW,hh] at hk;obtain ⟨⟨x,q,I,E,y,p⟩,_⟩:=A _ (aB6 (by simpa using hk));simp only at p;have G:=aXz y H p;exact D x q l hl I E y (by rw [p];exact hh) (by rw [G];exact F)
 ·rintro ⟨e,i,j,m⟩;refine ⟨e,i,o.ext j,λl hl=>?_⟩;rcases (u l).1 hl with hl|hl
  ·exact z e i j l hl
  ·exact m l hl
theorem aY1{a:bG}(e:∀x t,look a x=some t->aQ t 1=true):gR d [] a:=by
 refine ⟨λx=>(look a x).getD [(⟨#[]⟩,0)],λx=>?_,λx t i=>by simp [i],by simp⟩;show aQ ((look a x).getD [(⟨#[]⟩,0)]) 1=true;cases hh:look a x with
 |none=>
  have f:(⟨#[]⟩ : ByteArray).toList=[]:=by rw [ByteArray.toList_eq]
  simp [aQ,cZ,aX,aK,f]
 |some t=>exact e x t hh
structure mT(L:bG):Prop where
 keys:∀p∈L,0<=p.1/\p.1<60
 once:(L.map zx).Nodup
 terms:∀p∈L,aQ p.2 1=true/\p.2.length<=60
theorem mT.nil:mT []:=⟨by simp,by simp,by simp⟩
theorem mT.look{a:bG}(e:mT a):∀x t,look a x=some t->aQ t 1=true:=λ_ _ f=>(e.terms _ (aB6 f)).1
theorem aY2{a:bG}(e:look a x=none):x∉a.map zx:=by intro i;obtain ⟨j,f,rfl⟩:=zt.1 i;unfold Go.Proofs.YtmelidkanelpbaaGreatDoor.look at e;have:=List.lookup_eq_none_iff.1 e j f;simp at this
theorem mT.snoc{a:bG}(e:mT a)(q:Go.Proofs.YtmelidkanelpbaaGreatDoor.look a x=none)(j:0<=x)(m:x<60)(u:aQ t 1=true)(s:t.length<=60):mT (a++[(x,t)]):=by
 refine ⟨λp hp=>?_,?_,λp hp=>?_⟩
 ·rcases zp.1 hp with hp|hp
  ·exact e.keys p hp
  ·simp at hp;subst hp;exact ⟨j,m⟩
 ·rw [zm,zo];refine ⟨e.once,by simp,λy o b f i=>aY2 q ?_⟩;simp at f;subst f i;exact o
 ·rcases zp.1 hp with hp|hp
  ·exact e.terms p hp
  ·simp at hp;subst hp;exact ⟨u,s⟩
theorem mT.few{a:bG}(e:mT a):a.length<=60:=by
 have f:∀x∈a.map zx,x∈(List.range 60).map (λn:Nat=>(n:Int)):=by intro x m;obtain ⟨p,j,rfl⟩:=zt.1 m;have:=e.keys p j;exact zt.2 ⟨p.1.toNat,by simp;omega,by omega⟩
 have i:=List.Nodup.length_le_of_subset e.once f;simpa using i
theorem mT.left{i j:bG}(a:mT (i++j)):mT i:=
 ⟨λf e=>a.keys f (zk _ e),by have:=a.once;rw [zm,zo] at this;exact this.1,λf e=>a.terms f (zk _ e)⟩
theorem aLs(a:cZ n=true)(e:aK n=true):0<=n.2/\n.2<60:=by simpa [cZ,e] using a
theorem aY3(l:List Nd)(k a:Nat)(e:k<l.length):aO (l.drop k) (a+1)=1+aO (l.drop (k+1)) (a+aX l[k]):=by rw [zz e];rfl
theorem aEo(l:List Nd)(k a:Nat)(e:k<l.length):aQ (l.drop k) (a+1)=(cZ l[k] && aQ (l.drop (k+1)) (a+aX l[k])):=by rw [zz e,mS]
theorem aY4(b:List Nd)(e:Nat)(a:bG)(f:e=b.length):dI [] (b.drop e) a=some a:=by subst f;simp [dI]
theorem aY5(a b:List Nd)(k e:Nat)(f:bG)(t:List Nd)(i:k<a.length)(m:aK a[k]=true)(j:look f a[k].2=some t):dI (a.drop k) (b.drop e) f=if t=(b.drop e).take (aO (b.drop e) 1) then dI (a.drop (k+1)) (b.drop (e+aO (b.drop e) 1)) f else none:=by
 rw [zz i,aEh m j,List.drop_drop]
theorem aY6(a b:List Nd)(k e:Nat)(f:bG)(i:k<a.length)(m:aK a[k]=true)(j:look f a[k].2=none):dI (a.drop k) (b.drop e) f=dI (a.drop (k+1)) (b.drop (e+aO (b.drop e) 1)) (f++[(a[k].2,(b.drop e).take (aO (b.drop e) 1))]):=by
 rw [zz i,aEi m j,List.drop_drop]
theorem aY7(a b:List Nd)(k e:Nat)(f:bG)(j:k<a.length)(i:e<b.length)(m:aK a[k]=false):dI (a.drop k) (b.drop e) f=if a[k]=b[e] then dI (a.drop (k+1)) (b.drop (e+1)) f else none:=by
 rw [zz j,zz i,aEj m]
theorem aLt{q:Nat}(a:aQ (l.drop k) (q+1)=true):k<l.length:=by
 rcases Nat.lt_or_ge k l.length with hk|hk
 ·exact hk
 ·rw [List.drop_eq_nil_of_le hk] at a;simp [aQ] at a
theorem aY8(e:k<=l.length)(a:aQ (l.drop k) 0=true):k=l.length:=by
 rcases Nat.lt_or_ge k l.length with hl|hl
 ·rw [aCe l k hl] at a;simp at a
 ·omega
def lX(w:World)(B k:Nat):Prop:=k<B\/∀e a f,w.heap[k]?=some (.cells e a f)->a≠136/\a≠3
structure Fr(B:Nat)(w w':World):Prop where
 os:w'.os=w.os
 tape:w'.tape=w.tape
 output:w'.output=w.output
 size:w.heap.size<=w'.heap.size
 block:∀k,k<w.heap.size->lX w B k->w'.heap[k]?=w.heap[k]?
theorem Fr.refl(B:Nat)(w:World):Fr B w w:=⟨rfl,rfl,rfl,zq _,λ_ _ _=>rfl⟩
theorem lX.fr(h:lX w B k)(m:k<w.heap.size)(i:Fr B w w'):lX w' B k:=by
 have f:=i.block k m h;rcases h with h|h
 ·exact zl h
 ·exact zi λe a j o=>h e a j (by rw [<-f];exact o)
theorem Fr.trans{B:Nat}{a b c:World}(e:Fr B a b)(k:Fr B b c):Fr B a c:=
 ⟨k.os.trans e.os,k.tape.trans e.tape,k.output.trans e.output,Nat.le_trans e.size k.size,λj f i=>by
  rw [k.block j (Nat.lt_of_lt_of_le f e.size) (i.fr f e),e.block j f i]⟩
theorem Fr.of_below(a:aB w w'):Fr B w w':=⟨a.os,a.tape,a.output,a.size,λk e _=>a.block k e⟩
theorem Fr.below(a:Fr B w w')(f:B<=w.heap.size):Below B w w':=⟨a.os,a.tape,a.output,a.size,λk e=>a.block k (by omega) (zl e)⟩
theorem Fr.cell(f:Fr B w w'){a:Addr}{v:Value}(e:w.cell? a=some v)(i:lX w B a.block):w'.cell? a=some v:=
 (World.cell?_of_block (f.block _ (zr w a e) i)).trans e
theorem Fr.alloc{a:World}(f:Fr B a w)(e:Obj):Fr B a (w.alloc e):=f.trans (.of_below ((Below.refl _ _).alloc (zq _) e))
theorem Fr.drawn{a e:World}(f:Fr B a w)(k:∃n,e=w.drewN n):Fr B a e:=f.trans (.of_below (aR k))
structure fV(w:World)(B:Nat)(a:Option Addr)(l:List Nd):Prop where
 nodes:dV w a l
 low:∀p,a=some p->p.block<B
theorem fV.fr{e:Option Addr}(a:fV w B e l)(i:Fr B w w'):fV w' B e l:=
 ⟨⟨a.nodes.few,a.nodes.short,λk p=>by
  obtain ⟨b,q,f,m,o⟩:=a.nodes.cell k p;have j:=a.low _ f;exact ⟨b,q,f,i.cell m (zl j),i.cell o (zl j)⟩⟩,a.low⟩
structure dD(w:World)(B:Nat)(a:Option Addr)(c:List Lt):Prop where
 few:c.length<=8
 cell:∀k (h:k<c.length),∃b o aa cap,a=some ⟨b,o,none⟩/\lX w B b/\w.cell? ⟨b,o+k*2,none⟩=some (.bool c[k].1)/\w.cell? ⟨b,o+k*2+1,none⟩=some (.slice aa c[k].2.length cap)/\c[k].2.length<=cap/\fV w B aa c[k].2
theorem dD.fr{f:Option Addr}(i:dD w B f c)(a:Fr B w w'):dD w' B f c:=
 ⟨i.few,λk y=>by
  obtain ⟨b,z,m,o,p,e,j,q,u,s⟩:=i.cell k y;exact ⟨b,z,m,o,p,e.fr (zr w _ j) a,a.cell j e,a.cell q e,u,s.fr a⟩⟩
def aB7(w:World)(B:Nat)(r:Option (List Nd))(v:Value):Prop:=
 match r with
 |none=>v=.slice none 0 0
 |some t=>∃a e,v=.slice (some a) t.length e/\fV w B (some a) t
theorem aB7.fr{r:Option (List Nd)}(a:aB7 w B r v)(i:Fr B w w'):aB7 w' B r v:=by
 cases r with
 |none=>exact a
 |some t=>obtain ⟨e,f,j,m⟩:=a;exact ⟨e,f,j,m.fr i⟩
structure cB(w:World)(B g:Nat)(dv:Value)(L:bG):Prop where
 low:B<=g
 blk:∃cs,w.heap[g]?=some (.cells cs 136 (0,0))
 among:w.cell? ⟨g,0,none⟩=some dv
 term:∀x:Nat,x<60->∃v,w.cell? ⟨g,1+x,none⟩=some v/\aB7 w B (look L (x:Int)) v
 bound:∃bv,w.cell? ⟨g,61,none⟩=some bv/\w.ownsRow B 3 1 bv L.length (L.map λp=>.int .i64 p.1)
 ok:mT L
theorem cB.frozen{a:bG}(e:cB w B g dv a)(j:Nat):w.frozen? ⟨g,j,none⟩=false:=by obtain ⟨i,f⟩:=e.blk;simp [World.frozen?,f]
theorem cB.lt{a:bG}(e:cB w B g dv a):g<w.heap.size:=zr w _ e.among
theorem cB.below{e:bG}(a:cB w B g dv e)(k:aB w w'):cB w' B g dv e:=by
 obtain ⟨j,f,i⟩:=a.bound;refine ⟨a.low,?_,aC k a.among,λx p=>?_,⟨j,aC k f,bK i k (zq _)⟩,a.ok⟩
 ·obtain ⟨m,o⟩:=a.blk;exact ⟨m,by rw [k.block g a.lt];exact o⟩
 ·obtain ⟨v,q,s⟩:=a.term x p;exact ⟨v,aC k q,s.fr (Fr.of_below k)⟩
theorem cB.drawn{a:bG}(e:cB w B g dv a)(k:∃n,w'=w.drewN n):cB w' B g dv a:=e.below (aR k)
theorem aY9{n:Nat}(e:w.ownsRow B 3 1 v n xs)(a:v.ownBlock=some k):¬lX w B k:=by
 obtain ⟨_,⟨rfl,_⟩|⟨g,i,j,rfl,m,f,_⟩⟩:=e
 ·simp [zw] at a
 ·simp [zw] at a;subst a;rintro (hs|hs)
  ·omega
  ·exact (hs _ _ _ f).2 rfl
theorem Fr.grownInts{n:Nat}(f:w.ownsRow B 3 1 v n xs)(a:w.grownBy w' v.ownBlock):Fr B w w':=
 ⟨a.os,a.tape,a.output,a.size,λk i j=>a.block k i (λe=>aY9 f e.symm j)⟩
theorem cB.apart{f:bG}(i:cB w B g dv f){v:Value}{n:Nat}{xs:List Value}(m:w.ownsRow B 3 1 v n xs):some g≠v.ownBlock:=by
 intro a;obtain ⟨_,⟨rfl,_⟩|⟨k,o,q,rfl,s,j,_⟩⟩:=m
 ·simp [zw] at a
 ·simp [zw] at a;subst a;obtain ⟨p,e⟩:=i.blk;rw [j] at e;simp at e
theorem aB8{a:TypeId}{f:Nat}{n:Nat}(m:w.ownsRow B a f v n xs){p:Addr}(u:some p.block≠v.ownBlock)(z:Value):(w.setCell p z).ownsRow B a f v n xs:=by
 obtain ⟨e,⟨rfl,o⟩|⟨g,i,j,rfl,q,s,y⟩⟩:=m
 ·exact ⟨e,zl ⟨rfl,o⟩⟩
 ·refine ⟨e,zi ⟨g,i,j,rfl,q,?_,y⟩⟩;rw [heap_setCell_other _ _ _ _ (λa=>u (by simp [zw,a])),s]
def oV(w:World)(g:Nat):Prop:=∃a,w.heap[g]?=some (.cells a 136 (0,0))
theorem oV.set(e:oV w g)(j:Nat)(u:Value):oV (w.setCell ⟨g,j,none⟩ u) g:=by obtain ⟨a,f⟩:=e;exact ⟨_,heap_setCell_same w g j a _ u f⟩
theorem oV.grown{r:Option Nat}(f:oV w g)(i:w.grownBy w' r)(j:some g≠r):oV w' g:=by obtain ⟨e,a⟩:=f;exact ⟨e,by rw [i.block g (Array.getElem?_eq_some_iff.1 a).1 j];exact a⟩
theorem Fr.setB(o:B<=g)(f:oV w g)(j:Nat)(m:Value):Fr B w (w.setCell ⟨g,j,none⟩ m):=by
 refine ⟨rfl,rfl,rfl,by simp [World.setCell],λk _ hs=>heap_setCell_other _ _ _ _ (λa=>?_)⟩;simp at a;subst a;rcases hs with hs|hs
 ·omega
 ·obtain ⟨e,i⟩:=f;exact (hs e _ _ i).1 rfl
theorem aYa{e:bG}{a x:Nat}(i:look e (a:Int)=none):look (e++[((a:Int),t)]) (x:Int)=if x=a then some t else look e (x:Int):=by
 rw [yV];by_cases f:x=a
 ·subst f;rw [i];simp
 ·have:¬(x:Int)=(a:Int):=by omega
  simp [f,this]
theorem cB.more{e:World}{f q:Nat}{E j:Value}{m:bG}{a:Addr}{o:Obj}(i:cB w B g dv m)(Y:f<60)(G:look m (f:Int)=none)(T:fV w B (some a) t)(Z:aQ t 1=true)(S:t.length<=60)
  (H:w.ownsRow B 3 1 E m.length (m.map λp=>.int .i64 p.1)) (u:((w.setCell ⟨g,1+f,none⟩ (.slice (some a) t.length q)).alloc o).grownBy e E.ownBlock)
  (I:e.ownsRow B 3 1 j (m.length+1) ((m.map λp=>.int .i64 p.1)++[.int .i64 (f:Int)])):cB (e.setCell ⟨g,61,none⟩ j) B g dv (m++[((f:Int),t)])/\Fr B w (e.setCell ⟨g,61,none⟩ j):=by
 have s:=i.apart H;have N:oV (w.setCell ⟨g,1+f,none⟩ (.slice (some a) t.length q)) g:=oV.set i.blk _ _;have a3:=aB8 H (p:=⟨g,1+f,none⟩) s (.slice (some a) t.length q);have Q:Fr B w (w.setCell ⟨g,1+f,none⟩ (.slice (some a) t.length q)):=Fr.setB i.low i.blk _ _;have A:oV e g:=(N.grown (World.grownBy_alloc _ o none) (by simp)).grown u s;have R:Fr B w e:=(Q.alloc o).trans (Fr.grownInts (a3.alloc o) u);have D:Fr B w (e.setCell ⟨g,61,none⟩ j):=R.trans (Fr.setB i.low A _ _);have L:∀z v,z≠1+f->z≠61->w.cell? ⟨g,z,none⟩=some v->(e.setCell ⟨g,61,none⟩ j).cell? ⟨g,z,none⟩=some v:=by intro z v a6 a7 y;rw [zy e _ _ _ (by first|(simp;done)|(simp;omega))];refine u.cell (aC ((Below.refl _ _).alloc (zq _) o) ?_) s;rw [zy w _ _ _ (by first|(simp;done)|(simp;omega))];exact y
 have a2:(e.setCell ⟨g,61,none⟩ j).cell? ⟨g,1+f,none⟩=some (.slice (some a) t.length q):=by rw [zy e _ _ _ (by first|(simp;done)|(simp;omega))];obtain ⟨v,y,_⟩:=i.term f Y;exact u.cell (aC ((Below.refl _ _).alloc (zq _) o) (zs w _ _ y)) s
 have P:∃M,e.cell? ⟨g,61,none⟩=some M:=by obtain ⟨O,W,_⟩:=i.bound;refine ⟨O,u.cell (aC ((Below.refl _ _).alloc (zq _) o) ?_) s⟩;rw [zy w _ _ _ (by first|(simp;done)|(simp;omega))];exact W
 obtain ⟨M,a0⟩:=P;have V:some g≠j.ownBlock:=by
  intro C;obtain ⟨_,⟨rfl,_⟩|⟨k,q,a5,rfl,a8,X,_⟩⟩:=I
  ·simp [zw] at C
  ·simp [zw] at C;subst C;obtain ⟨a4,F⟩:=A;rw [X] at F;simp at F
 refine ⟨⟨i.low,A.set _ _,L 0 dv (by omega) (by omega) i.among,λx a1=>?_,⟨j,zs e _ _ a0,?_⟩,i.ok.snoc G (by omega) (by omega) Z S⟩,D⟩
 ·rw [aYa G];by_cases J:x=f
  ·subst J;rw [aI rfl];exact ⟨_,a2,a,q,rfl,T.fr D⟩
  ·rw [aH J];obtain ⟨v,y,U⟩:=i.term x a1;exact ⟨v,L _ v (by omega) (by omega) y,U.fr D⟩
 ·have:=aB8 I (p:=⟨g,61,none⟩) V j;simpa using this
theorem cB.less{a M:bG}(f:cB w B g dv (a++M))(j:oV w' g)(C:Fr B w w')
  (u:w'.cell? ⟨g,0,none⟩=some dv) (G:∀x:Nat,x<60->w'.cell? ⟨g,1+x,none⟩=if (x:Int)∈M.map zx then some (.slice none 0 0) else w.cell? ⟨g,1+x,none⟩) (y:(w'.cell? ⟨g,61,none⟩).isSome=true) {bv':Value}
  (q:w'.ownsRow B 3 1 bv' a.length (a.map λH=>.int .i64 H.1)):cB (w'.setCell ⟨g,61,none⟩ bv') B g dv a/\Fr B w (w'.setCell ⟨g,61,none⟩ bv'):=by
 have m:Fr B w (w'.setCell ⟨g,61,none⟩ bv'):=C.trans (Fr.setB f.low j _ _);obtain ⟨O,E⟩:=Option.isSome_iff_exists.1 y;have A:some g≠bv'.ownBlock:=by
  intro e;obtain ⟨_,⟨rfl,_⟩|⟨k,I,L,rfl,N,D,_⟩⟩:=q
  ·simp [zw] at e
  ·simp [zw] at e;subst e;obtain ⟨J,o⟩:=j;rw [D] at o;simp at o
 refine ⟨⟨f.low,j.set _ _,by rw [zy w' _ _ _ (by simp)];exact u,λx s=>?_,⟨bv',zs w' _ _ E,aB8 q (p:=⟨g,61,none⟩) A bv'⟩,f.ok.left⟩,m⟩;rw [zy w' _ _ _ (by first|(simp;done)|(simp;omega)),G x s];obtain ⟨v,F,z⟩:=f.term x s;by_cases i:(x:Int)∈M.map zx
 ·rw [aI i];refine ⟨_,rfl,?_⟩;have:look a (x:Int)=none:=by
   cases hl:look a (x:Int) with
   |none=>rfl
   |some t=>
    exfalso;have p:=f.ok.once;rw [zm,zo] at p;exact p.2.2 _ (zt.2 ⟨_,aB6 hl,rfl⟩) _ i rfl
  rw [this];rfl
 ·rw [aH i];refine ⟨v,F,?_⟩;have e:look (a++M) (x:Int)=look a (x:Int):=by
   rw [yW];have:look M (x:Int)=none:=by
    cases hl:look M (x:Int) with
    |none=>rfl
    |some t=>exact absurd (zt.2 ⟨_,aB6 hl,rfl⟩) i
   rw [this];simp
  rw [<-e];exact z.fr m
theorem aYb{a:ByteArray}(i:cZ (a,x)=true)(f:¬a.toList.isEmpty=true):0<=x/\x<=5/\aX (a,x)=x.toNat:=by
 have e:eS a=true/\0<=x/\x<=5:=by simpa [cZ,aK,f] using i
 exact ⟨e.2.1,e.2.2,by unfold aX aK;rw [aH f]⟩
