import Derived.Test.YtbpiopdphigodaaGreatDoorPCl0P
import Derived.Test.YtbpiopdphigodaaGreatDoorONum0P
import Derived.OwnWalk
import Derived.Test.YtbpiopdphigodaaGreatDoorRPrim0P
import Derived.Test.YtbpiopdphigodaaGreatDoorRTermP
import Derived.Test.YtbpiopdphigodaaGreatDoorLMemP
import Derived.RangeFuncNested
import Derived.RangeFuncBound
import Derived.RangeFuncCalls
import Derived.RangeFuncLeaves
open Array renaming getElem?_eq_some_iff→zu
open List renaming getElem?_eq_some_iff→zz,set_cons_succ→zy,getElem?_eq_getElem→zx,getElem?_set→zw,replicate→zv,countP_cons→zn,length_set→zm,replicate_succ→zl,getElem?_cons_succ→zg,drop_succ_cons→zc,mem_cons→zb,ext_getElem?→za,cons_append→z0
open Nat renaming add_comm→zt,le_refl→zr,mod_two_eq_zero_or_one→zj
open Or renaming inl→zs,inr→zo
namespace Go.Proofs.YtbpiopdphigodaaGreatDoor
open _root_.Go.Proofs.Tryz renaming underlying138→zk,prog→zi,underlying3→zh
open Value renaming ownBlock→zq,int→ze
open World renaming cell?→zf
open Go.RowKit Go.Shelf Go.WideMaps
set_option maxHeartbeats 1000000
set_option maxRecDepth 100000
variable{G:Gr}{xs:List Value}{a b n:Nat}{d rt:Nat->Nat}{E E' Q:Nat->Nat->Prop}{e:TypeId}{v:Value}{w:World}
def fK(v:Value):Option (DataW Unit×List MemPlace):=
 match v with
 | .int .i64 x=>some (.lit (.int .i64 x),[])
 |_=>none
structure oH(D:DataW Unit)(sn:List Int):Prop where
 tidy:Maps.Tidy D
 size:Maps.size D=sn.length
 old:∀x,0<=eQ sn x->Maps.has D (.int .i64 x)=true/\∀z,D.atKey (.int .i64 x) z=.lit (.int .i64 (eQ sn x))
 new:∀x,eQ sn x<0->Maps.has D (.int .i64 x)=false
theorem oH.start:oH (.map []) []:=⟨⟨[],rfl,by simp⟩,rfl,λf c=>by rw [aE9] at c;omega,λf _=>rfl⟩
theorem oH.put{l:DataW Unit}{j:List Int}{x:Int}(c:oH l j)(p:eQ j x<0):oH (l.put (.int .i64 x) (.lit (.int .i64 j.length))) (j++[x]):=by
 have k:WideAt.IsKeyLit (.int .i64 x):=trivial;refine ⟨c.tidy.put k _,?_,λy f=>?_,λy f=>?_⟩
 ·rw [Maps.size_put c.tidy,c.new x p,c.size];simp
 ·rw [aAe] at f ⊢;by_cases g:x=y
  ·subst g;rw [aG rfl];exact ⟨Maps.has_put_same c.tidy.isMap k _,λo=>Maps.atKey_put_same c.tidy.isMap k _ _⟩
  ·rw [aF g] at f ⊢;have i:(Lit.int .i64 y)≠.int .i64 x:=λe=>g (by simpa using e.symm)
   have m:=c.old y f;exact ⟨by rw [Maps.has_put_other i];exact m.1,λo=>by rw [Maps.atKey_put_other i];exact m.2 o⟩
 ·rw [aAe] at f;by_cases g:x=y
  ·rw [aG g] at f;omega
  ·rw [aF g] at f;have i:(Lit.int .i64 y)≠.int .i64 x:=λe=>g (by simpa using e.symm)
   rw [Maps.has_put_other i];exact c.new y f
theorem aBg{c:Int}(f : -1000000000<=c)(g:c<=1000000000):(Lit.int .i64 c).wf=true:=by simp [Lit.wf,IntKind.min,IntKind.max,IntKind.bits,IntKind.signed];omega
theorem yJ{f:Int}{ps:List MemPlace}(c:fK v=some (.lit (.int .i64 f),ps)):v=.int .i64 f:=by
 unfold fK at c;split at c
 ·simp at c;rw [c.1]
 ·simp at c
def nF(c:List Int)(f:Int):List Int×Int:=if eQ c f<0 then (c++[f],(c.length:Int)) else (c,eQ c f)
theorem aQ0(i:Nat)(l:DataW Unit)(c:List Int)(f:Int)(w:World)(m:w.ownsMap zi 3 fK i c.length l)(g:oH l c)(I:0<=f)(J:f<=1000000000)(L:c.length<=1000000):Calls zi 88 #[.map (some i),.int .i64 f] w λe A=>∃u:DataW Unit,e=.returned (.int .i64 (nF c f).2)/\A.ownsMap zi 3 fK i (nF c f).1.length u/\oH u (nF c f).1/\w.grownBy A (some i):=by
 have o:keyOf zi 3 (.int .i64 f)=some (.int .i64 f):=Maps.keyOf_int_mk zh (aBg (by omega) (by omega));obtain ⟨v,N,z,k⟩:=m.look_ok (Maps.int_keyed zh) zk (Tryz.zeroValue3 _) (zd:=.lit (.int .i64 0)) (zp:=[]) rfl o;by_cases j:eQ c f<0
 ·have q:aI (nF c f=(c++[f],(c.length:Int))):=aA (by unfold nF;rw [aG j]);have r:=g.new f j;rw [r] at z;rw [yI g.tidy.isMap r] at k;have t:=yJ k;subst t;have p:=aA (g.put j);have C:=aA o;have H:=aA g.size;have M:=g.size;clear k r g o j;go_enter Tryz.func88,Tryz.ntmps88;go_wp2_with (first
   |(at_len;refine wpList_len_own _ rfl _ 138 rfl 3 3 zk _ i c.length l rfl m ?_)
   |(at_mapUpdate;refine wpList_mapUpdate_own _ rfl _ _ _ 138 rfl 3 3 (Maps.int_keyed zh) zk fK i c.length l rfl m (by unfold maxLen;omega) _ _ (.int .i64 f) rfl rfl (aC C) (.lit (.int .i64 c.length)) [] ?_ ?_)
   |go_in)
  case refine_1=>rfl
  intro O y x;have D:=aA y;have B:=aA x;clear y x;go_wp2;go_ret;rw [q.o];exact ⟨_,rfl,by rw [List.length_append];exact D.o,p.o,B.o⟩
 ·have q:aI (nF c f=(c,eQ c f)):=aA (by unfold nF;rw [aF j]);have s:=g.old f (by omega);rw [s.1] at z;rw [s.2] at k;have t:=yJ k;subst t;have p:=aA g;have F:=aA m;clear k s g o j m;go_enter Tryz.func88,Tryz.ntmps88;go_wp2;go_ret;rw [q.o];exact ⟨l,rfl,F.o,p.o,⟨rfl,rfl,rfl,zr _,λ_ _ _=>rfl⟩⟩
abbrev yK:Nd:=(⟨#[]⟩,0)
abbrev rN:Lt×Value:=((false,[]),.slice none 0 0)
theorem aBh(c:Nd)(f:List Nd):aV (c::f)=.string c.1::.int .i64 c.2::aV f:=rfl
theorem yL(c:Lt×Value)(f:List (Lt×Value)):bC (c::f)=.bool c.1.1::c.2::bC f:=rfl
theorem aQ1(g:List Nd):∀(c:Nat) (f:Nd),c<g.length->((aV g).set (c*2) (.string f.1)).set (c*2+1) (.int .i64 f.2)=aV (g.set c f):=by
 induction g with
 |nil=>intro c f i;simp at i
 |cons y r ih=>
  intro c f i;cases c with
  |zero=>rfl
  |succ c=>
   have:=ih c f (by simpa using i);rw [show (c+1)*2=c*2+1+1 by omega,zy,aBh,aBh,zy,zy,zy,zy,this]
theorem aQ2(g:List (Lt×Value)):∀(c:Nat) (f:Lt×Value),c<g.length->((bC g).set (c*2) (.bool f.1.1)).set (c*2+1) f.2=bC (g.set c f):=by
 induction g with
 |nil=>intro c f i;simp at i
 |cons y r ih=>
  intro c f i;cases c with
  |zero=>rfl
  |succ c=>
   have:=ih c f (by simpa using i);rw [show (c+1)*2=c*2+1+1 by omega,zy,yL,yL,zy,zy,zy,zy,this]
theorem aFy{i:Type}(a:List i)(g f:i)(c:Nat)(j:a.length<c):(a++zv (c-a.length) g).set a.length f=(a++[f])++zv (c-(a.length+1)) g:=by rw [show c-a.length=(c-(a.length+1))+1 by omega,zl,List.set_append_right _ _ (zr _)];simp
theorem aQ3(n:Nat):∀j,(aV (zv n yK))[j]?=if j<n*2 then some (if j % 2=0 then .string ⟨#[]⟩ else .int .i64 0) else none:=by
 induction n with
 |zero=>intro j;simp [aV]
 |succ n ih=>
  intro j;rw [zl,aBh];match j with
  |0=>simp
  |1=>simp;omega
  |j+2=>
   simp only [zg];rw [ih j];have e:(j+2) % 2=j % 2:=by omega
   rw [e];by_cases c:j<n*2
   ·rw [aG c,aG (show j+2<(n+1)*2 by omega)]
   ·rw [aF c,aF (show ¬j+2<(n+1)*2 by omega)]
theorem aQ4(n:Nat):∀j,(bC (zv n rN))[j]?=if j<n*2 then some (if j % 2=0 then .bool false else .slice none 0 0) else none:=by
 induction n with
 |zero=>intro j;simp [bC]
 |succ n ih=>
  intro j;rw [zl,yL];match j with
  |0=>simp
  |1=>simp;omega
  |j+2=>
   simp only [zg];rw [ih j];have e:(j+2) % 2=j % 2:=by omega
   rw [e];by_cases c:j<n*2
   ·rw [aG c,aG (show j+2<(n+1)*2 by omega)]
   ·rw [aF c,aF (show ¬j+2<(n+1)*2 by omega)]
theorem aQ5(n:Nat):(madeCells #[.string ⟨#[]⟩,.int .i64 0] (n*2)).toList=aV (zv n yK):=by
 apply za;intro f;rw [aQ3];by_cases c:f<n*2
 ·rw [aG c];rcases zj f with h|h<;>simp [madeCells,c,h]
 ·rw [aF c];simp [madeCells];omega
theorem aQ6(n:Nat):(madeCells #[.bool false,.slice none 0 0] (n*2)).toList=bC (zv n rN):=by
 apply za;intro f;rw [aQ4];by_cases c:f<n*2
 ·rw [aG c];rcases zj f with h|h<;>simp [madeCells,c,h]
 ·rw [aF c];simp [madeCells];omega
theorem aFz{i:Nat}{p:Nat}{f o:Nat}{j:DataW Unit}(k:w.ownsRow i e p v n xs)(m:w.ownsMap zi 3 fK f o j):v.ownBlock≠some f:=by
 obtain ⟨t,r,l,_⟩:=m;obtain ⟨_,⟨rfl,_⟩|⟨g,q,s,rfl,_,c,_⟩⟩:=k
 ·simp [zq]
 ·simp [zq];rintro rfl;rw [l] at c;simp at c
theorem sV{c:Nat}{i:Nat}(l:w.ownsRow c e i v n xs){p:Addr}(r:some p.block≠v.ownBlock)(t:Value):(w.setCell p t).ownsRow c e i v n xs:=by
 obtain ⟨f,⟨rfl,m⟩|⟨g,j,k,rfl,o,q,s⟩⟩:=l
 ·exact ⟨f,zs ⟨rfl,m⟩⟩
 ·refine ⟨f,zo ⟨g,j,k,rfl,o,?_,s⟩⟩;rw [heap_setCell_other _ _ _ _ (λe=>r (by simp [zq,e])),q]
theorem aQ7{m:Type}(f:List m)(g i:m->Bool)(j:∀c∈f,g c=true->i c=true)(c:m)(hx:c∈f)(o:g c=false)(p:i c=true):f.countP g<f.countP i:=by
 induction f with
 |nil=>simp at hx
 |cons y r ih=>
  have s:r.countP g<=r.countP i:=List.countP_mono_left λl k=>j l (by simp [k])
  rcases zb.1 hx with rfl|hx
  ·rw [zn,zn,o,p];simp;omega
  ·have:=ih (λl k=>j l (by simp [k])) hx;rw [zn,zn];have q:=j y (by simp);cases hpy:g y
   ·cases i y<;>simp<;>omega
   ·rw [q hpy];simp;omega
theorem sW(f:List Nd):∀c q,aL f (c+q)=aL f c+aL (f.drop (aL f c)) q:=by
 induction f with
 |nil=>intro c q;cases c<;>cases q<;>simp [aL]
 |cons n r ih=>
  intro c q;cases c with
  |zero=>simp
  |succ c=>
   rw [show c+1+q=(c+q)+1 by omega];simp only [aL];rw [show c+q+aX n=(c+aX n)+q by omega,ih (c+aX n) q,zt 1 (aL r (c+aX n)),zc];omega
def iV:List Nd->Nat->Nat->List Nat
 |_,0,_=>[]
 |s,k+1,b=>b::iV (s.drop (aL s 1)) k (b+aL s 1)
@[simp] theorem bA9(s:List Nd)(b:Nat):iV s 0 b=[]:=rfl
theorem mL(c:List Nd)(f b:Nat):iV c (f+1) b=b::iV (c.drop (aL c 1)) f (b+aL c 1):=rfl
theorem aBi(f:List Nd)(c:Nat):∀b,(iV f c b).length=c:=by
 induction c generalizing f with
 |zero=>intro b;rfl
 |succ c ih=>intro b;rw [mL];simp [ih]
theorem aQ8(f:Nat):∀(c:List Nd) (g b:Nat),iV c (f+g) b=iV c f b++iV (c.drop (aL c f)) g (b+aL c f):=by
 induction f with
 |zero=>intro c g b;simp
 |succ f ih=>
  intro c g b;rw [show f+1+g=(f+g)+1 by omega,mL,mL,ih,show aL c (f+1)=aL c 1+aL (c.drop (aL c 1)) f by rw [<-sW];congr 1;omega,List.drop_drop,z0];simp [Nat.add_assoc,zt (aL c 1)]
def eM:List Nd->Nat->Prop
 |_,0=>True
 |[],_+1=>False
 |n::r,q+1=>eM r (q+aX n)
@[simp] theorem bAa(l:List Nd):eM l 0:=by cases l<;>trivial
theorem aQ9(g:List Nd):∀c,aN g c=true->eM g c:=by
 induction g with
 |nil=>intro c f;simp [aN] at f;subst f;trivial
 |cons n r ih=>
  intro c f;cases c with
  |zero=>trivial
  |succ c=>rw [mQ,Bool.and_eq_true] at f;exact ih _ f.2
theorem tZ(f:List Nd):∀c q,eM f (c+q)↔eM f c/\eM (f.drop (aL f c)) q:=by
 induction f with
 |nil=>
  intro c q;cases c with
  |zero=>simp
  |succ c=>rw [show c+1+q=(c+q)+1 by omega];simp [eM]
 |cons n r ih=>
  intro c q;cases c with
  |zero=>simp
  |succ c=>
   rw [show c+1+q=(c+q)+1 by omega];simp only [eM,aL];rw [show c+q+aX n=(c+aX n)+q by omega,ih,zt 1,zc]
theorem aBj{c:List Nd}{q:Nat}(f:eM c (q+1)):0<aL c (q+1):=by
 cases c with
 |nil=>exact f.elim
 |cons n r=>simp [aL];omega
theorem aBk(f:Nat):∀(c:List Nd) (b:Nat),eM c f->∀g∈iV c f b,b<=g/\g<b+aL c f:=by
 induction f with
 |zero=>intro c b _ g h;simp at h
 |succ f ih=>
  intro c b j g h;rw [mL] at h;have e:aL c (f+1)=aL c 1+aL (c.drop (aL c 1)) f:=by rw [<-sW];congr 1;omega
  have i:=(tZ c 1 f).1 (by rw [zt];exact j);have k:=aBj (q:=0) i.1;rw [Nat.zero_add] at k;rcases zb.1 h with rfl|h
  ·omega
  ·have:=ih _ _ i.2 g h;omega
theorem aBl(f i:List Nd):∀c,eM f c->aL (f++i) c=aL f c:=by
 induction f with
 |nil=>intro c g;cases c with
  |zero=>simp
  |succ c=>exact g.elim
 |cons n r ih=>
  intro c g;cases c with
  |zero=>simp
  |succ c=>simp only [z0,aL];rw [ih _ g]
theorem aG0(g i:List Nd):∀c,eM g c->eM (g++i) c:=by
 induction g with
 |nil=>intro c f;cases c with
  |zero=>simp
  |succ c=>exact f.elim
 |cons n r ih=>
  intro c f;cases c with
  |zero=>simp
  |succ c=>exact ih _ f
theorem aQa(c:Nat):∀(f g:List Nd) (b:Nat),eM f c->iV (f++g) c b=iV f c b:=by
 induction c with
 |zero=>intro f g b _;rfl
 |succ c ih=>
  intro f g b j;have i:=(tZ f 1 c).1 (by rw [zt];exact j);rw [mL,mL,aBl _ _ _ i.1,List.drop_append_of_le_length (rS _ _),ih _ _ _ i.2]
theorem aQb(g:List Nd):∀(c f:Nat),eM g c->f<aL g c->∃n,g[f]?=some n/\eM (g.drop (f+1)) (aX n)/\f+1+aL (g.drop (f+1)) (aX n)<=aL g c:=by
 induction g with
 |nil=>intro c f j i;cases c<;>simp [aL] at i
 |cons n r ih=>
  intro c f j i;cases c with
  |zero=>simp at i
  |succ c=>
   simp only [aL] at i ⊢;have m:=(tZ r (aX n) c).1 (by rw [zt];exact j);have o:=sW r (aX n) c;rw [zt (aX n) c] at o;cases f with
   |zero=>exact ⟨n,rfl,by simpa using m.1,by simp;omega⟩
   |succ f=>
    obtain ⟨p,k,l,q⟩:=ih (c+aX n) f j (by omega);exact ⟨p,by simpa using k,by simpa using l,by simp;omega⟩
inductive eI(B:Nat->Nat->Prop):Nat->Nat->Prop
 |refl (i):eI B i i
 |base {i j}:B i j->eI B i j
 |symm {i j}:eI B i j->eI B j i
 |trans {i j k}:eI B i j->eI B j k->eI B i k
theorem eI.le{i R:Nat->Nat->Prop}(j:∀c,R c c)(l:∀c f,R c f->R f c)(m:∀c f k,R c f->R f k->R c k)(o:∀c f,i c f->R c f){c f:Nat}(g:eI i c f):R c f:=by
 induction g with
 |refl c=>exact j c
 |base g=>exact o _ _ g
 |symm _ ih=>exact l _ _ ih
 |trans _ _ a b=>exact m _ _ _ a b
theorem eI.mono{B c:Nat->Nat->Prop}(f:∀i j,B i j->eI c i j){i j:Nat}(k:eI B i j):eI c i j:=k.le eI.refl (λ_ _=>eI.symm) (λ_ _ _=>eI.trans) f
def aJ(c:List Nd):Gr:=⟨λi=>(c[i]?).getD (⟨#[]⟩,0),λi=>match c[i]? with|some n=>iV (c.drop (i+1)) (aX n) (i+1)|none=>[]⟩
theorem pF{f:List Nd}{g:Nat}(c:(aJ f).named g):∃n,f[g]?=some n/\aM n=false:=by
 unfold Gr.named aJ at c;simp only at c;cases hl:f[g]? with
 |none=>rw [hl] at c;simp only [Option.getD_none] at c;rw [uJ] at c;cases c
 |some n=>rw [hl] at c;exact ⟨n,rfl,c⟩
theorem gX{c:List Nd}{f:Nat}{n:Nd}(g:c[f]?=some n):(aJ c).named f↔aM n=false:=by unfold Gr.named aJ;simp [g]
theorem pG{c:List Nd}{f:Nat}{n:Nd}(g:c[f]?=some n):(aJ c).lab f=n:=by simp [aJ,g]
theorem lU{f:List Nd}{c:Nat}{n:Nd}(g:f[c]?=some n):(aJ f).ch c=iV (f.drop (c+1)) (aX n) (c+1):=by simp [aJ,g]
theorem uA(g:List Nd):(aJ g).Arity:=by intro k l i j e;obtain ⟨n,c,_⟩:=pF i;obtain ⟨m,f,_⟩:=pF j;rw [pG c,pG f] at e;rw [lU c,lU f,aBi,aBi,e]
structure fR(F:List Nat)(rt d:Nat->Nat):Prop where
 lt:∀p q:Nat,F[p]?=some q->q<F.length
 root:∀p:Nat,F[p]?=some p->rt p=p
 step:∀p q:Nat,F[p]?=some q->q≠p->rt p=rt q/\d q<d p
 out:∀p:Nat,F.length<=p->rt p=p
theorem fR.isRoot{i:List Nat}(j:fR i rt d):∀(n c:Nat),d c<=n->c<i.length->i[rt c]?=some (rt c):=by
 intro n;induction n with
 |zero=>
  intro c l k;obtain ⟨f,g⟩ : ∃f,i[c]?=some f:=⟨i[c],zx k⟩;by_cases e:f=c
  ·subst e;rw [j.root _ g];exact g
  ·have:=(j.step c f g e).2;omega
 |succ n ih=>
  intro c l k;obtain ⟨f,g⟩ : ∃f,i[c]?=some f:=⟨i[c],zx k⟩;by_cases e:f=c
  ·subst e;rw [j.root _ g];exact g
  ·have m:=j.step c f g e;rw [m.1];exact ih f (by omega) (j.lt c f g)
theorem fR.rootAt{f:List Nat}(g:fR f rt d){c:Nat}(i:c<f.length):f[rt c]?=some (rt c):=g.isRoot _ c (zr _) i
theorem fR.rt_lt{c:List Nat}(f:fR c rt d){p:Nat}(g:p<c.length):rt p<c.length:=(zz.1 (f.rootAt g)).1
theorem fR.rt_rt{f:List Nat}(c:fR f rt d)(p:Nat):rt (rt p)=rt p:=by
 by_cases g:p<f.length
 ·exact c.root _ (c.rootAt g)
 ·rw [c.out p (by omega),c.out p (by omega)]
def fL(rt:Nat->Nat)(a b c:Nat):Nat:=if rt c=a then b else rt c
def dJ(rt d:Nat->Nat)(a b c:Nat):Nat:=if rt c=a then d c+d b+1 else d c
theorem fR.join{k:List Nat}(i:fR k rt d){a b:Nat}(o:k[a]?=some a)(p:k[b]?=some b)(l:a≠b):fR (k.set a b) (fL rt a b) (dJ rt d a b):=by
 have y:=(zz.1 p).1;have x:=(zz.1 o).1;have s:=i.root a o;have t:=i.root b p;refine ⟨λg m c=>?_,λg f=>?_,λg m c r=>?_,λg f=>?_⟩
 ·rw [zw] at c;rw [zm];split at c
  ·simp at c;omega
  ·exact i.lt g m c
 ·rw [zw] at f;split at f
  ·rename_i e;subst e;simp at f;exact absurd f.symm l
  ·rename_i e;have:=i.root g f;unfold fL;rw [this,aF (λj=>e j.symm)]
 ·rw [zw] at c;split at c
  ·rename_i e;subst e;simp at c;subst c;unfold fL dJ;rw [s,t,aG rfl,aF (λj=>l j.symm),aF (λj=>l j.symm),aG rfl];exact ⟨rfl,by omega⟩
  ·obtain ⟨q,u⟩:=i.step g m c r;unfold fL dJ;rw [q];refine ⟨rfl,?_⟩;split<;>omega
 ·rw [zm] at f;unfold fL;rw [i.out g f,aF (by omega)]
theorem aG1(g i:Nat):fL rt a b g=fL rt a b i↔rt g=rt i\/(rt g=a/\rt i=b)\/(rt g=b/\rt i=a):=by
 unfold fL;by_cases c:rt g=a<;>by_cases f:rt i=a
 ·simp [c,f]
 ·rw [aG c,aF f,c];constructor
  ·intro e;exact zo (zs ⟨rfl,e.symm⟩)
  ·rintro (e|⟨_,e⟩|⟨_,e⟩)
   ·exact absurd e.symm f
   ·exact e.symm
   ·exact absurd e f
 ·rw [aF c,aG f,f];constructor
  ·intro e;exact zo (zo ⟨e,rfl⟩)
  ·rintro (e|⟨e,_⟩|⟨e,_⟩)
   ·exact absurd e c
   ·exact absurd e c
   ·exact e
 ·rw [aF c,aF f];constructor
  ·exact zs
  ·rintro (e|⟨e,_⟩|⟨_,e⟩)
   ·exact e
   ·exact absurd e c
   ·exact absurd e f
def mM(c:List Nat):Nat:=(List.range c.length).countP λp=>c[p]?==some p
theorem aG2{f:List Nat}(g:f[a]?=some a)(j:a≠b):mM (f.set a b)<mM f:=by
 have i:=(zz.1 g).1;unfold mM;rw [zm];refine aQ7 _ _ _ (λk _ c=>?_) a (by simpa using i) ?_ ?_
 ·rw [zw] at c;split at c
  ·rename_i e;subst e;simp at c;omega
  ·exact c
 ·rw [zw];simp [i];omega
 ·simp [g]
def eA(G:Gr)(E Q:Nat->Nat->Prop):Prop:=∀c f,E c f->G.named c->G.named f->G.lab c=G.lab f/\∀(k p j:Nat),(G.ch c)[k]?=some p->(G.ch f)[k]?=some j->eI (λg i=>E g i\/Q g i) p j
structure sX(E:Nat->Nat->Prop):Prop where
 refl:∀i,E i i
 symm:∀i j,E i j->E j i
 trans:∀i j k,E i j->E j k->E i k
theorem qF(rt:Nat->Nat):sX λg i=>rt g=rt i:=⟨λ_=>rfl,λ_ _ c=>c.symm,λ_ _ _ c f=>c.trans f⟩
def sY(Q:Nat->Nat->Prop)(a b:Nat)(c f:Nat):Prop:=Q c f\/(c=a/\f=b)
theorem eA.mono{c:Nat->Nat->Prop}(f:eA G E Q)(k:∀i j,Q i j->c i j):eA G E c:=λx y e r s=>by
 obtain ⟨g,l⟩:=f x y e r s;exact ⟨g,λn p t o q=>(l n p t o q).mono λi j m=>eI.base (m.imp id (k i j))⟩
theorem eA.same(c:eA G E (sY Q a b))(k:E a b):eA G E Q:=λs t e o q=>by
 obtain ⟨f,g⟩:=c s t e o q;refine ⟨f,λn p r l m=>(g n p r l m).mono λi j hij=>?_⟩;rcases hij with hij|hij|⟨rfl,rfl⟩
 ·exact eI.base (zs hij)
 ·exact eI.base (zo hij)
 ·exact eI.base (zs k)
def mN(E E':Nat->Nat->Prop)(a b:Nat):Prop:=∀c f,E' c f↔E c f\/(E c a/\E f b)\/(E c b/\E f a)
theorem mN.le(f:mN E E' a b){c q:Nat}(e:E c q):E' c q:=(f c q).2 (zs e)
theorem mN.ab(f:mN E E' a b)(c:sX E):E' a b:=(f a b).2 (zo (zs ⟨c.refl a,c.refl b⟩))
theorem mN.eqv{Q':Nat->Nat->Prop}(g:mN E E' a b)(k:sX E)(l:∀c f,Q c f->Q' c f){i j:Nat}(e:eI (λc f=>E c f\/sY Q a b c f) i j):eI (λc f=>E' c f\/Q' c f) i j:=
 e.mono λc f hij=>by
  rcases hij with hij|hij|⟨rfl,rfl⟩
  ·exact eI.base (zs (g.le hij))
  ·exact eI.base (zo (l _ _ hij))
  ·exact eI.base (zs (g.ab k))
theorem eA.var{G:Gr}{E E' Q:Nat->Nat->Prop}{a b:Nat}(o:eA G E (sY Q a b))(r:sX E)(m:mN E E' a b)(hv:(∀c,E c a->¬G.named c)\/∀c,E c b->¬G.named c):eA G E' Q:=λf g e k l=>by
 rcases (m f g).1 e with e|⟨i,j⟩|⟨i,j⟩
 ·obtain ⟨p,q⟩:=o f g e k l;exact ⟨p,λn c u s t=>m.eqv r (λ_ _=>id) (q n c u s t)⟩
 ·rcases hv with hv|hv
  ·exact absurd k (hv f i)
  ·exact absurd l (hv g j)
 ·rcases hv with hv|hv
  ·exact absurd l (hv g j)
  ·exact absurd k (hv f i)
def oI(G:Gr)(Q:Nat->Nat->Prop)(a b k:Nat)(c f:Nat):Prop:=Q c f\/∃n,k<=n/\(G.ch a)[n]?=some c/\(G.ch b)[n]?=some f
theorem eA.name{G:Gr}{E E' Q:Nat->Nat->Prop}{a b k l:Nat}(A:eA G E (sY Q a b))(t:sX E)(x:mN E E' a b)(H:G.Arity)(V:E a k)(W:E b l)(M:G.named k)(N:G.named l)(X:G.lab k=G.lab l):eA G E' (oI G Q k l 0):=by
 have L:∀c f,E c a->E f b->G.named c->G.named f->G.lab c=G.lab f/\∀(g p m:Nat),(G.ch c)[g]?=some p->(G.ch f)[g]?=some m->eI (λi j=>E' i j\/oI G Q k l 0 i j) p m:=by
  intro c f T U r s;obtain ⟨D,O⟩:=A c k (t.trans _ _ _ T V) r M;obtain ⟨F,P⟩:=A f l (t.trans _ _ _ U W) s N;refine ⟨D.trans (X.trans F.symm),λg p m o q=>?_⟩;have I:g<(G.ch k).length:=by rw [<-H c k r M D];exact (zz.1 o).1
  have J:g<(G.ch l).length:=by rw [<-H f l s N F];exact (zz.1 q).1
  have R:=x.eqv t (Q':=oI G Q k l 0) (λi j u=>zs u) (O g p _ o (zx I));have S:=x.eqv t (Q':=oI G Q k l 0) (λi j u=>zs u) (P g m _ q (zx J));exact R.trans ((eI.base (zo (zo ⟨g,Nat.zero_le _,zx I,zx J⟩))).trans S.symm)
 intro c f e r s;rcases (x c f).1 e with e|⟨y,z⟩|⟨y,z⟩
 ·obtain ⟨B,C⟩:=A c f e r s;exact ⟨B,λn p m o q=>x.eqv t (λi j u=>zs u) (C n p m o q)⟩
 ·exact L c f y z r s
 ·obtain ⟨B,C⟩:=L f c z y s r;exact ⟨B.symm,λg p m o q=>(C g m p q o).symm⟩
theorem eA.part{k i j:Nat}(l:eA G E (oI G Q a b k))(m:(G.ch a)[k]?=some i)(o:(G.ch b)[k]?=some j):eA G E (sY (oI G Q a b (k+1)) i j):=
 l.mono λq r g=>by
  rcases g with g|⟨n,p,c,f⟩
  ·exact zs (zs g)
  ·by_cases e:n=k
   ·subst e;rw [m] at c;rw [o] at f;simp at c f;exact zo ⟨c.symm,f.symm⟩
   ·exact zs (zo ⟨n,by omega,c,f⟩)
theorem eA.allParts{f:Nat}(g:eA G E (oI G Q a b f))(k:(G.ch a).length<=f):eA G E Q:=
 g.mono λl m c=>by
  rcases c with c|⟨n,j,i,_⟩
  ·exact c
  ·have:=(zz.1 i).1;omega
theorem eA.done{B:Nat->Nat->Prop}(k:eA G E λ_ _=>False)(c:sX E)(s:∀i j,E i j->Cl G B i j)(m:∀i j,B i j->E i j):(∀i j,E i j↔Cl G B i j)/\lE G (Cl G B):=by
 have o:kA G E:=⟨c.refl,c.symm,c.trans,λi j t p u hij f g q r=>((k i j hij f g).2 t p u q r).le c.refl c.symm c.trans λi j hij=>by
  rcases hij with hij|hij
  ·exact hij
  ·exact hij.elim⟩
 have l:∀i j,E i j↔Cl G B i j:=λi j=>⟨s i j,Cl.le o m⟩
 exact ⟨l,λi j hij f g=>(k i j ((l i j).2 hij) f g).1⟩
theorem aO.mem_right{j c:Type}{f:j->c->Prop}{g:List j}{i:List c}(k:aO f g i){b:c}(hb:b∈i):∃a∈g,f a b:=by
 induction k with
 |nil=>simp at hb
 |cons h1 _ ih=>
  rcases zb.1 hb with rfl|hb
  ·exact ⟨_,by simp,h1⟩
  ·obtain ⟨a,l,m⟩:=ih hb;exact ⟨a,by simp [l],m⟩
theorem aG3{j:Nat}{c:List Nat}(k:w.ownsRow j 3 1 v c.length (c.map λx:Nat=>ze .i64 x)):∃a i,v=.slice a c.length i/\∀f (k:f<c.length),∃g,a=some ⟨g,0,none⟩/\w.cell? ⟨g,f,none⟩=some (.int .i64 c[f]):=by
 have l:w.ownsRow j 3 1 v (c.map λx:Nat=>(x:Int)).length ((c.map λx:Nat=>(x:Int)).map (ze .i64)):=by simpa [List.map_map,Function.comp_def] using k
 obtain ⟨a,i,e,p⟩:=aEb l;refine ⟨a,i,by simpa using e,λf q=>?_⟩;obtain ⟨g,m,o⟩:=p f (by simpa using q);exact ⟨g,m,by simpa using o⟩
def eN(c:List Nd):List Nat:=(List.range c.length).map λp=>p+aL (c.drop p) 1
theorem gL(c:List Nd):(eN c).length=c.length:=by simp [eN]
theorem uB(f:List Nd)(c:Nat)(g:c<f.length):(eN f)[c]?=some (c+aL (f.drop c) 1):=by simp [eN,g]
abbrev nG(c:List Nat):List Value:=c.map λx:Nat=>ze .i64 x
structure bH(w:World)(B tb:Nat)(vn ve vl vs vm:Value)(L:List Nd)(F:List Nat)(S:List Int):Prop where
 box:w.heap[tb]?=some (.cells #[vn,ve,vl,vs,vm] 191)
 high:B<=tb
 rn:w.ownsRow B 43 2 vn L.length (aV L)
 re:w.ownsRow B 3 1 ve L.length (nG (eN L))
 rl:w.ownsRow B 3 1 vl L.length (nG F)
 rs:w.ownsRow B 3 1 vs L.length (S.map (ze .i64))
 lf:F.length=L.length
 ls:S.length=L.length
 few:L.length<=1000000
 short:∀n∈L,n.1.size<=140737488355328
 ab:ve.ownBlock≠vl.ownBlock
 ac:ve.ownBlock≠vs.ownBlock
 bc:vl.ownBlock≠vs.ownBlock
section
variable {w:World}{B tb:Nat}{vn ve vl vs vm:Value}{L:List Nd}{F:List Nat}{S:List Int}
theorem bH.c0(c:bH w B tb vn ve vl vs vm L F S):w.cell? ⟨tb,0,none⟩=some vn:=by simp [zf,c.box]
theorem bH.c1(c:bH w B tb vn ve vl vs vm L F S):w.cell? ⟨tb,1,none⟩=some ve:=by simp [zf,c.box]
theorem bH.c2(c:bH w B tb vn ve vl vs vm L F S):w.cell? ⟨tb,2,none⟩=some vl:=by simp [zf,c.box]
theorem bH.c3(c:bH w B tb vn ve vl vs vm L F S):w.cell? ⟨tb,3,none⟩=some vs:=by simp [zf,c.box]
theorem aBm{w:World}{B:Nat}{c:List Nat}(i:w.ownsRow B 3 1 v n (nG c))(k:c.length=n):∃a j,v=.slice a n j/\∀f (i:f<c.length),∃g,a=some ⟨g,0,none⟩/\w.cell? ⟨g,f,none⟩=some (.int .i64 c[f]):=by
 subst k;exact aG3 i
theorem aQc{w:World}{B:Nat}{c:List Int}(i:w.ownsRow B 3 1 v n (c.map (ze .i64)))(k:c.length=n):∃a j,v=.slice a n j/\∀f (i:f<c.length),∃g,a=some ⟨g,0,none⟩/\w.cell? ⟨g,f,none⟩=some (.int .i64 c[f]):=by
 subst k;exact aEb i
theorem bH.below(c:bH w B tb vn ve vl vs vm L F S){wx:World}(k:aB w wx):bH wx B tb vn ve vl vs vm L F S:=
 ⟨by rw [k.block tb (zu.1 c.box).1,c.box],c.high,bF c.rn k (zr _),bF c.re k (zr _),bF c.rl k (zr _),bF c.rs k (zr _),c.lf,c.ls,c.few,c.short,c.ab,c.ac,c.bc⟩
theorem bH.drewN(c:bH w B tb vn ve vl vs vm L F S)(d:Nat):bH (w.drewN d) B tb vn ve vl vs vm L F S:=c.below (aQ ⟨d,rfl⟩)
theorem bH.grown(c:bH w B tb vn ve vl vs vm L F S){i:World}{f:Option Nat}(g:w.grownBy i f)(j:f≠some tb)(k:vn.ownBlock=none\/vn.ownBlock≠f)(l:ve.ownBlock=none\/ve.ownBlock≠f)(m:vl.ownBlock=none\/vl.ownBlock≠f)(o:vs.ownBlock=none\/vs.ownBlock≠f):bH i B tb vn ve vl vs vm L F S:=
 ⟨by rw [g.block tb (zu.1 c.box).1 (λe=>j e.symm),c.box],c.high,dT c.rn g k,dT c.re g l,dT c.rl g m,dT c.rs g o,c.lf,c.ls,c.few,c.short,c.ab,c.ac,c.bc⟩
theorem vQ{w:World}{B:Nat}{l:Nat}(j:w.ownsRow B e l v n xs){i:Nat}(c:v.ownBlock=some i):∃f:Obj,w.heap[i]?=some f/\f.isCells=true:=by
 obtain ⟨_,⟨rfl,_⟩|⟨g,m,o,rfl,_,k,_⟩⟩:=j
 ·simp [zq] at c
 ·simp [zq] at c;subst c;exact ⟨_,k,rfl⟩
theorem vR{w:World}{B:Nat}{q:Nat}(l:w.ownsRow B e q v n xs){j:Option Nat}(p:∀k,j=some k->∃f:Obj,w.heap[k]?=some f/\f.isCells=false):v.ownBlock=none\/v.ownBlock≠j:=by
 cases hv:v.ownBlock with
 |none=>exact zs rfl
 |some g=>
  right;intro e;obtain ⟨f,m,o⟩:=p g e.symm;obtain ⟨r,c,i⟩:=vQ l hv;rw [m] at c;simp at c;subst c;rw [o] at i;cases i
theorem bH.others(c:bH w B tb vn ve vl vs vm L F S){l:World}{j:Option Nat}(o:w.grownBy l j)(f:∀k,j=some k->∃i:Obj,w.heap[k]?=some i/\i.isCells=false):bH l B tb vn ve vl vs vm L F S:=
 c.grown o (λe=>by obtain ⟨i,g,m⟩:=f tb e;rw [c.box] at g;simp at g;subst g;cases m) (vR c.rn f) (vR c.re f) (vR c.rl f) (vR c.rs f)
theorem aG4(F:List Nat)(a b:Nat):(nG F).set a (.int .i64 b)=nG (F.set a b):=by rw [<-List.map_set]
theorem bH.lead{f i:Nat}(c:bH w B tb vn ve (.slice (some ⟨f,0,none⟩) L.length i) vs vm L F S)(a b:Nat):bH (w.setCell ⟨f,a,none⟩ (.int .i64 b)) B tb vn ve (.slice (some ⟨f,0,none⟩) L.length i) vs vm L (F.set a b) S/\w.grownBy (w.setCell ⟨f,a,none⟩ (.int .i64 b)) (some f):=by
 have g:=cJ w ⟨f,a,none⟩ (.int .i64 b);refine ⟨⟨?_,c.high,dT c.rn g ?_,dT c.re g (zo c.ab),?_,dT c.rs g (zo λe=>c.bc e.symm),by rw [zm];exact c.lf,c.ls,c.few,c.short,c.ab,c.ac,c.bc⟩,g⟩
 ·rw [g.block tb (zu.1 c.box).1 (λe=>dZ c.rl c.box (by decide) e.symm),c.box]
 ·rcases fQ c.rn c.rl (by decide) with e|e
  ·exact zs e
  ·exact zo e
 ·have j:=(c.rl.stored a (.int .i64 b)).1;rw [aG4] at j;exact j
end
theorem aBn(D C:Nat)(P M N R O:Value)(k:List Nd)(g:List Nat)(I:List Int)(rt d:Nat->Nat)(j:Nat)(w:World)(i:bH w D C P M N R O k g I)(u:fR g rt d)(L:j<k.length):Calls zi 164 #[.pointer (some ⟨C,0,none⟩),.int .i64 j] w λe S=>e=.returned (.int .i64 (rt j))/\S=w:=by
 obtain ⟨T,V,rfl,z⟩:=aBm i.rl i.lf;have U:=i.c2;have F:=aA z;have o:=aA u;have A:=i.lf;have Y:=i.few;have p:=aA A;clear z u i A;go_enter Tryz.func164,Tryz.ntmps164;go_wp2;go_loop [1] (λf=>∃c:Nat,c<k.length/\rt c=rt j/\f=.int .i64 c) (λf=>d (intOf f).toNat);case atStart=>exact ⟨j,L,rfl,rfl⟩
 case round=>
  obtain ⟨c,y,m,rfl⟩:=hrel;obtain ⟨X,rfl,W⟩:=F.o c (by rw [p.o];exact y);have Z:(c:Int)<(k.length:Int):=by omega
  have J:c<g.length:=by rw [p.o];exact y
  have l:g[c]?=some g[c]:=zx J;have B:=o.o.lt c _ l;have s:=o.o.step c _ l;have r:=o.o.root c;generalize g[c]=f at *;by_cases e:f=c
  ·have q:aI (rt j=c):=aA (by rw [<-m];exact r (by rw [l,e]));have x:((f:Int) != (c:Int))=false:=by rw [e];simp
   clear s r l m;subst e;clear x;go_wp2;go_ret;exact ⟨vB (by rw [q.o]),rfl⟩
  ·have x:((f:Int) != (c:Int))=true:=by rw [bne_iff_ne];omega
   have t:=aA (s e);have q:=aA m;have H:=aA (show f<k.length by rw [<-p.o];exact B);clear s r l m B;go_wp2;go_round;case rel=>exact ⟨f,H.o,by rw [<-t.o.1];exact q.o,rfl⟩
   case measure=>have:=t.o.2;simpa [intOf] using this
