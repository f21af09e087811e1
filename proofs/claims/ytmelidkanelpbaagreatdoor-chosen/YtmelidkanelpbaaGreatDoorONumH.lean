import Derived.Test.YtmelidkanelpbaaGreatDoorPCl0H
import Derived.Test.YtmelidkanelpbaaGreatDoorONum0H
import Derived.OwnWalk
import Derived.RangeFuncNested
import Derived.RangeFuncBound
import Derived.RangeFuncCalls
import Derived.RangeFuncLeaves
open Array renaming getElem?_eq_some_iff→zu
open List renaming getElem?_eq_some_iff→zz,set_cons_succ→zy,getElem?_eq_getElem→zx,getElem?_set→zw,replicate→zv,countP_cons→zn,length_set→zm,replicate_succ→zl,getElem?_cons_succ→zg,drop_succ_cons→zc,mem_cons→zb,ext_getElem?→za,cons_append→z0
open Nat renaming add_comm→zt,le_refl→zr,mod_two_eq_zero_or_one→zj
open Or renaming inl→zs,inr→zo
namespace Go.Proofs.YtmelidkanelpbaaGreatDoor
open _root_.Go.Proofs.Tryz renaming underlying142→zk,prog→zi,underlying3→zh
open Value renaming ownBlock→zq,int→ze
open World renaming cell?→zf
open Go.RowKit Go.Shelf Go.WideMaps
set_option maxHeartbeats 1000000
set_option maxRecDepth 100000
variable{G:Gr}{xs:List Value}{a b n:Nat}{d rt:Nat->Nat}{E E' Q:Nat->Nat->Prop}{e:TypeId}{v:Value}{w:World}
def fS(v:Value):Option (DataW Unit×List MemPlace):=
 match v with
 | .int .i64 x=>some (.lit (.int .i64 x),[])
 |_=>none
structure pQ(D:DataW Unit)(sn:List Int):Prop where
 tidy:Maps.Tidy D
 size:Maps.size D=sn.length
 old:∀x,0<=eS sn x->Maps.has D (.int .i64 x)=true/\∀z,D.atKey (.int .i64 x) z=.lit (.int .i64 (eS sn x))
 new:∀x,eS sn x<0->Maps.has D (.int .i64 x)=false
theorem pQ.start:pQ (.map []) []:=⟨⟨[],rfl,by simp⟩,rfl,λf c=>by rw [aGp] at c;omega,λf _=>rfl⟩
theorem pQ.put{l:DataW Unit}{j:List Int}{x:Int}(c:pQ l j)(p:eS j x<0):pQ (l.put (.int .i64 x) (.lit (.int .i64 j.length))) (j++[x]):=by
 have k:WideAt.IsKeyLit (.int .i64 x):=trivial;refine ⟨c.tidy.put k _,?_,λy f=>?_,λy f=>?_⟩
 ·rw [Maps.size_put c.tidy,c.new x p,c.size];simp
 ·rw [aCi] at f ⊢;by_cases g:x=y
  ·subst g;rw [aH rfl];exact ⟨Maps.has_put_same c.tidy.isMap k _,λo=>Maps.atKey_put_same c.tidy.isMap k _ _⟩
  ·rw [aI g] at f ⊢;have i:(Lit.int .i64 y)≠.int .i64 x:=λe=>g (by simpa using e.symm)
   have m:=c.old y f;exact ⟨by rw [Maps.has_put_other i];exact m.1,λo=>by rw [Maps.atKey_put_other i];exact m.2 o⟩
 ·rw [aCi] at f;by_cases g:x=y
  ·rw [aH g] at f;omega
  ·rw [aI g] at f;have i:(Lit.int .i64 y)≠.int .i64 x:=λe=>g (by simpa using e.symm)
   rw [Maps.has_put_other i];exact c.new y f
theorem aE3{c:Int}(f : -1000000000<=c)(g:c<=1000000000):(Lit.int .i64 c).wf=true:=by simp [Lit.wf,IntKind.min,IntKind.max,IntKind.bits,IntKind.signed];omega
theorem aAz{f:Int}{ps:List MemPlace}(c:fS v=some (.lit (.int .i64 f),ps)):v=.int .i64 f:=by
 unfold fS at c;split at c
 ·simp at c;rw [c.1]
 ·simp at c
def oR(c:List Int)(f:Int):List Int×Int:=if eS c f<0 then (c++[f],(c.length:Int)) else (c,eS c f)
theorem aX1(i:Nat)(l:DataW Unit)(c:List Int)(f:Int)(w:World)(m:w.ownsMap zi 3 fS i c.length l)(g:pQ l c)(I:0<=f)(J:f<=1000000000)(L:c.length<=1000000):Calls zi 92 #[.map (some i),.int .i64 f] w λe A=>∃u:DataW Unit,e=.returned (.int .i64 (oR c f).2)/\A.ownsMap zi 3 fS i (oR c f).1.length u/\pQ u (oR c f).1/\w.grownBy A (some i):=by
 have o:keyOf zi 3 (.int .i64 f)=some (.int .i64 f):=Maps.keyOf_int_mk zh (aE3 (by omega) (by omega));obtain ⟨v,N,z,k⟩:=m.look_ok (Maps.int_keyed zh) zk (Tryz.zeroValue3 _) (zd:=.lit (.int .i64 0)) (zp:=[]) rfl o;by_cases j:eS c f<0
 ·have q:aM (oR c f=(c++[f],(c.length:Int))):=aA (by unfold oR;rw [aH j]);have r:=g.new f j;rw [r] at z;rw [aAt g.tidy.isMap r] at k;have t:=aAz k;subst t;have p:=aA (g.put j);have C:=aA o;have H:=aA g.size;have M:=g.size;clear k r g o j;go_enter Tryz.func92,Tryz.ntmps92;go_wp2_with (first
   |(at_len;refine wpList_len_own _ rfl _ 142 rfl 3 3 zk _ i c.length l rfl m ?_)
   |(at_mapUpdate;refine wpList_mapUpdate_own _ rfl _ _ _ 142 rfl 3 3 (Maps.int_keyed zh) zk fS i c.length l rfl m (by unfold maxLen;omega) _ _ (.int .i64 f) rfl rfl (aD C) (.lit (.int .i64 c.length)) [] ?_ ?_)
   |go_in)
  case refine_1=>rfl
  intro O y x;have D:=aA y;have B:=aA x;clear y x;go_wp2;go_ret;rw [q.o];exact ⟨_,rfl,by rw [List.length_append];exact D.o,p.o,B.o⟩
 ·have q:aM (oR c f=(c,eS c f)):=aA (by unfold oR;rw [aI j]);have s:=g.old f (by omega);rw [s.1] at z;rw [s.2] at k;have t:=aAz k;subst t;have p:=aA g;have F:=aA m;clear k s g o j m;go_enter Tryz.func92,Tryz.ntmps92;go_wp2;go_ret;rw [q.o];exact ⟨l,rfl,F.o,p.o,⟨rfl,rfl,rfl,zr _,λ_ _ _=>rfl⟩⟩
abbrev zNd:Nd:=(⟨#[]⟩,0)
abbrev tG:Lt×Value:=((false,[]),.slice none 0 0)
theorem aE4(c:Nd)(f:List Nd):bB (c::f)=.string c.1::.int .i64 c.2::bB f:=rfl
theorem aB1(c:Lt×Value)(f:List (Lt×Value)):bF (c::f)=.bool c.1.1::c.2::bF f:=rfl
theorem aX2(g:List Nd):∀(c:Nat) (f:Nd),c<g.length->((bB g).set (c*2) (.string f.1)).set (c*2+1) (.int .i64 f.2)=bB (g.set c f):=by
 induction g with
 |nil=>intro c f i;simp at i
 |cons y r ih=>
  intro c f i;cases c with
  |zero=>rfl
  |succ c=>
   have:=ih c f (by simpa using i);rw [show (c+1)*2=c*2+1+1 by omega,zy,aE4,aE4,zy,zy,zy,zy,this]
theorem aX3(g:List (Lt×Value)):∀(c:Nat) (f:Lt×Value),c<g.length->((bF g).set (c*2) (.bool f.1.1)).set (c*2+1) f.2=bF (g.set c f):=by
 induction g with
 |nil=>intro c f i;simp at i
 |cons y r ih=>
  intro c f i;cases c with
  |zero=>rfl
  |succ c=>
   have:=ih c f (by simpa using i);rw [show (c+1)*2=c*2+1+1 by omega,zy,aB1,aB1,zy,zy,zy,zy,this]
theorem aKm{i:Type}(a:List i)(g f:i)(c:Nat)(j:a.length<c):(a++zv (c-a.length) g).set a.length f=(a++[f])++zv (c-(a.length+1)) g:=by rw [show c-a.length=(c-(a.length+1))+1 by omega,zl,List.set_append_right _ _ (zr _)];simp
theorem aX4(n:Nat):∀j,(bB (zv n zNd))[j]?=if j<n*2 then some (if j % 2=0 then .string ⟨#[]⟩ else .int .i64 0) else none:=by
 induction n with
 |zero=>intro j;simp [bB]
 |succ n ih=>
  intro j;rw [zl,aE4];match j with
  |0=>simp
  |1=>simp;omega
  |j+2=>
   simp only [zg];rw [ih j];have e:(j+2) % 2=j % 2:=by omega
   rw [e];by_cases c:j<n*2
   ·rw [aH c,aH (show j+2<(n+1)*2 by omega)]
   ·rw [aI c,aI (show ¬j+2<(n+1)*2 by omega)]
theorem aX5(n:Nat):∀j,(bF (zv n tG))[j]?=if j<n*2 then some (if j % 2=0 then .bool false else .slice none 0 0) else none:=by
 induction n with
 |zero=>intro j;simp [bF]
 |succ n ih=>
  intro j;rw [zl,aB1];match j with
  |0=>simp
  |1=>simp;omega
  |j+2=>
   simp only [zg];rw [ih j];have e:(j+2) % 2=j % 2:=by omega
   rw [e];by_cases c:j<n*2
   ·rw [aH c,aH (show j+2<(n+1)*2 by omega)]
   ·rw [aI c,aI (show ¬j+2<(n+1)*2 by omega)]
theorem aX6(n:Nat):(madeCells #[.string ⟨#[]⟩,.int .i64 0] (n*2)).toList=bB (zv n zNd):=by
 apply za;intro f;rw [aX4];by_cases c:f<n*2
 ·rw [aH c];rcases zj f with h|h<;>simp [madeCells,c,h]
 ·rw [aI c];simp [madeCells];omega
theorem aX7(n:Nat):(madeCells #[.bool false,.slice none 0 0] (n*2)).toList=bF (zv n tG):=by
 apply za;intro f;rw [aX5];by_cases c:f<n*2
 ·rw [aH c];rcases zj f with h|h<;>simp [madeCells,c,h]
 ·rw [aI c];simp [madeCells];omega
theorem aKn{i:Nat}{p:Nat}{f o:Nat}{j:DataW Unit}(k:w.ownsRow i e p v n xs)(m:w.ownsMap zi 3 fS f o j):v.ownBlock≠some f:=by
 obtain ⟨t,r,l,_⟩:=m;obtain ⟨_,⟨rfl,_⟩|⟨g,q,s,rfl,_,c,_⟩⟩:=k
 ·simp [zq]
 ·simp [zq];rintro rfl;rw [l] at c;simp at c
theorem uR{c:Nat}{i:Nat}(l:w.ownsRow c e i v n xs){p:Addr}(r:some p.block≠v.ownBlock)(t:Value):(w.setCell p t).ownsRow c e i v n xs:=by
 obtain ⟨f,⟨rfl,m⟩|⟨g,j,k,rfl,o,q,s⟩⟩:=l
 ·exact ⟨f,zs ⟨rfl,m⟩⟩
 ·refine ⟨f,zo ⟨g,j,k,rfl,o,?_,s⟩⟩;rw [heap_setCell_other _ _ _ _ (λe=>r (by simp [zq,e])),q]
theorem aX8{m:Type}(f:List m)(g i:m->Bool)(j:∀c∈f,g c=true->i c=true)(c:m)(hx:c∈f)(o:g c=false)(p:i c=true):f.countP g<f.countP i:=by
 induction f with
 |nil=>simp at hx
 |cons y r ih=>
  have s:r.countP g<=r.countP i:=List.countP_mono_left λl k=>j l (by simp [k])
  rcases zb.1 hx with rfl|hx
  ·rw [zn,zn,o,p];simp;omega
  ·have:=ih (λl k=>j l (by simp [k])) hx;rw [zn,zn];have q:=j y (by simp);cases hpy:g y
   ·cases i y<;>simp<;>omega
   ·rw [q hpy];simp;omega
theorem uS(f:List Nd):∀c q,aO f (c+q)=aO f c+aO (f.drop (aO f c)) q:=by
 induction f with
 |nil=>intro c q;cases c<;>cases q<;>simp [aO]
 |cons n r ih=>
  intro c q;cases c with
  |zero=>simp
  |succ c=>
   rw [show c+1+q=(c+q)+1 by omega];simp only [aO];rw [show c+q+aY n=(c+aY n)+q by omega,ih (c+aY n) q,zt 1 (aO r (c+aY n)),zc];omega
def gZ:List Nd->Nat->Nat->List Nat
 |_,0,_=>[]
 |s,k+1,b=>b::gZ (s.drop (aO s 1)) k (b+aO s 1)
@[simp] theorem aX9(s:List Nd)(b:Nat):gZ s 0 b=[]:=rfl
theorem mT(c:List Nd)(f b:Nat):gZ c (f+1) b=b::gZ (c.drop (aO c 1)) f (b+aO c 1):=rfl
theorem yJ(f:List Nd)(c:Nat):∀b,(gZ f c b).length=c:=by
 induction c generalizing f with
 |zero=>intro b;rfl
 |succ c ih=>intro b;rw [mT];simp [ih]
theorem aXa(f:Nat):∀(c:List Nd) (g b:Nat),gZ c (f+g) b=gZ c f b++gZ (c.drop (aO c f)) g (b+aO c f):=by
 induction f with
 |zero=>intro c g b;simp
 |succ f ih=>
  intro c g b;rw [show f+1+g=(f+g)+1 by omega,mT,mT,ih,show aO c (f+1)=aO c 1+aO (c.drop (aO c 1)) f by rw [<-uS];congr 1;omega,List.drop_drop,z0];simp [Nat.add_assoc,zt (aO c 1)]
def eA:List Nd->Nat->Prop
 |_,0=>True
 |[],_+1=>False
 |n::r,q+1=>eA r (q+aY n)
@[simp] theorem bF7(l:List Nd):eA l 0:=by cases l<;>trivial
theorem aKo(g:List Nd):∀c,aQ g c=true->eA g c:=by
 induction g with
 |nil=>intro c f;simp [aQ] at f;subst f;trivial
 |cons n r ih=>
  intro c f;cases c with
  |zero=>trivial
  |succ c=>rw [mO,Bool.and_eq_true] at f;exact ih _ f.2
theorem wH(f:List Nd):∀c q,eA f (c+q)↔eA f c/\eA (f.drop (aO f c)) q:=by
 induction f with
 |nil=>
  intro c q;cases c with
  |zero=>simp
  |succ c=>rw [show c+1+q=(c+q)+1 by omega];simp [eA]
 |cons n r ih=>
  intro c q;cases c with
  |zero=>simp
  |succ c=>
   rw [show c+1+q=(c+q)+1 by omega];simp only [eA,aO];rw [show c+q+aY n=(c+aY n)+q by omega,ih,zt 1,zc]
theorem aE5{c:List Nd}{q:Nat}(f:eA c (q+1)):0<aO c (q+1):=by
 cases c with
 |nil=>exact f.elim
 |cons n r=>simp [aO];omega
theorem aE6(f:Nat):∀(c:List Nd) (b:Nat),eA c f->∀g∈gZ c f b,b<=g/\g<b+aO c f:=by
 induction f with
 |zero=>intro c b _ g h;simp at h
 |succ f ih=>
  intro c b j g h;rw [mT] at h;have e:aO c (f+1)=aO c 1+aO (c.drop (aO c 1)) f:=by rw [<-uS];congr 1;omega
  have i:=(wH c 1 f).1 (by rw [zt];exact j);have k:=aE5 (q:=0) i.1;rw [Nat.zero_add] at k;rcases zb.1 h with rfl|h
  ·omega
  ·have:=ih _ _ i.2 g h;omega
theorem aE7(f i:List Nd):∀c,eA f c->aO (f++i) c=aO f c:=by
 induction f with
 |nil=>intro c g;cases c with
  |zero=>simp
  |succ c=>exact g.elim
 |cons n r ih=>
  intro c g;cases c with
  |zero=>simp
  |succ c=>simp only [z0,aO];rw [ih _ g]
theorem aKp(g i:List Nd):∀c,eA g c->eA (g++i) c:=by
 induction g with
 |nil=>intro c f;cases c with
  |zero=>simp
  |succ c=>exact f.elim
 |cons n r ih=>
  intro c f;cases c with
  |zero=>simp
  |succ c=>exact ih _ f
theorem aXb(c:Nat):∀(f g:List Nd) (b:Nat),eA f c->gZ (f++g) c b=gZ f c b:=by
 induction c with
 |zero=>intro f g b _;rfl
 |succ c ih=>
  intro f g b j;have i:=(wH f 1 c).1 (by rw [zt];exact j);rw [mT,mT,aE7 _ _ _ i.1,List.drop_append_of_le_length (tF _ _),ih _ _ _ i.2]
theorem aXc(g:List Nd):∀(c f:Nat),eA g c->f<aO g c->∃n,g[f]?=some n/\eA (g.drop (f+1)) (aY n)/\f+1+aO (g.drop (f+1)) (aY n)<=aO g c:=by
 induction g with
 |nil=>intro c f j i;cases c<;>simp [aO] at i
 |cons n r ih=>
  intro c f j i;cases c with
  |zero=>simp at i
  |succ c=>
   simp only [aO] at i ⊢;have m:=(wH r (aY n) c).1 (by rw [zt];exact j);have o:=uS r (aY n) c;rw [zt (aY n) c] at o;cases f with
   |zero=>exact ⟨n,rfl,by simpa using m.1,by simp;omega⟩
   |succ f=>
    obtain ⟨p,k,l,q⟩:=ih (c+aY n) f j (by omega);exact ⟨p,by simpa using k,by simpa using l,by simp;omega⟩
theorem aXd(f:List Nd)(n:Nd)(c:Nat)(g:aY n=0)(b:Nat):gZ (n::f) (c+1) b=b::gZ f c (b+1):=by rw [mT];simp [aO,g]
inductive eI(B:Nat->Nat->Prop):Nat->Nat->Prop
 |refl (i):eI B i i
 |base {i j}:B i j->eI B i j
 |symm {i j}:eI B i j->eI B j i
 |trans {i j k}:eI B i j->eI B j k->eI B i k
theorem eI.le{i R:Nat->Nat->Prop}(j:∀c,R c c)(l:∀c f,R c f->R f c)(m:∀c f k,R c f->R f k->R c k)(o:∀c f,i c f->R c f){c f:Nat}(g:eI i c f):R c f:=by
 induction g with
 |refl c=>exact j c
 |base g=>exact o _ _ g
 |symm _ ih=>exact l _ _ ih
 |trans _ _ a b=>exact m _ _ _ a b
theorem eI.mono{B c:Nat->Nat->Prop}(f:∀i j,B i j->eI c i j){i j:Nat}(k:eI B i j):eI c i j:=k.le eI.refl (λ_ _=>eI.symm) (λ_ _ _=>eI.trans) f
def aG(L:List Nd):Gr:=⟨λi=>(L[i]?).getD (⟨#[]⟩,0),λi=>match L[i]? with|some n=>gZ (L.drop (i+1)) (aY n) (i+1)|none=>[]⟩
theorem nS{L:List Nd}{i:Nat}(c:(aG L).named i):∃n,L[i]?=some n/\aL n=false:=by
 unfold Gr.named aG at c;simp only at c;cases hl:L[i]? with
 |none=>rw [hl] at c;simp only [Option.getD_none] at c;rw [pP] at c;cases c
 |some n=>rw [hl] at c;exact ⟨n,rfl,c⟩
theorem fM{L:List Nd}{i:Nat}{n:Nd}(c:L[i]?=some n):(aG L).named i↔aL n=false:=by unfold Gr.named aG;simp [c]
theorem pR{c:List Nd}{f:Nat}{n:Nd}(g:c[f]?=some n):(aG c).lab f=n:=by simp [aG,g]
theorem lW{f:List Nd}{c:Nat}{n:Nd}(g:f[c]?=some n):(aG f).ch c=gZ (f.drop (c+1)) (aY n) (c+1):=by simp [aG,g]
theorem wI(g:List Nd):(aG g).Arity:=by intro k l i j e;obtain ⟨n,c,_⟩:=nS i;obtain ⟨m,f,_⟩:=nS j;rw [pR c,pR f] at e;rw [lW c,lW f,yJ,yJ,e]
structure gG(F:List Nat)(rt d:Nat->Nat):Prop where
 lt:∀p q:Nat,F[p]?=some q->q<F.length
 root:∀p:Nat,F[p]?=some p->rt p=p
 step:∀p q:Nat,F[p]?=some q->q≠p->rt p=rt q/\d q<d p
 out:∀p:Nat,F.length<=p->rt p=p
theorem gG.isRoot{i:List Nat}(j:gG i rt d):∀(n c:Nat),d c<=n->c<i.length->i[rt c]?=some (rt c):=by
 intro n;induction n with
 |zero=>
  intro c l k;obtain ⟨f,g⟩ : ∃f,i[c]?=some f:=⟨i[c],zx k⟩;by_cases e:f=c
  ·subst e;rw [j.root _ g];exact g
  ·have:=(j.step c f g e).2;omega
 |succ n ih=>
  intro c l k;obtain ⟨f,g⟩ : ∃f,i[c]?=some f:=⟨i[c],zx k⟩;by_cases e:f=c
  ·subst e;rw [j.root _ g];exact g
  ·have m:=j.step c f g e;rw [m.1];exact ih f (by omega) (j.lt c f g)
theorem gG.rootAt{f:List Nat}(g:gG f rt d){c:Nat}(i:c<f.length):f[rt c]?=some (rt c):=g.isRoot _ c (zr _) i
theorem gG.rt_lt{c:List Nat}(f:gG c rt d){p:Nat}(g:p<c.length):rt p<c.length:=(zz.1 (f.rootAt g)).1
theorem gG.rt_rt{f:List Nat}(c:gG f rt d)(p:Nat):rt (rt p)=rt p:=by
 by_cases g:p<f.length
 ·exact c.root _ (c.rootAt g)
 ·rw [c.out p (by omega),c.out p (by omega)]
def fU(rt:Nat->Nat)(a b c:Nat):Nat:=if rt c=a then b else rt c
def dJ(rt d:Nat->Nat)(a b c:Nat):Nat:=if rt c=a then d c+d b+1 else d c
theorem gG.join{k:List Nat}(i:gG k rt d){a b:Nat}(o:k[a]?=some a)(p:k[b]?=some b)(l:a≠b):gG (k.set a b) (fU rt a b) (dJ rt d a b):=by
 have y:=(zz.1 p).1;have x:=(zz.1 o).1;have s:=i.root a o;have t:=i.root b p;refine ⟨λg m c=>?_,λg f=>?_,λg m c r=>?_,λg f=>?_⟩
 ·rw [zw] at c;rw [zm];split at c
  ·simp at c;omega
  ·exact i.lt g m c
 ·rw [zw] at f;split at f
  ·rename_i e;subst e;simp at f;exact absurd f.symm l
  ·rename_i e;have:=i.root g f;unfold fU;rw [this,aI (λj=>e j.symm)]
 ·rw [zw] at c;split at c
  ·rename_i e;subst e;simp at c;subst c;unfold fU dJ;rw [s,t,aH rfl,aI (λj=>l j.symm),aI (λj=>l j.symm),aH rfl];exact ⟨rfl,by omega⟩
  ·obtain ⟨q,u⟩:=i.step g m c r;unfold fU dJ;rw [q];refine ⟨rfl,?_⟩;split<;>omega
 ·rw [zm] at f;unfold fU;rw [i.out g f,aI (by omega)]
theorem aKq(g i:Nat):fU rt a b g=fU rt a b i↔rt g=rt i\/(rt g=a/\rt i=b)\/(rt g=b/\rt i=a):=by
 unfold fU;by_cases c:rt g=a<;>by_cases f:rt i=a
 ·simp [c,f]
 ·rw [aH c,aI f,c];constructor
  ·intro e;exact zo (zs ⟨rfl,e.symm⟩)
  ·rintro (e|⟨_,e⟩|⟨_,e⟩)
   ·exact absurd e.symm f
   ·exact e.symm
   ·exact absurd e f
 ·rw [aI c,aH f,f];constructor
  ·intro e;exact zo (zo ⟨e,rfl⟩)
  ·rintro (e|⟨e,_⟩|⟨e,_⟩)
   ·exact absurd e c
   ·exact absurd e c
   ·exact e
 ·rw [aI c,aI f];constructor
  ·exact zs
  ·rintro (e|⟨e,_⟩|⟨_,e⟩)
   ·exact e
   ·exact absurd e c
   ·exact absurd e f
def nT(c:List Nat):Nat:=(List.range c.length).countP λp=>c[p]?==some p
theorem aKr{f:List Nat}(g:f[a]?=some a)(j:a≠b):nT (f.set a b)<nT f:=by
 have i:=(zz.1 g).1;unfold nT;rw [zm];refine aX8 _ _ _ (λk _ c=>?_) a (by simpa using i) ?_ ?_
 ·rw [zw] at c;split at c
  ·rename_i e;subst e;simp at c;omega
  ·exact c
 ·rw [zw];simp [i];omega
 ·simp [g]
def eB(G:Gr)(E Q:Nat->Nat->Prop):Prop:=∀c f,E c f->G.named c->G.named f->G.lab c=G.lab f/\∀(k p j:Nat),(G.ch c)[k]?=some p->(G.ch f)[k]?=some j->eI (λg i=>E g i\/Q g i) p j
structure uT(E:Nat->Nat->Prop):Prop where
 refl:∀i,E i i
 symm:∀i j,E i j->E j i
 trans:∀i j k,E i j->E j k->E i k
theorem rV(rt:Nat->Nat):uT λg i=>rt g=rt i:=⟨λ_=>rfl,λ_ _ c=>c.symm,λ_ _ _ c f=>c.trans f⟩
def uU(Q:Nat->Nat->Prop)(a b:Nat)(c f:Nat):Prop:=Q c f\/(c=a/\f=b)
theorem eB.mono{c:Nat->Nat->Prop}(f:eB G E Q)(k:∀i j,Q i j->c i j):eB G E c:=λx y e r s=>by
 obtain ⟨g,l⟩:=f x y e r s;exact ⟨g,λn p t o q=>(l n p t o q).mono λi j m=>eI.base (m.imp id (k i j))⟩
theorem eB.same(c:eB G E (uU Q a b))(k:E a b):eB G E Q:=λs t e o q=>by
 obtain ⟨f,g⟩:=c s t e o q;refine ⟨f,λn p r l m=>(g n p r l m).mono λi j hij=>?_⟩;rcases hij with hij|hij|⟨rfl,rfl⟩
 ·exact eI.base (zs hij)
 ·exact eI.base (zo hij)
 ·exact eI.base (zs k)
def nU(E E':Nat->Nat->Prop)(a b:Nat):Prop:=∀c f,E' c f↔E c f\/(E c a/\E f b)\/(E c b/\E f a)
theorem nU.le(c:nU E E' a b){p q:Nat}(e:E p q):E' p q:=(c p q).2 (zs e)
theorem nU.ab(f:nU E E' a b)(c:uT E):E' a b:=(f a b).2 (zo (zs ⟨c.refl a,c.refl b⟩))
theorem nU.eqv{Q':Nat->Nat->Prop}(g:nU E E' a b)(k:uT E)(l:∀c f,Q c f->Q' c f){i j:Nat}(e:eI (λc f=>E c f\/uU Q a b c f) i j):eI (λc f=>E' c f\/Q' c f) i j:=
 e.mono λc f hij=>by
  rcases hij with hij|hij|⟨rfl,rfl⟩
  ·exact eI.base (zs (g.le hij))
  ·exact eI.base (zo (l _ _ hij))
  ·exact eI.base (zs (g.ab k))
theorem eB.var{G:Gr}{E E' Q:Nat->Nat->Prop}{a b:Nat}(o:eB G E (uU Q a b))(r:uT E)(m:nU E E' a b)(hv:(∀c,E c a->¬G.named c)\/∀c,E c b->¬G.named c):eB G E' Q:=λf g e k l=>by
 rcases (m f g).1 e with e|⟨i,j⟩|⟨i,j⟩
 ·obtain ⟨p,q⟩:=o f g e k l;exact ⟨p,λn c u s t=>m.eqv r (λ_ _=>id) (q n c u s t)⟩
 ·rcases hv with hv|hv
  ·exact absurd k (hv f i)
  ·exact absurd l (hv g j)
 ·rcases hv with hv|hv
  ·exact absurd l (hv g j)
  ·exact absurd k (hv f i)
def pS(G:Gr)(Q:Nat->Nat->Prop)(a b k:Nat)(c f:Nat):Prop:=Q c f\/∃n,k<=n/\(G.ch a)[n]?=some c/\(G.ch b)[n]?=some f
theorem eB.name{G:Gr}{E E' Q:Nat->Nat->Prop}{a b k l:Nat}(A:eB G E (uU Q a b))(t:uT E)(x:nU E E' a b)(H:G.Arity)(V:E a k)(W:E b l)(M:G.named k)(N:G.named l)(X:G.lab k=G.lab l):eB G E' (pS G Q k l 0):=by
 have L:∀c f,E c a->E f b->G.named c->G.named f->G.lab c=G.lab f/\∀(g p m:Nat),(G.ch c)[g]?=some p->(G.ch f)[g]?=some m->eI (λi j=>E' i j\/pS G Q k l 0 i j) p m:=by
  intro c f T U r s;obtain ⟨D,O⟩:=A c k (t.trans _ _ _ T V) r M;obtain ⟨F,P⟩:=A f l (t.trans _ _ _ U W) s N;refine ⟨D.trans (X.trans F.symm),λg p m o q=>?_⟩;have I:g<(G.ch k).length:=by rw [<-H c k r M D];exact (zz.1 o).1
  have J:g<(G.ch l).length:=by rw [<-H f l s N F];exact (zz.1 q).1
  have R:=x.eqv t (Q':=pS G Q k l 0) (λi j u=>zs u) (O g p _ o (zx I));have S:=x.eqv t (Q':=pS G Q k l 0) (λi j u=>zs u) (P g m _ q (zx J));exact R.trans ((eI.base (zo (zo ⟨g,Nat.zero_le _,zx I,zx J⟩))).trans S.symm)
 intro c f e r s;rcases (x c f).1 e with e|⟨y,z⟩|⟨y,z⟩
 ·obtain ⟨B,C⟩:=A c f e r s;exact ⟨B,λn p m o q=>x.eqv t (λi j u=>zs u) (C n p m o q)⟩
 ·exact L c f y z r s
 ·obtain ⟨B,C⟩:=L f c z y s r;exact ⟨B.symm,λg p m o q=>(C g m p q o).symm⟩
theorem eB.part{k i j:Nat}(l:eB G E (pS G Q a b k))(m:(G.ch a)[k]?=some i)(o:(G.ch b)[k]?=some j):eB G E (uU (pS G Q a b (k+1)) i j):=
 l.mono λq r g=>by
  rcases g with g|⟨n,p,c,f⟩
  ·exact zs (zs g)
  ·by_cases e:n=k
   ·subst e;rw [m] at c;rw [o] at f;simp at c f;exact zo ⟨c.symm,f.symm⟩
   ·exact zs (zo ⟨n,by omega,c,f⟩)
theorem eB.allParts{f:Nat}(g:eB G E (pS G Q a b f))(k:(G.ch a).length<=f):eB G E Q:=
 g.mono λl m c=>by
  rcases c with c|⟨n,j,i,_⟩
  ·exact c
  ·have:=(zz.1 i).1;omega
theorem eB.done{B:Nat->Nat->Prop}(k:eB G E λ_ _=>False)(c:uT E)(s:∀i j,E i j->Cl G B i j)(m:∀i j,B i j->E i j):(∀i j,E i j↔Cl G B i j)/\jZ G (Cl G B):=by
 have o:kK G E:=⟨c.refl,c.symm,c.trans,λi j t p u hij f g q r=>((k i j hij f g).2 t p u q r).le c.refl c.symm c.trans λi j hij=>by
  rcases hij with hij|hij
  ·exact hij
  ·exact hij.elim⟩
 have l:∀i j,E i j↔Cl G B i j:=λi j=>⟨s i j,Cl.le o m⟩
 exact ⟨l,λi j hij f g=>(k i j ((l i j).2 hij) f g).1⟩
theorem aP.mem_right{j c:Type}{f:j->c->Prop}{g:List j}{i:List c}(k:aP f g i){b:c}(hb:b∈i):∃a∈g,f a b:=by
 induction k with
 |nil=>simp at hb
 |cons h1 _ ih=>
  rcases zb.1 hb with rfl|hb
  ·exact ⟨_,by simp,h1⟩
  ·obtain ⟨a,l,m⟩:=ih hb;exact ⟨a,by simp [l],m⟩
theorem aKs{j:Nat}{c:List Nat}(k:w.ownsRow j 3 1 v c.length (c.map λx:Nat=>ze .i64 x)):∃a i,v=.slice a c.length i/\∀f (k:f<c.length),∃g,a=some ⟨g,0,none⟩/\w.cell? ⟨g,f,none⟩=some (.int .i64 c[f]):=by
 have l:w.ownsRow j 3 1 v (c.map λx:Nat=>(x:Int)).length ((c.map λx:Nat=>(x:Int)).map (ze .i64)):=by simpa [List.map_map,Function.comp_def] using k
 obtain ⟨a,i,e,p⟩:=aGr l;refine ⟨a,i,by simpa using e,λf q=>?_⟩;obtain ⟨g,m,o⟩:=p f (by simpa using q);exact ⟨g,m,by simpa using o⟩
def eO(c:List Nd):List Nat:=(List.range c.length).map λp=>p+aO (c.drop p) 1
theorem iA(c:List Nd):(eO c).length=c.length:=by simp [eO]
theorem wJ(f:List Nd)(c:Nat)(g:c<f.length):(eO f)[c]?=some (c+aO (f.drop c) 1):=by simp [eO,g]
abbrev oS(c:List Nat):List Value:=c.map λx:Nat=>ze .i64 x
structure bM(w:World)(B tb:Nat)(vn ve vl vs vm:Value)(L:List Nd)(F:List Nat)(S:List Int):Prop where
 box:w.heap[tb]?=some (.cells #[vn,ve,vl,vs,vm] 165)
 high:B<=tb
 rn:w.ownsRow B 117 2 vn L.length (bB L)
 re:w.ownsRow B 3 1 ve L.length (oS (eO L))
 rl:w.ownsRow B 3 1 vl L.length (oS F)
 rs:w.ownsRow B 3 1 vs L.length (S.map (ze .i64))
 lf:F.length=L.length
 ls:S.length=L.length
 few:L.length<=1000000
 short:∀n∈L,n.1.size<=140737488355328
 ab:ve.ownBlock≠vl.ownBlock
 ac:ve.ownBlock≠vs.ownBlock
 bc:vl.ownBlock≠vs.ownBlock
section
variable {w:World}{B tb:Nat}{vn ve vl vs vm:Value}{L:List Nd}{F:List Nat}{S:List Int}
theorem bM.c0(c:bM w B tb vn ve vl vs vm L F S):w.cell? ⟨tb,0,none⟩=some vn:=by simp [zf,c.box]
theorem bM.c1(c:bM w B tb vn ve vl vs vm L F S):w.cell? ⟨tb,1,none⟩=some ve:=by simp [zf,c.box]
theorem bM.c2(c:bM w B tb vn ve vl vs vm L F S):w.cell? ⟨tb,2,none⟩=some vl:=by simp [zf,c.box]
theorem bM.c3(c:bM w B tb vn ve vl vs vm L F S):w.cell? ⟨tb,3,none⟩=some vs:=by simp [zf,c.box]
theorem aE8{w:World}{B:Nat}{c:List Nat}(i:w.ownsRow B 3 1 v n (oS c))(k:c.length=n):∃a j,v=.slice a n j/\∀f (i:f<c.length),∃g,a=some ⟨g,0,none⟩/\w.cell? ⟨g,f,none⟩=some (.int .i64 c[f]):=by
 subst k;exact aKs i
theorem aXe{w:World}{B:Nat}{c:List Int}(i:w.ownsRow B 3 1 v n (c.map (ze .i64)))(k:c.length=n):∃a j,v=.slice a n j/\∀f (i:f<c.length),∃g,a=some ⟨g,0,none⟩/\w.cell? ⟨g,f,none⟩=some (.int .i64 c[f]):=by
 subst k;exact aGr i
theorem bM.below(c:bM w B tb vn ve vl vs vm L F S){wx:World}(k:aB w wx):bM wx B tb vn ve vl vs vm L F S:=
 ⟨by rw [k.block tb (zu.1 c.box).1,c.box],c.high,bG c.rn k (zr _),bG c.re k (zr _),bG c.rl k (zr _),bG c.rs k (zr _),c.lf,c.ls,c.few,c.short,c.ab,c.ac,c.bc⟩
theorem bM.drewN(c:bM w B tb vn ve vl vs vm L F S)(d:Nat):bM (w.drewN d) B tb vn ve vl vs vm L F S:=c.below (aU ⟨d,rfl⟩)
theorem bM.grown(c:bM w B tb vn ve vl vs vm L F S){i:World}{f:Option Nat}(g:w.grownBy i f)(j:f≠some tb)(k:vn.ownBlock=none\/vn.ownBlock≠f)(l:ve.ownBlock=none\/ve.ownBlock≠f)(m:vl.ownBlock=none\/vl.ownBlock≠f)(o:vs.ownBlock=none\/vs.ownBlock≠f):bM i B tb vn ve vl vs vm L F S:=
 ⟨by rw [g.block tb (zu.1 c.box).1 (λe=>j e.symm),c.box],c.high,dQ c.rn g k,dQ c.re g l,dQ c.rl g m,dQ c.rs g o,c.lf,c.ls,c.few,c.short,c.ab,c.ac,c.bc⟩
theorem yK{w:World}{B:Nat}{l:Nat}(j:w.ownsRow B e l v n xs){i:Nat}(c:v.ownBlock=some i):∃f:Obj,w.heap[i]?=some f/\f.isCells=true:=by
 obtain ⟨_,⟨rfl,_⟩|⟨g,m,o,rfl,_,k,_⟩⟩:=j
 ·simp [zq] at c
 ·simp [zq] at c;subst c;exact ⟨_,k,rfl⟩
theorem yL{w:World}{B:Nat}{q:Nat}(l:w.ownsRow B e q v n xs){j:Option Nat}(p:∀k,j=some k->∃f:Obj,w.heap[k]?=some f/\f.isCells=false):v.ownBlock=none\/v.ownBlock≠j:=by
 cases hv:v.ownBlock with
 |none=>exact zs rfl
 |some g=>
  right;intro e;obtain ⟨f,m,o⟩:=p g e.symm;obtain ⟨r,c,i⟩:=yK l hv;rw [m] at c;simp at c;subst c;rw [o] at i;cases i
theorem bM.others(c:bM w B tb vn ve vl vs vm L F S){l:World}{j:Option Nat}(o:w.grownBy l j)(f:∀k,j=some k->∃i:Obj,w.heap[k]?=some i/\i.isCells=false):bM l B tb vn ve vl vs vm L F S:=
 c.grown o (λe=>by obtain ⟨i,g,m⟩:=f tb e;rw [c.box] at g;simp at g;subst g;cases m) (yL c.rn f) (yL c.re f) (yL c.rl f) (yL c.rs f)
theorem aKt(F:List Nat)(a b:Nat):(oS F).set a (.int .i64 b)=oS (F.set a b):=by rw [<-List.map_set]
theorem bM.lead{f i:Nat}(c:bM w B tb vn ve (.slice (some ⟨f,0,none⟩) L.length i) vs vm L F S)(a b:Nat):bM (w.setCell ⟨f,a,none⟩ (.int .i64 b)) B tb vn ve (.slice (some ⟨f,0,none⟩) L.length i) vs vm L (F.set a b) S/\w.grownBy (w.setCell ⟨f,a,none⟩ (.int .i64 b)) (some f):=by
 have g:=cN w ⟨f,a,none⟩ (.int .i64 b);refine ⟨⟨?_,c.high,dQ c.rn g ?_,dQ c.re g (zo c.ab),?_,dQ c.rs g (zo λe=>c.bc e.symm),by rw [zm];exact c.lf,c.ls,c.few,c.short,c.ab,c.ac,c.bc⟩,g⟩
 ·rw [g.block tb (zu.1 c.box).1 (λe=>dZ c.rl c.box (by decide) e.symm),c.box]
 ·rcases gE c.rn c.rl (by decide) with e|e
  ·exact zs e
  ·exact zo e
 ·have j:=(c.rl.stored a (.int .i64 b)).1;rw [aKt] at j;exact j
end
theorem aE9(D C:Nat)(P M N R O:Value)(k:List Nd)(g:List Nat)(I:List Int)(rt d:Nat->Nat)(j:Nat)(w:World)(i:bM w D C P M N R O k g I)(u:gG g rt d)(L:j<k.length):Calls zi 137 #[.pointer (some ⟨C,0,none⟩),.int .i64 j] w λe S=>e=.returned (.int .i64 (rt j))/\S=w:=by
 obtain ⟨T,V,rfl,z⟩:=aE8 i.rl i.lf;have U:=i.c2;have F:=aA z;have o:=aA u;have A:=i.lf;have Y:=i.few;have p:=aA A;clear z u i A;go_enter Tryz.func137,Tryz.ntmps137;go_wp2;go_loop [1] (λf=>∃c:Nat,c<k.length/\rt c=rt j/\f=.int .i64 c) (λf=>d (intOf f).toNat);case atStart=>exact ⟨j,L,rfl,rfl⟩
 case round=>
  obtain ⟨c,y,m,rfl⟩:=hrel;obtain ⟨X,rfl,W⟩:=F.o c (by rw [p.o];exact y);have Z:(c:Int)<(k.length:Int):=by omega
  have J:c<g.length:=by rw [p.o];exact y
  have l:g[c]?=some g[c]:=zx J;have B:=o.o.lt c _ l;have s:=o.o.step c _ l;have r:=o.o.root c;generalize g[c]=f at *;by_cases e:f=c
  ·have q:aM (rt j=c):=aA (by rw [<-m];exact r (by rw [l,e]));have x:((f:Int) != (c:Int))=false:=by rw [e];simp
   clear s r l m;subst e;clear x;go_wp2;go_ret;exact ⟨xO (by rw [q.o]),rfl⟩
  ·have x:((f:Int) != (c:Int))=true:=by rw [bne_iff_ne];omega
   have t:=aA (s e);have q:=aA m;have H:=aA (show f<k.length by rw [<-p.o];exact B);clear s r l m B;go_wp2;go_round;case rel=>exact ⟨f,H.o,by rw [<-t.o.1];exact q.o,rfl⟩
   case measure=>have:=t.o.2;simpa [intOf] using this
