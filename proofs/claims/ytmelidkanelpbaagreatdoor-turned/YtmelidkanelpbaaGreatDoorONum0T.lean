import Derived.Test.YtmelidkanelpbaaGreatDoorBase0T
import Derived.Maps.OwnSet
import Derived.Maps.Keyed
namespace Go.Proofs.YtmelidkanelpbaaGreatDoor
open Go.RowKit Go.WideMaps
set_option maxRecDepth 100000
variable{V:Int->Int->Prop}{R:Nat->Nat->Prop}
theorem aAp{a:DataW Unit}(g:Maps.IsMap a){c:Lit}(b:Maps.has a c=false)(e:DataW Unit):a.atKey c e=e:=by
 obtain ⟨f,rfl⟩:=g;rw [Maps.has_eq] at b;have:f.find? (λd=>d.1.sameKey c)=none:=by rw [List.find?_eq_none];intro d i;rw [List.any_eq_false] at b;exact b d i
 simp [DataW.atKey,this]
section
inductive aP{α β:Type}(R:α->β->Prop):List α->List β->Prop
 |nil:aP R [] []
 |cons {a b l m}:R a b->aP R l m->aP R (a::l) (b::m)
namespace aP
variable {α β:Type}{R S:α->β->Prop}
theorem length{l:List α}{m:List β}(a:aP R l m):l.length=m.length:=by
 induction a with
 |nil=>rfl
 |cons _ _ ih=>simp [ih]
theorem append{a b:List α}{c d:List β}(e:aP R a c)(f:aP R b d):aP R (a++b) (c++d):=by
 induction e with
 |nil=>exact f
 |cons h1 _ ih=>exact aP.cons h1 ih
theorem mono{c:List α}{m:List β}(d:aP R c m)(f:∀a b,R a b->S a b):aP S c m:=by
 induction d with
 |nil=>exact aP.nil
 |cons h1 _ ih=>exact aP.cons (f _ _ h1) ih
theorem snoc{c:List α}{d:List β}{a:α}{b:β}(e:aP R c d)(f:R a b):aP R (c++[a]) (d++[b]):=e.append (aP.cons f aP.nil)
theorem refl{R:α->α->Prop}(f:∀a,R a a):∀l:List α,aP R l l
 |[]=>aP.nil
 |a::l=>aP.cons (f a) (refl f l)
theorem of_get{d:List α}{a:List β}(f:d.length=a.length)(g:∀(e:Nat) (b:α) (c:β),d[e]?=some b->a[e]?=some c->R b c):aP R d a:=by
 induction d generalizing a with
 |nil=>cases a with
  |nil=>exact aP.nil
  |cons=>simp at f
 |cons b d ih=>cases a with
  |nil=>simp at f
  |cons c a=>exact aP.cons (g 0 b c rfl rfl) (ih (by simpa using f) λe b c i j=>g (e+1) b c (by simpa using i) (by simpa using j))
theorem rev{a:List α}{b:List β}(c:aP R a b):aP R a.reverse b.reverse:=by
 induction c with
 |nil=>exact aP.nil
 |cons h1 _ ih=>rw [List.reverse_cons,List.reverse_cons];exact ih.snoc h1
end aP
def mL(V:Int->Int->Prop):Prop:=∀a c b d,V a c->V b d->(a=b↔c=d)
def fS(V:Int->Int->Prop)(a b:Nd):Prop:=(aL a=true/\aL b=true/\a.1=b.1/\V a.2 b.2)\/(aL a=false/\a=b)
theorem aVw(f:mL V){b c:List Int}(e:aP V b c){a d:Int}(i:V a d):sE b a=sE c d:=by
 induction e with
 |nil=>rfl
 |cons h1 h2 ih=>
  simp only [sE];have j:=f _ _ _ _ h1 i;have g:=h2.length;rw [ih,g];by_cases k : ‹Int› = a<;>simp_all
theorem aVx(f:mL V){a b:List Int}(e:aP V a b){c d:Int}(g:V c d):eS a c=eS b d:=aVw f e.rev g
theorem aVy(n:mL V){d b:List Nd×List Int}(f:d.1=b.1)(a:aP V d.2 b.2){g c:Nd}(m:fS V g c):(cI d g).1=(cI b c).1/\aP V (cI d g).2 (cI b c).2:=by
 rcases m with ⟨e,l,i,j⟩|⟨e,rfl⟩
 ·have p:=aVx n a j;have o:=a.length;unfold cI;rw [e,l,p];by_cases k:eS b.2 c.2<0
  ·simp [k,f,i,o];exact a.snoc j
  ·simp [k,f,i];exact a
 ·unfold cI;rw [e];simp [f];exact a
theorem aVz(m:mL V){c d:List Nd}(l:aP (fS V) c d){g i:List Int}(n:aP V g i):(dW c g).1=(dW d i).1/\aP V (dW c g).2 (dW d i).2:=by
 unfold dW;suffices ∀(a b:List Nd×List Int),a.1=b.1->aP V a.2 b.2->(c.foldl cI a).1=(d.foldl cI b).1/\aP V (c.foldl cI a).2 (d.foldl cI b).2 from this _ _ rfl n
 induction l with
 |nil=>intro a b e f;exact ⟨e,f⟩
 |cons hc _ ih=>
  intro a b e f;obtain ⟨j,k⟩:=aVy m e f hc;exact ih _ _ j k
structure Gr where
 lab:Nat->Nd
 ch:Nat->List Nat
def Gr.named(G:Gr)(i:Nat):Prop:=aL (G.lab i)=false
inductive Cl(G:Gr)(B:Nat->Nat->Prop):Nat->Nat->Prop
 |refl (i):Cl G B i i
 |base {i j}:B i j->Cl G B i j
 |symm {i j}:Cl G B i j->Cl G B j i
 |trans {i j k}:Cl G B i j->Cl G B j k->Cl G B i k
 |down {i j k p q:Nat}:Cl G B i j->G.named i->G.named j->(G.ch i)[k]?=some p->(G.ch j)[k]?=some q->Cl G B p q
structure kI(G:Gr)(R:Nat->Nat->Prop):Prop where
 refl:∀i,R i i
 symm:∀i j,R i j->R j i
 trans:∀i j k,R i j->R j k->R i k
 down:∀i j k p q:Nat,R i j->G.named i->G.named j->(G.ch i)[k]?=some p->(G.ch j)[k]?=some q->R p q
theorem Cl.isDown(a:Gr)(b:Nat->Nat->Prop):kI a (Cl a b):=⟨Cl.refl,λ_ _=>Cl.symm,λ_ _ _=>Cl.trans,λ_ _ _ _ _=>Cl.down⟩
theorem Cl.le{k:Gr}{j:Nat->Nat->Prop}(g:kI k R)(l:∀e f,j e f->R e f){e f:Nat}(i:Cl k j e f):R e f:=by
 induction i with
 |refl e=>exact g.refl e
 |base i=>exact l _ _ i
 |symm _ ih=>exact g.symm _ _ ih
 |trans _ _ h1 h2=>exact g.trans _ _ _ h1 h2
 |down _ a b c d ih=>exact g.down _ _ _ _ _ ih a b c d
def kJ(a:Gr)(R:Nat->Nat->Prop):Prop:=∀b c,R b c->a.named b->a.named c->a.lab b=a.lab c
inductive cE(G:Gr)(R:Nat->Nat->Prop):Nat->Prop
 |mk (i):(∀j,R i j->G.named j->∀p∈G.ch j,cE G R p)->cE G R i
theorem cE.parts{a:Gr}{d:Nat}(b:cE a R d){j c:Nat}(e:R d j)(f:a.named j)(g:c∈a.ch j):cE a R c:=by cases b with|mk _ b=>exact b j e f c g
theorem cE.same{G:Gr}(b:kI G R){i j:Nat}(a:cE G R i)(c:R i j):cE G R j:=⟨_,λ_ d e _ f=>a.parts (b.trans _ _ _ c d) e f⟩
inductive aW(G:Gr)(R:Nat->Nat->Prop)(rep:Nat->Nat):List Nat->List Nd->Prop
 |nil:aW G R rep [] []
 |var {i r l}:(∀j,R i j->¬G.named j)->aW G R rep r l->aW G R rep (i::r) ((⟨#[]⟩,(rep i:Int))::l)
 |name {i j r l}:R i j->G.named j->aW G R rep (G.ch j++r) l->aW G R rep (i::r) (G.lab j::l)
section
variable {G:Gr}{R:Nat->Nat->Prop}{rep:Nat->Nat}
theorem aW.append{c d:List Nat}{a b:List Nd}(e:aW G R rep c a)(f:aW G R rep d b):aW G R rep (c++d) (a++b):=by
 induction e with
 |nil=>exact f
 |var h1 _ ih=>exact aW.var h1 ih
 |name h1 h2 _ ih=>exact aW.name h1 h2 (by rw [List.append_assoc] at ih;exact ih)
theorem aW.split{x:List Nat}{d:List Nd}(g:aW G R rep x d):∀b s,x=b++s->∃c l2,d=c++l2/\aW G R rep b c/\aW G R rep s l2:=by
 induction g with
 |nil=>
  intro b s a;obtain ⟨rfl,rfl⟩:=List.append_eq_nil_iff.1 a.symm;exact ⟨[],[],rfl,aW.nil,aW.nil⟩
 |@var i r0 d h1 h2 ih=>
  intro b s a;cases b with
  |nil=>
   simp at a;subst a;exact ⟨[],_,rfl,aW.nil,aW.var h1 h2⟩
  |cons y b=>
   simp at a;obtain ⟨rfl,a⟩:=a;obtain ⟨c,l2,rfl,e,f⟩:=ih b s a;exact ⟨_::c,l2,rfl,aW.var h1 e,f⟩
 |@name i j r0 d h1 h2 h3 ih=>
  intro b s a;cases b with
  |nil=>
   simp at a;subst a;exact ⟨[],_,rfl,aW.nil,aW.name h1 h2 h3⟩
  |cons y b=>
   simp at a;obtain ⟨rfl,a⟩:=a;obtain ⟨c,l2,rfl,e,f⟩:=ih (G.ch j++b) s (by rw [a,List.append_assoc]);exact ⟨_::c,l2,rfl,aW.name h1 h2 e,f⟩
theorem aW.same(d:kI G R)(l:∀i j,R i j->rep i=rep j){f:List Nat}{e:List Nd}(g:aW G R rep f e):∀c,aP R f c->aW G R rep c e:=by
 induction g with
 |nil=>intro c a;cases a;exact aW.nil
 |@var i r e h1 _ ih=>
  intro c a;cases a with
  |@cons _ b _ m hb hm=>
   rw [l _ _ hb];exact aW.var (λj k=>h1 j (d.trans _ _ _ hb k)) (ih _ hm)
 |@name i j r e h1 h2 _ ih=>
  intro c a;cases a with
  |@cons _ b _ m hb hm=>
   exact aW.name (d.trans _ _ _ (d.symm _ _ hb) h1) h2 (ih _ ((aP.refl d.refl _).append hm))
def Gr.Arity(G:Gr):Prop:=∀a b,G.named a->G.named b->G.lab a=G.lab b->(G.ch a).length=(G.ch b).length
theorem aDo(m:kI G R)(l:kJ G R)(k:G.Arity){a b:Nat}(e:R a b)(c:G.named a)(d:G.named b):aP R (G.ch a) (G.ch b):=
 aP.of_get (k a b c d (l a b e c d)) λn f g i j=>m.down a b n f g e c d i j
theorem aW.one(a:kI G R)(g:kJ G R)(l:G.Arity)(m:∀e c,R e c->rep e=rep c){j:List Nat}{f:List Nd}(k:aW G R rep j f):∀d,aW G R rep j d->f=d:=by
 induction k with
 |nil=>intro d b;cases b;rfl
 |@var e r f h1 _ ih=>
  intro d b;cases b with
  |var _ h2=>rw [ih _ h2]
  |name h2 h3 _=>exact absurd h3 (h1 _ h2)
 |@name e c r f h1 h2 _ ih=>
  intro d b;cases b with
  |var h3 _=>exact absurd h2 (h3 _ h1)
  |@name _ j' _ m' h3 h4 h5=>
   have i:R j' c:=a.trans _ _ _ (a.symm _ _ h3) h1;rw [g j' c i h4 h2,ih _ (h5.same a m _ ((aDo a g l i h4 h2).append (aP.refl a.refl _)))]
theorem aW.exists_of_all{c:List Nat}(d:∀b∈c,∃a,aW G R rep [b] a):∃a,aW G R rep c a:=by
 induction c with
 |nil=>exact ⟨[],aW.nil⟩
 |cons b r ih=>
  obtain ⟨a,f⟩:=d b (by simp);obtain ⟨j,g⟩:=ih λi e=>d i (by simp [e])
  exact ⟨a++j,f.append g⟩
theorem cE.exp{d:Nat}(g:cE G R d):∃f,aW G R rep [d] f:=by
 induction g with
 |mk d _ ih=>
  by_cases e:∃a,R d a/\G.named a
  ·obtain ⟨a,b,c⟩:=e;obtain ⟨f,i⟩:=aW.exists_of_all (G:=G) (R:=R) (rep:=rep) λk j=>ih a b c k j
   exact ⟨_,aW.name b c (by rw [List.append_nil];exact i)⟩
  ·exact ⟨_,aW.var (λa b c=>e ⟨a,b,c⟩) aW.nil⟩
theorem aW.pos{c:Nat}{a:List Nd}(b:aW G R rep [c] a):1<=a.length:=by
 cases b with
 |var=>simp
 |name=>simp
end
theorem pG(b:Int):aL (⟨#[]⟩,b)=true:=by
 have a:(⟨#[]⟩ : ByteArray).toList=[]:=by rw [ByteArray.toList_eq]
 simp [aL,a]
end
def jM(V:Int->Int->Prop)(a b:Lt):Prop:=a.1=b.1/\aP (fS V) a.2 b.2
section
variable {V:Int->Int->Prop}
theorem yD{a:Nd}(d:aL a=true):a.1=⟨#[]⟩:=by
 obtain ⟨f,g⟩:=a;obtain ⟨b⟩:=f;have c:(⟨b⟩ : ByteArray).toList=[]:=by simpa [aL] using d
 rw [ByteArray.toList_eq] at c;have e:b=#[]:=by apply Array.ext';exact c
 rw [e]
theorem aW0(t:mL V){k i l j:Nd}(s:fS V k i)(g:fS V l j):k=l↔i=j:=by
 rcases s with ⟨c,e,u,m⟩|⟨c,rfl⟩
 ·rcases g with ⟨b,d,n,f⟩|⟨b,rfl⟩
  ·have o:=yD c;have p:=yD e;have q:=yD b;have r:=yD d;have:=t _ _ _ _ m f;constructor
   ·intro a;exact Prod.ext (by rw [p,r]) (this.1 (by rw [a]))
   ·intro a;exact Prod.ext (by rw [o,q]) (this.2 (by rw [a]))
  ·constructor
   ·intro a;rw [a,b] at c;cases c
   ·intro a;rw [a,b] at e;cases e
 ·rcases g with ⟨b,d,n,f⟩|⟨b,rfl⟩
  ·constructor
   ·intro a;rw [<-a,c] at b;cases b
   ·intro a;rw [<-a,c] at d;cases d
  ·exact Iff.rfl
theorem aW1(j:mL V){f g:List Nd}(i:aP (fS V) f g):∀{c d:List Nd},aP (fS V) c d->(f=c↔g=d):=by
 induction i with
 |nil=>
  intro c d e;cases e with
  |nil=>simp
  |cons _ _=>simp
 |cons a _ ih=>
  intro c d e;cases e with
  |nil=>simp
  |cons b k=>
   rw [List.cons.injEq,List.cons.injEq,aW0 j a b,ih k]
theorem aW2(i:mL V){d f e g:Lt}(b:jM V d f)(c:jM V e g):d=e↔f=g:=by
 have:=aW1 i b.2 c.2;constructor
 ·intro a;exact Prod.ext (by rw [<-b.1,<-c.1,a]) (this.1 (by rw [a]))
 ·intro a;exact Prod.ext (by rw [b.1,c.1,a]) (this.2 (by rw [a]))
theorem aW3(g:mL V){b c:List Lt}(f:aP (jM V) b c){d e:Lt}(i:jM V d e):fO b d=fO c e:=by
 induction f with
 |nil=>rfl
 |cons a _ ih=>
  simp only [fO,List.any_cons] at ih ⊢;rw [ih];congr 1
  exact decide_eq_decide.2 (aW2 g a i)
theorem aW4(i:mL V){b c:List Lt}(g:aP (jM V) b c):aP (jM V) (bT b) (bT c):=by
 suffices ∀{b c:List Lt},aP (jM V) b c->∀{e f:List Lt},aP (jM V) e f->aP (jM V) (b.foldl eF e) (c.foldl eF f) from this g aP.nil
 intro b c g;induction g with
 |nil=>intro e f d;exact d
 |cons a _ ih=>
  intro e f d;simp only [List.foldl_cons];refine ih ?_;unfold eF;rw [aW3 i d a];split
  ·exact d
  ·exact d.snoc a
theorem aW5(k:mL V){b c:List Lt}(f:aP (jM V) b c):(cW b).1=(cW c).1:=by
 suffices ∀{b c:List Lt},aP (jM V) b c->∀{d e:List Lt×List Int},d.1=e.1->aP V d.2 e.2->(b.foldl dK d).1=(c.foldl dK e).1 from this f rfl aP.nil
 intro b c f;induction f with
 |nil=>intro d e g _;exact g
 |cons a _ ih=>
  intro d e g j;simp only [List.foldl_cons];have i:=aVz k a.2 j;refine ih ?_ i.2;simp only [dK];rw [g,a.1,i.1]
theorem aDp(c:mL V){a b:List Lt}(d:aP (jM V) a b):aV a=aV b:=aW5 c (aW4 c d)
end
