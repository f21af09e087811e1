import Derived.Test.YthjhkgohninpcaaGreatDoorBase0M
import Derived.Maps.OwnSet
import Derived.Maps.Keyed
open List renaming reverse_cons→zz,append_assoc→zy,getElem?_map→zx
open Or renaming inr→zw,inl→zv
namespace Go.Proofs.YthjhkgohninpcaaGreatDoor
open Go.RowKit Go.WideMaps
set_option maxRecDepth 100000
variable{V:Int->Int->Prop}{R:Nat->Nat->Prop}
theorem aAj{a:DataW Unit}(g:Maps.IsMap a){c:Lit}(b:Maps.has a c=false)(e:DataW Unit):a.atKey c e=e:=by
 obtain ⟨f,rfl⟩:=g;rw [Maps.has_eq] at b;have:f.find? (λd=>d.1.sameKey c)=none:=by rw [List.find?_eq_none];intro d i;rw [List.any_eq_false] at b;exact b d i
 simp [DataW.atKey,this]
section
inductive aO{α β:Type}(R:α->β->Prop):List α->List β->Prop
 |nil:aO R [] []
 |cons {a b l m}:R a b->aO R l m->aO R (a::l) (b::m)
namespace aO
variable {α β:Type}{R S:α->β->Prop}
theorem length{l:List α}{m:List β}(a:aO R l m):l.length=m.length:=by
 induction a with
 |nil=>rfl
 |cons _ _ ih=>simp [ih]
theorem append{a b:List α}{c d:List β}(e:aO R a c)(f:aO R b d):aO R (a++b) (c++d):=by
 induction e with
 |nil=>exact f
 |cons h1 _ ih=>exact aO.cons h1 ih
theorem mono{c:List α}{m:List β}(d:aO R c m)(f:∀a b,R a b->S a b):aO S c m:=by
 induction d with
 |nil=>exact aO.nil
 |cons h1 _ ih=>exact aO.cons (f _ _ h1) ih
theorem snoc{c:List α}{d:List β}{a:α}{b:β}(e:aO R c d)(f:R a b):aO R (c++[a]) (d++[b]):=e.append (aO.cons f aO.nil)
theorem refl{R:α->α->Prop}(c:∀a,R a a):∀b:List α,aO R b b
 |[]=>aO.nil
 |a::b=>aO.cons (c a) (refl c b)
theorem of_get{d:List α}{a:List β}(f:d.length=a.length)(g:∀(e:Nat) (b:α) (c:β),d[e]?=some b->a[e]?=some c->R b c):aO R d a:=by
 induction d generalizing a with
 |nil=>cases a with
  |nil=>exact aO.nil
  |cons=>simp at f
 |cons b d ih=>cases a with
  |nil=>simp at f
  |cons c a=>exact aO.cons (g 0 b c rfl rfl) (ih (by simpa using f) λe b c i j=>g (e+1) b c (by simpa using i) (by simpa using j))
theorem rev{a:List α}{b:List β}(c:aO R a b):aO R a.reverse b.reverse:=by
 induction c with
 |nil=>exact aO.nil
 |cons h1 _ ih=>rw [zz,zz];exact ih.snoc h1
end aO
def lX(V:Int->Int->Prop):Prop:=∀a c b d,V a c->V b d->(a=b↔c=d)
def gZ(V:Int->Int->Prop)(a b:Nd):Prop:=(aM a=true/\aM b=true/\a.1=b.1/\V a.2 b.2)\/(aM a=false/\a=b)
theorem aRn(f:lX V){b c:List Int}(e:aO V b c){a d:Int}(i:V a d):tB b a=tB c d:=by
 induction e with
 |nil=>rfl
 |cons h1 h2 ih=>
  simp only [tB];have j:=f _ _ _ _ h1 i;have g:=h2.length;rw [ih,g];by_cases k : ‹Int› = a<;>simp_all
theorem aRo(f:lX V){a b:List Int}(e:aO V a b){c d:Int}(g:V c d):eK a c=eK b d:=aRn f e.rev g
theorem aRp(n:lX V){d b:List Nd×List Int}(f:d.1=b.1)(a:aO V d.2 b.2){g c:Nd}(m:gZ V g c):(cZ d g).1=(cZ b c).1/\aO V (cZ d g).2 (cZ b c).2:=by
 rcases m with ⟨e,l,i,j⟩|⟨e,rfl⟩
 ·have p:=aRo n a j;have o:=a.length;unfold cZ;rw [e,l,p];by_cases k:eK b.2 c.2<0
  ·simp [k,f,i,o];exact a.snoc j
  ·simp [k,f,i];exact a
 ·unfold cZ;rw [e];simp [f];exact a
theorem aRq(m:lX V){c d:List Nd}(l:aO (gZ V) c d){g i:List Int}(n:aO V g i):(dF c g).1=(dF d i).1/\aO V (dF c g).2 (dF d i).2:=by
 unfold dF;suffices ∀(a b:List Nd×List Int),a.1=b.1->aO V a.2 b.2->(c.foldl cZ a).1=(d.foldl cZ b).1/\aO V (c.foldl cZ a).2 (d.foldl cZ b).2 from this _ _ rfl n
 induction l with
 |nil=>intro a b e f;exact ⟨e,f⟩
 |cons hc _ ih=>
  intro a b e f;obtain ⟨j,k⟩:=aRp m e f hc;exact ih _ _ j k
structure Gr where
 lab:Nat->Nd
 ch:Nat->List Nat
def Gr.named(G:Gr)(i:Nat):Prop:=aM (G.lab i)=false
inductive Cl(G:Gr)(B:Nat->Nat->Prop):Nat->Nat->Prop
 |refl (i):Cl G B i i
 |base {i j}:B i j->Cl G B i j
 |symm {i j}:Cl G B i j->Cl G B j i
 |trans {i j k}:Cl G B i j->Cl G B j k->Cl G B i k
 |down {i j k p q:Nat}:Cl G B i j->G.named i->G.named j->(G.ch i)[k]?=some p->(G.ch j)[k]?=some q->Cl G B p q
structure fH(G:Gr)(R:Nat->Nat->Prop):Prop where
 refl:∀i,R i i
 symm:∀i j,R i j->R j i
 trans:∀i j k,R i j->R j k->R i k
 down:∀i j k p q:Nat,R i j->G.named i->G.named j->(G.ch i)[k]?=some p->(G.ch j)[k]?=some q->R p q
theorem Cl.isDown(a:Gr)(b:Nat->Nat->Prop):fH a (Cl a b):=⟨Cl.refl,λ_ _=>Cl.symm,λ_ _ _=>Cl.trans,λ_ _ _ _ _=>Cl.down⟩
theorem Cl.le{k:Gr}{j:Nat->Nat->Prop}(g:fH k R)(l:∀e f,j e f->R e f){e f:Nat}(i:Cl k j e f):R e f:=by
 induction i with
 |refl e=>exact g.refl e
 |base i=>exact l _ _ i
 |symm _ ih=>exact g.symm _ _ ih
 |trans _ _ h1 h2=>exact g.trans _ _ _ h1 h2
 |down _ a b c d ih=>exact g.down _ _ _ _ _ ih a b c d
def eS(a:Gr)(R:Nat->Nat->Prop):Prop:=∀b c,R b c->a.named b->a.named c->a.lab b=a.lab c
inductive bK(G:Gr)(R:Nat->Nat->Prop):Nat->Prop
 |mk (i):(∀j,R i j->G.named j->∀p∈G.ch j,bK G R p)->bK G R i
theorem bK.parts{a:Gr}{c:Nat}(b:bK a R c){j p:Nat}(d:R c j)(e:a.named j)(f:p∈a.ch j):bK a R p:=by cases b with|mk _ b=>exact b j d e p f
theorem bK.same{G:Gr}(b:fH G R){i j:Nat}(a:bK G R i)(c:R i j):bK G R j:=⟨_,λ_ d e _ f=>a.parts (b.trans _ _ _ c d) e f⟩
inductive aS(G:Gr)(R:Nat->Nat->Prop)(rep:Nat->Nat):List Nat->List Nd->Prop
 |nil:aS G R rep [] []
 |var {i r l}:(∀j,R i j->¬G.named j)->aS G R rep r l->aS G R rep (i::r) ((⟨#[]⟩,(rep i:Int))::l)
 |name {i j r l}:R i j->G.named j->aS G R rep (G.ch j++r) l->aS G R rep (i::r) (G.lab j::l)
section
variable {G:Gr}{R:Nat->Nat->Prop}{rep:Nat->Nat}
theorem aS.append{c d:List Nat}{a b:List Nd}(e:aS G R rep c a)(f:aS G R rep d b):aS G R rep (c++d) (a++b):=by
 induction e with
 |nil=>exact f
 |var h1 _ ih=>exact aS.var h1 ih
 |name h1 h2 _ ih=>exact aS.name h1 h2 (by rw [zy] at ih;exact ih)
theorem aS.split{x:List Nat}{c:List Nd}(f:aS G R rep x c):∀r s,x=r++s->∃b l2,c=b++l2/\aS G R rep r b/\aS G R rep s l2:=by
 induction f with
 |nil=>
  intro r s a;obtain ⟨rfl,rfl⟩:=List.append_eq_nil_iff.1 a.symm;exact ⟨[],[],rfl,aS.nil,aS.nil⟩
 |@var i r0 c h1 h2 ih=>
  intro r s a;cases r with
  |nil=>
   simp at a;subst a;exact ⟨[],_,rfl,aS.nil,aS.var h1 h2⟩
  |cons y r=>
   simp at a;obtain ⟨rfl,a⟩:=a;obtain ⟨b,l2,rfl,d,e⟩:=ih r s a;exact ⟨_::b,l2,rfl,aS.var h1 d,e⟩
 |@name i j r0 c h1 h2 h3 ih=>
  intro r s a;cases r with
  |nil=>
   simp at a;subst a;exact ⟨[],_,rfl,aS.nil,aS.name h1 h2 h3⟩
  |cons y r=>
   simp at a;obtain ⟨rfl,a⟩:=a;obtain ⟨b,l2,rfl,d,e⟩:=ih (G.ch j++r) s (by rw [a,zy]);exact ⟨_::b,l2,rfl,aS.name h1 h2 d,e⟩
theorem aS.same(d:fH G R)(l:∀i j,R i j->rep i=rep j){f:List Nat}{e:List Nd}(g:aS G R rep f e):∀c,aO R f c->aS G R rep c e:=by
 induction g with
 |nil=>intro c a;cases a;exact aS.nil
 |@var i r e h1 _ ih=>
  intro c a;cases a with
  |@cons _ b _ m hb hm=>
   rw [l _ _ hb];exact aS.var (λj k=>h1 j (d.trans _ _ _ hb k)) (ih _ hm)
 |@name i j r e h1 h2 _ ih=>
  intro c a;cases a with
  |@cons _ b _ m hb hm=>
   exact aS.name (d.trans _ _ _ (d.symm _ _ hb) h1) h2 (ih _ ((aO.refl d.refl _).append hm))
def Gr.Arity(G:Gr):Prop:=∀a b,G.named a->G.named b->G.lab a=G.lab b->(G.ch a).length=(G.ch b).length
theorem wN(m:fH G R)(l:eS G R)(k:G.Arity){a b:Nat}(e:R a b)(c:G.named a)(d:G.named b):aO R (G.ch a) (G.ch b):=
 aO.of_get (k a b c d (l a b e c d)) λn f g i j=>m.down a b n f g e c d i j
theorem aS.one(a:fH G R)(g:eS G R)(l:G.Arity)(m:∀e c,R e c->rep e=rep c){j:List Nat}{f:List Nd}(k:aS G R rep j f):∀d,aS G R rep j d->f=d:=by
 induction k with
 |nil=>intro d b;cases b;rfl
 |@var e r f h1 _ ih=>
  intro d b;cases b with
  |var _ h2=>rw [ih _ h2]
  |name h2 h3 _=>exact absurd h3 (h1 _ h2)
 |@name e c r f h1 h2 _ ih=>
  intro d b;cases b with
  |var h3 _=>exact absurd h2 (h3 _ h1)
  |@name _ j' _ m' h3 h4 h5=>
   have i:R j' c:=a.trans _ _ _ (a.symm _ _ h3) h1;rw [g j' c i h4 h2,ih _ (h5.same a m _ ((wN a g l i h4 h2).append (aO.refl a.refl _)))]
theorem aS.exists_of_all{c:List Nat}(d:∀b∈c,∃a,aS G R rep [b] a):∃a,aS G R rep c a:=by
 induction c with
 |nil=>exact ⟨[],aS.nil⟩
 |cons b r ih=>
  obtain ⟨a,f⟩:=d b (by simp);obtain ⟨j,g⟩:=ih λi e=>d i (by simp [e])
  exact ⟨a++j,f.append g⟩
theorem bK.exp{i:Nat}(e:bK G R i):∃d,aS G R rep [i] d:=by
 induction e with
 |mk i _ ih=>
  by_cases c:∃j,R i j/\G.named j
  ·obtain ⟨j,a,b⟩:=c;obtain ⟨d,f⟩:=aS.exists_of_all (G:=G) (R:=R) (rep:=rep) λk g=>ih j a b k g
   exact ⟨_,aS.name a b (by rw [List.append_nil];exact f)⟩
  ·exact ⟨_,aS.var (λj a b=>c ⟨j,a,b⟩) aS.nil⟩
theorem aS.pos{c:Nat}{a:List Nd}(b:aS G R rep [c] a):1<=a.length:=by
 cases b with
 |var=>simp
 |name=>simp
end
theorem nJ(b:Int):aM (⟨#[]⟩,b)=true:=by
 have a:(⟨#[]⟩ : ByteArray).toList=[]:=by rw [ByteArray.toList_eq]
 simp [aM,a]
structure Laid(P D:Gr)(BP BD:Nat->Nat->Prop)(f:Nat->Nat):Prop where
 named:∀p,P.named p↔D.named (f p)
 lab:∀p,P.named p->P.lab p=D.lab (f p)
 ch:∀p,P.named p->D.ch (f p)=(P.ch p).map f
 ker:∀p q,f p=f q->Cl P BP p q
 base:∀p q,BP p q->Cl D BD (f p) (f q)
 back:∀r s,BD r s->∃p q,f p=r/\f q=s/\Cl P BP p q
 onto:∀r,D.named r->∃p,f p=r
section
variable {P D:Gr}{BP BD:Nat->Nat->Prop}{f:Nat->Nat}
theorem Laid.to(a:Laid P D BP BD f){b c:Nat}(d:Cl P BP b c):Cl D BD (f b) (f c):=by refine Cl.le (R:=λb c=>Cl D BD (f b) (f c)) ⟨λ_=>Cl.refl _,λ_ _=>Cl.symm,λ_ _ _=>Cl.trans,?_⟩ (λi j l=>a.base i j l) d;intro i j k b c d e g m n;exact Cl.down (k:=k) d ((a.named i).1 e) ((a.named j).1 g) (by rw [a.ch i e];simp [m]) (by rw [a.ch j g];simp [n])
theorem Laid.from(c:Laid P D BP BD f){p m:Nat}(n:Cl D BD (f p) (f m)):Cl P BP p m:=by
 have z:f p=f m\/∃g k,f g=f p/\f k=f m/\Cl P BP g k:=by
  refine Cl.le (R:=λr q=>r=q\/∃g k,f g=r/\f k=q/\Cl P BP g k) ⟨λ_=>zv rfl,?_,?_,?_⟩ ?_ n
  ·rintro i j (rfl|⟨a,b,rfl,rfl,h1⟩)
   ·exact zv rfl
   ·exact zw ⟨b,a,rfl,rfl,h1.symm⟩
  ·rintro i j y (rfl|⟨a,b,rfl,rfl,h1⟩) (rfl|⟨a',b',h2,rfl,h3⟩)
   ·exact zv rfl
   ·exact zw ⟨a',b',h2,rfl,h3⟩
   ·exact zw ⟨a,b,rfl,rfl,h1⟩
   ·exact zw ⟨a,b',rfl,rfl,h1.trans ((c.ker _ _ h2.symm).trans h3)⟩
  ·rintro i j y x C (rfl|⟨a,b,rfl,rfl,h1⟩) v w e d
   ·rw [e] at d;exact zv (by simpa using d)
   ·have o:=(c.named a).2 v;have l:=(c.named b).2 w;rw [c.ch a o,zx] at e;rw [c.ch b l,zx] at d;simp at e d;obtain ⟨A,e,rfl⟩:=e;obtain ⟨B,d,rfl⟩:=d;exact zw ⟨A,B,rfl,rfl,Cl.down h1 o l e d⟩
  ·intro i j l;exact zw (c.back i j l)
 rcases z with s|⟨g,k,t,u,n⟩
 ·exact c.ker _ _ s
 ·exact (c.ker _ _ t.symm).trans (n.trans (c.ker _ _ u))
theorem Laid.clash(a:Laid P D BP BD f):eS P (Cl P BP)↔eS D (Cl D BD):=by
 constructor
 ·intro i l m g j k;obtain ⟨b,rfl⟩:=a.onto l j;obtain ⟨c,rfl⟩:=a.onto m k;have d:=(a.named b).2 j;have e:=(a.named c).2 k;rw [<-a.lab b d,<-a.lab c e];exact i b c (a.from g) d e
 ·intro i b c g d e;rw [a.lab b d,a.lab c e];exact i _ _ (a.to g) ((a.named b).1 d) ((a.named c).1 e)
theorem Laid.ends_to(a:Laid P D BP BD f){g:Nat}(j:bK P (Cl P BP) g):bK D (Cl D BD) (f g):=by
 induction j with
 |mk i _ ih=>
  refine ⟨_,λm k c o e=>?_⟩;obtain ⟨b,rfl⟩:=a.onto m c;have d:=(a.named b).2 c;rw [a.ch b d] at e;obtain ⟨n,l,rfl⟩:=List.mem_map.1 e;exact ih b (a.from k) d n l
theorem Laid.ends_from(a:Laid P D BP BD f){e:Nat}(j:bK D (Cl D BD) e):∀b,f b=e->bK P (Cl P BP) b:=by
 induction j with
 |mk i _ ih=>
  rintro b rfl;refine ⟨_,λc k d g l=>?_⟩;exact ih (f c) (a.to k) ((a.named c).1 d) (f g) (by rw [a.ch c d];exact List.mem_map_of_mem l) g rfl
theorem Laid.exp(a:Laid P D BP BD f){m rd:Nat->Nat}{n:List Nat}{d:List Nd}(o:aS P (Cl P BP) m n d):∃e,aS D (Cl D BD) rd (n.map f) e/\aO (gZ λb c=>∃k,b=(m k:Int)/\c=(rd (f k):Int)) d e:=by
 induction o with
 |nil=>exact ⟨[],aS.nil,aO.nil⟩
 |@var i r d h1 _ ih=>
  obtain ⟨e,b,c⟩:=ih;refine ⟨_,aS.var (i:=f i) (λj p g=>?_) b,aO.cons (zv ⟨nJ _,nJ _,rfl,i,rfl,rfl⟩) c⟩;obtain ⟨l,rfl⟩:=a.onto j g;exact h1 l (a.from p) ((a.named l).2 g)
 |@name i j r d h1 h2 _ ih=>
  obtain ⟨e,b,c⟩:=ih;refine ⟨_,aS.name (i:=f i) (j:=f j) (a.to h1) ((a.named j).1 h2) (by rw [a.ch j h2,<-List.map_append];exact b),aO.cons (zw ⟨h2,a.lab j h2⟩) c⟩
theorem Laid.pairs(e:Laid P D BP BD f){d c:Nat->Nat}(i:∀a b,d a=d b↔Cl P BP a b)(g:∀a b,c a=c b↔Cl D BD a b):lX λj k=>∃a,j=(d a:Int)/\k=(c (f a):Int):=by
 rintro m o n p ⟨a,rfl,rfl⟩ ⟨b,rfl,rfl⟩;constructor
 ·intro l;have:c (f a)=c (f b):=(g _ _).2 (e.to ((i a b).1 (by omega)));omega
 ·intro l;have:d a=d b:=(i _ _).2 (e.from ((g _ _).1 (by omega)));omega
end
end
