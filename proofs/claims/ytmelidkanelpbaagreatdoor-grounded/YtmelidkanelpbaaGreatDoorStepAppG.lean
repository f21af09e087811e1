import Derived.Test.YtmelidkanelpbaaGreatDoorBase0G
import Derived.Maps.OwnSet
import Derived.Maps.Keyed
open List renaming getElem?_eq_some_iff→zy,reverse_cons→zv,append_assoc→zu
namespace Go.Proofs.YtmelidkanelpbaaGreatDoor
open Region renaming wanted→zw
open _root_.Go.Proofs.Tryz renaming prog→zz
open Value renaming ownBlock→zx
open Go.RowKit Go.WideMaps
set_option maxRecDepth 100000
variable{V:Int->Int->Prop}{xs:List Value}{B n size:Nat}{R:Nat->Nat->Prop}{e:TypeId}{v:Value}{w w':World}
theorem oY{q:Array Oper}{a:Oper}{b:Act}{K:Act->World->Prop}{u:Exit->Act->World->Prop}{t:Prop}(D:a.guard=none)(r s:Operand)(i e:TypeId)(I:a.op=.call {callee:=.builtin .append,args:=#[r,s],argTypes:=#[i,i]})
  (m:Value) (size g:Nat) (Q:zz.underlying i=some (.slice e)) (F:(zz.info? e).map (λc=>(c.zero,c.size,c.bytes))=some (some m,size,g)) (X:m.cells.size=size) (O:0<size) (C:g<=100) (f:Nat) (v:Value) (n:Nat) (xs:List Value) (M:b.eval r=v) (J:w.ownsRow f e size v n xs) (a0:n<=10000000) (A:f<=w.heap.size) (l o:Nat) (d:List Value) (T:b.eval s=.slice (some ⟨l,0,none⟩) 1 o) (G:d.length=1*size) (H:∀p j,d[p]?=some j->w.cell? ((⟨l,0,none⟩ : Addr).add p)=some j) (y:∀j∈d,j.oneCell'=true)
  (x:∀k w',w'.ownsRow f e size k (n+1) (xs++d)->w.grownBy w' v.ownBlock->K (b.put a.dst k) w'):if zw a (yielded q b.tmps)=true then Oper.wp zz a b w K u else t:=by
 have S:zw a (yielded q b.tmps)=true:=by simp [zw,D]
 rw [aI S];obtain ⟨c,E,W,N,U⟩:=info_parts F;have z:(n+1)*g<=140737488355328:=Nat.le_trans (Nat.mul_le_mul (show n+1<=10000001 by omega) C) (by decide);obtain ⟨k,w',L,Y,Z,_⟩:=run_append_own (P:=zz) w f i a.type e c m size g Q E W N U X O v n xs J ⟨l,0,none⟩ 1 o d G H y (by unfold maxLen;omega) z A;unfold Oper.wp execOp;simp only [I,resolve,invoke,builtin,Sem.run_bind,Sem.run_pure,Result.andThen_ok,List.map_toArray,List.map_cons,List.map_nil,M,T,L];exact x k w' Y Z
theorem aM4(w:World)(b:Array Value)(c:TypeId)(a:Nat)(g:Value)(d:b.toList[a]?=some g):(w.alloc (.cells b c)).cell? ((⟨w.heap.size,0,none⟩ : Addr).add a)=some g:=by
 have i:(w.alloc (.cells b c)).heap[w.heap.size]?=some (.cells b c):=by show (w.heap.push _)[w.heap.size]?=_;simp
 simp only [Array.getElem?_toList] at d;have e:(⟨w.heap.size,0,none⟩ : Addr).add a=⟨w.heap.size,a,none⟩:=by
  unfold Addr.add;by_cases f:a=0
  ·simp [f]
  ·simp [f]
 rw [e];unfold World.cell?;rw [i];exact d
def aM5(b:Exit->Act->World->Prop):Exit->Act->World->Prop
 | .panic _,_,_=>False
 |e,a,w=>b e a w
theorem tH{d:Code}{c:Exit->Act->World->Prop}{b:Act}(a:d.wp zz (aM5 c) b w):d.wp zz c b w:=
 Code.wp_mono (λe b w a=>by cases e<;>first|exact a|exact False.elim a) a
theorem qW{a:Exit->Act->World->Prop}{b:Act}(c:a .normal b w):aM5 a .normal b w:=c
theorem aBc{a:DataW Unit}(i:Maps.IsMap a){c:Lit}(b:Maps.has a c=false)(f:DataW Unit):a.atKey c f=f:=by
 obtain ⟨g,rfl⟩:=i;rw [Maps.has_eq] at b;have:g.find? (λd=>d.1.sameKey c)=none:=by rw [List.find?_eq_none];intro d j;rw [List.any_eq_false] at b;exact b d j
 simp [DataW.atKey,this]
def kB(w:World)(v b:Value):Prop:=b.ownBlock=v.ownBlock\/∃a,b.ownBlock=some a/\w.heap.size<=a
theorem kB.refl(w:World)(v:Value):kB w v v:=Or.inl rfl
theorem kB.trans{w w1:World}{v c d:Value}(a:kB w v c)(k:kB w1 c d)(f:w.heap.size<=w1.heap.size):kB w v d:=by
 rcases k with k|⟨g,k,b⟩
 ·rcases a with a|⟨g,a,b⟩
  ·exact Or.inl (k.trans a)
  ·exact Or.inr ⟨g,k.trans a,b⟩
 ·exact Or.inr ⟨g,k,by omega⟩
theorem aM6{d f:World}{k:Value}(a:w.grownBy d v.ownBlock)(c:kB w v k)(b:d.grownBy f k.ownBlock):w.grownBy f v.ownBlock:=
 ⟨b.os.trans a.os,b.tape.trans a.tape,b.output.trans a.output,Nat.le_trans a.size b.size,λj g i=>by
  rw [b.block j (Nat.lt_of_lt_of_le g a.size) (λe=>by
   rcases c with c|⟨l,c,m⟩
   ·exact i (e.trans c)
   ·rw [c] at e;simp at e;omega),a.block j g i]⟩
theorem gS{d:Option Nat}(a:aB w w'):w.grownBy w' d:=⟨a.os,a.tape,a.output,a.size,λc b _=>a.block c b⟩
def zB(w:World)(B:Nat)(v:Value)(a:List Nd):Prop:=w.ownsRow B 117 2 v a.length (bA a)
theorem dT{d:Option Nat}(i:w.ownsRow B e size v n xs)(l:w.grownBy w' d)(ho:v.ownBlock=none\/v.ownBlock≠d):w'.ownsRow B e size v n xs:=by
 obtain ⟨b,⟨rfl,j⟩|⟨a,f,g,rfl,k,c,m⟩⟩:=i
 ·exact ⟨b,Or.inl ⟨rfl,j⟩⟩
 ·refine ⟨b,Or.inr ⟨a,f,g,rfl,k,?_,m⟩⟩;rw [l.block a (Array.getElem?_eq_some_iff.1 c).1 ?_,c];rintro rfl;rcases ho with ho|ho
  ·simp [zx] at ho
  ·simp [zx] at ho
theorem tI(a:w.ownsRow B e size v n xs):v.ownBlock≠some w.heap.size:=λe=>by have:=(cO a _ e).2;omega
theorem eC{tb:Nat}{b:TypeId}{c:Array Value}(d:w.ownsRow B e size v n xs)(a:w.heap[tb]?=some (.cells c b))(f:e≠b):v.ownBlock≠some tb:=by
 obtain ⟨_,⟨rfl,_⟩|⟨k,i,j,rfl,_,g,_⟩⟩:=d
 ·simp [zx]
 ·simp [zx];rintro rfl;rw [g] at a;simp at a;exact f a.2
theorem lK{a j:Nat}{b:TypeId}{x:Value}{d:Array Value}(c:w.ownsRow B e size v n xs)(f:w.heap[a]?=some (.cells d b))(g:e≠b):(w.setCell ⟨a,j,none⟩ x).ownsRow B e size v n xs:=
 dT c (cM w ⟨a,j,none⟩ x) (Or.inr (eC c f g))
theorem aM7{b:List Nd}(l:w.ownsRow B 117 2 v b.length (bA b)):∃i d,v=.slice i b.length d/\∀a n,b[a]?=some n->∃c,i=some ⟨c,0,none⟩/\w.cell? ⟨c,a*2,none⟩=some (.string n.1)/\w.cell? ⟨c,a*2+1,none⟩=some (.int .i64 n.2):=by
 obtain ⟨m,⟨rfl,o⟩|⟨c,d,k,rfl,p,r,q,s,u,t⟩⟩:=l
 ·refine ⟨none,0,by rw [o],λa n f=>?_⟩;have:=(zy.1 f).1;omega
 ·have j:w.ownsRow B 117 2 (.slice (some ⟨c,0,none⟩) b.length d) b.length (bA b):=⟨m,Or.inr ⟨c,d,k,rfl,p,r,q,s,u,t⟩⟩;refine ⟨_,_,rfl,λa n f=>⟨c,rfl,?_,?_⟩⟩
  ·obtain ⟨g,rfl⟩:=zy.1 f;rw [j.cellAt (a*2) (by omega),(xQ b a g).1]
  ·obtain ⟨g,rfl⟩:=zy.1 f;rw [j.cellAt (a*2+1) (by omega),(xQ b a g).2]
theorem aBd(w:World)(a b:Value)(c:TypeId):(w.alloc (.cells #[a,b] c)).cell? ⟨w.heap.size,0,none⟩=some a/\(w.alloc (.cells #[a,b] c)).cell? ⟨w.heap.size,1,none⟩=some b:=by
 have d:(w.alloc (.cells #[a,b] c)).heap[w.heap.size]?=some (.cells #[a,b] c):=by show (w.heap.push _)[w.heap.size]?=_;simp
 constructor
 ·unfold World.cell?;rw [d];rfl
 ·unfold World.cell?;rw [d];rfl
theorem aF0(w:World)(D:Nat)(i r e:TypeId)(b:TypeInfo)(C:Value)(size t:Nat)(A:zz.underlying i=some (.slice e))(x:zz.info? e=some b)(Q:b.zero=some C)
  (N:b.size=size) (G:b.bytes=t) (X:0<size)
  (v:Value) (n:Nat) (xs:List Value) (p:w.ownsRow D e size v n xs) (O:v.ownBlock≠none)
  (j:Addr) (a l:Nat) (f:List Value) (o:f.length=a*size) (y:∀g c,f[g]?=some c->w.cell? (j.add g)=some c) (E:∀c∈f,c.oneCell'=true)
  (F:n+a<=maxLen) (H:(n+a)*t<=140737488355328) {s:Value} {w':World} (d:(Builtin.append_ #[i,i] r #[v,.slice (some j) a l]).run zz w=.ok s w'):s.ownBlock=v.ownBlock\/s.ownBlock=some w.heap.size:=by
 subst N;subst G
 have W:n+a<=9223372036854775807:=by simp only [maxLen] at F;omega
 rcases p.2 with ⟨rfl,rfl⟩|⟨k,m,u,rfl,S,L,U,T,I,Y⟩
 ·exact absurd rfl O
 ·by_cases z:n+a<=m
  ·have J:n*b.size+f.length<=u.size:=by rw [o,I,<-Nat.add_mul];exact Nat.mul_le_mul_right _ z
   have q:=run_append_room (P:=zz) w i r e b A x k n m u L j a l f o y E z J;rw [q] at d;simp at d;rw [<-d.1];exact Or.inl rfl
  ·have M:∀g c,xs[g]?=some c->w.cell? ((⟨k,0,none⟩ : Addr).add g)=some c:=p.cells (g:=k) rfl;have q:=run_append_grow (P:=zz) w i r e b C A x Q ⟨k,0,none⟩ n m xs p.1 M j a l f o y (by omega) (by omega) (growslice_fits (by omega) H);rw [q] at d;simp at d;rw [<-d.1];exact Or.inr rfl
theorem wZ{c:Array Oper}{i:Nat}{a:Oper}{b:Act}{K:Act->World->Prop}{d:Exit->Act->World->Prop}(j:c[i]?=some a)(g:a.guard=none)(k:(execOp b.eval a).run zz w=.ok (.value v) w')(f:K (b.put a.dst v) w'):wpOp zz c d i K b w:=by
 refine wpOp_step j λl hK=>?_
 rw [aI (by simp [zw,g])];unfold Oper.wp;rw [k];exact hK _ _ f
section
inductive aP{α β:Type}(R:α->β->Prop):List α->List β->Prop
 |nil:aP R [] []
 |cons {a b l m}:R a b->aP R l m->aP R (a::l) (b::m)
namespace aP
variable {α β:Type}{R S:α->β->Prop}
theorem length{l:List α}{m:List β}(a:aP R l m):l.length=m.length:=by
 induction a with
 |nil=>rfl
 |cons _ _ ih=>simp [ih]
theorem append{a b:List α}{c d:List β}(f:aP R a c)(g:aP R b d):aP R (a++b) (c++d):=by
 induction f with
 |nil=>exact g
 |cons h1 _ ih=>exact aP.cons h1 ih
theorem mono{c:List α}{m:List β}(d:aP R c m)(f:∀a b,R a b->S a b):aP S c m:=by
 induction d with
 |nil=>exact aP.nil
 |cons h1 _ ih=>exact aP.cons (f _ _ h1) ih
theorem snoc{c:List α}{d:List β}{a:α}{b:β}(f:aP R c d)(g:R a b):aP R (c++[a]) (d++[b]):=f.append (aP.cons g aP.nil)
theorem refl{R:α->α->Prop}(f:∀a,R a a):∀l:List α,aP R l l
 |[]=>aP.nil
 |a::l=>aP.cons (f a) (refl f l)
theorem of_get{d:List α}{a:List β}(g:d.length=a.length)(i:∀(f:Nat) (b:α) (c:β),d[f]?=some b->a[f]?=some c->R b c):aP R d a:=by
 induction d generalizing a with
 |nil=>cases a with
  |nil=>exact aP.nil
  |cons=>simp at g
 |cons b d ih=>cases a with
  |nil=>simp at g
  |cons c a=>exact aP.cons (i 0 b c rfl rfl) (ih (by simpa using g) λf b c j k=>i (f+1) b c (by simpa using j) (by simpa using k))
theorem rev{a:List α}{b:List β}(c:aP R a b):aP R a.reverse b.reverse:=by
 induction c with
 |nil=>exact aP.nil
 |cons h1 _ ih=>rw [zv,zv];exact ih.snoc h1
end aP
def mV(V:Int->Int->Prop):Prop:=∀a c b d,V a c->V b d->(a=b↔c=d)
def fX(V:Int->Int->Prop)(n a:Nd):Prop:=(aK n=true/\aK a=true/\n.1=a.1/\V n.2 a.2)\/(aK n=false/\n=a)
theorem aZb(g:mV V){b c:List Int}(f:aP V b c){a d:Int}(j:V a d):sK b a=sK c d:=by
 induction f with
 |nil=>rfl
 |cons h1 h2 ih=>
  simp only [sK];have e:=g _ _ _ _ h1 j;have i:=h2.length;rw [ih,i];by_cases k : ‹Int› = a<;>simp_all
theorem aZc(g:mV V){a b:List Int}(f:aP V a b){c d:Int}(i:V c d):eT a c=eT b d:=aZb g f.rev i
theorem aZd(o:mV V){d b:List Nd×List Int}(g:d.1=b.1)(a:aP V d.2 b.2){n c:Nd}(m:fX V n c):(cI d n).1=(cI b c).1/\aP V (cI d n).2 (cI b c).2:=by
 rcases m with ⟨f,l,i,j⟩|⟨f,rfl⟩
 ·have q:=aZc o a j;have p:=a.length;unfold cI;rw [f,l,q];by_cases k:eT b.2 c.2<0
  ·simp [k,g,i,p];exact a.snoc j
  ·simp [k,g,i];exact a
 ·unfold cI;rw [f];simp [g];exact a
theorem aZe(o:mV V){c d:List Nd}(m:aP (fX V) c d){i j:List Int}(p:aP V i j):(dW c i).1=(dW d j).1/\aP V (dW c i).2 (dW d j).2:=by
 unfold dW;suffices ∀(a b:List Nd×List Int),a.1=b.1->aP V a.2 b.2->(c.foldl cI a).1=(d.foldl cI b).1/\aP V (c.foldl cI a).2 (d.foldl cI b).2 from this _ _ rfl p
 induction m with
 |nil=>intro a b f g;exact ⟨f,g⟩
 |cons hc _ ih=>
  intro a b f g;obtain ⟨k,l⟩:=aZd o f g hc;exact ih _ _ k l
structure Gr where
 lab:Nat->Nd
 ch:Nat->List Nat
def Gr.named(G:Gr)(i:Nat):Prop:=aK (G.lab i)=false
inductive Cl(G:Gr)(B:Nat->Nat->Prop):Nat->Nat->Prop
 |refl (i):Cl G B i i
 |base {i j}:B i j->Cl G B i j
 |symm {i j}:Cl G B i j->Cl G B j i
 |trans {i j k}:Cl G B i j->Cl G B j k->Cl G B i k
 |down {i j k p q:Nat}:Cl G B i j->G.named i->G.named j->(G.ch i)[k]?=some p->(G.ch j)[k]?=some q->Cl G B p q
structure kU(G:Gr)(R:Nat->Nat->Prop):Prop where
 refl:∀i,R i i
 symm:∀i j,R i j->R j i
 trans:∀i j k,R i j->R j k->R i k
 down:∀i j k p q:Nat,R i j->G.named i->G.named j->(G.ch i)[k]?=some p->(G.ch j)[k]?=some q->R p q
theorem Cl.isDown(a:Gr)(B:Nat->Nat->Prop):kU a (Cl a B):=⟨Cl.refl,λ_ _=>Cl.symm,λ_ _ _=>Cl.trans,λ_ _ _ _ _=>Cl.down⟩
theorem Cl.le{k:Gr}{B:Nat->Nat->Prop}(i:kU k R)(l:∀f g,B f g->R f g){f g:Nat}(j:Cl k B f g):R f g:=by
 induction j with
 |refl f=>exact i.refl f
 |base j=>exact l _ _ j
 |symm _ ih=>exact i.symm _ _ ih
 |trans _ _ h1 h2=>exact i.trans _ _ _ h1 h2
 |down _ a b c d ih=>exact i.down _ _ _ _ _ ih a b c d
def kV(a:Gr)(R:Nat->Nat->Prop):Prop:=∀b c,R b c->a.named b->a.named c->a.lab b=a.lab c
inductive cE(G:Gr)(R:Nat->Nat->Prop):Nat->Prop
 |mk (i):(∀j,R i j->G.named j->∀p∈G.ch j,cE G R p)->cE G R i
theorem cE.parts{a:Gr}{d:Nat}(b:cE a R d){j c:Nat}(f:R d j)(g:a.named j)(i:c∈a.ch j):cE a R c:=by cases b with|mk _ b=>exact b j f g c i
theorem cE.same{G:Gr}(b:kU G R){i j:Nat}(a:cE G R i)(c:R i j):cE G R j:=⟨_,λ_ d f _ g=>a.parts (b.trans _ _ _ c d) f g⟩
inductive aW(G:Gr)(R:Nat->Nat->Prop)(rep:Nat->Nat):List Nat->List Nd->Prop
 |nil:aW G R rep [] []
 |var {i r l}:(∀j,R i j->¬G.named j)->aW G R rep r l->aW G R rep (i::r) ((⟨#[]⟩,(rep i:Int))::l)
 |name {i j r l}:R i j->G.named j->aW G R rep (G.ch j++r) l->aW G R rep (i::r) (G.lab j::l)
section
variable {G:Gr}{R:Nat->Nat->Prop}{rep:Nat->Nat}
theorem aW.append{c d:List Nat}{a b:List Nd}(f:aW G R rep c a)(g:aW G R rep d b):aW G R rep (c++d) (a++b):=by
 induction f with
 |nil=>exact g
 |var h1 _ ih=>exact aW.var h1 ih
 |name h1 h2 _ ih=>exact aW.name h1 h2 (by rw [zu] at ih;exact ih)
theorem aW.split{x:List Nat}{c:List Nd}(g:aW G R rep x c):∀a s,x=a++s->∃b l2,c=b++l2/\aW G R rep a b/\aW G R rep s l2:=by
 induction g with
 |nil=>
  intro a s e;obtain ⟨rfl,rfl⟩:=List.append_eq_nil_iff.1 e.symm;exact ⟨[],[],rfl,aW.nil,aW.nil⟩
 |@var i r0 c h1 h2 ih=>
  intro a s e;cases a with
  |nil=>
   simp at e;subst e;exact ⟨[],_,rfl,aW.nil,aW.var h1 h2⟩
  |cons y a=>
   simp at e;obtain ⟨rfl,e⟩:=e;obtain ⟨b,l2,rfl,d,f⟩:=ih a s e;exact ⟨_::b,l2,rfl,aW.var h1 d,f⟩
 |@name i j r0 c h1 h2 h3 ih=>
  intro a s e;cases a with
  |nil=>
   simp at e;subst e;exact ⟨[],_,rfl,aW.nil,aW.name h1 h2 h3⟩
  |cons y a=>
   simp at e;obtain ⟨rfl,e⟩:=e;obtain ⟨b,l2,rfl,d,f⟩:=ih (G.ch j++a) s (by rw [e,zu]);exact ⟨_::b,l2,rfl,aW.name h1 h2 d,f⟩
theorem aW.same(d:kU G R)(o:∀i j,R i j->rep i=rep j){g:List Nat}{f:List Nd}(k:aW G R rep g f):∀c,aP R g c->aW G R rep c f:=by
 induction k with
 |nil=>intro c a;cases a;exact aW.nil
 |@var i r f h1 _ ih=>
  intro c a;cases a with
  |@cons _ b _ m hb hm=>
   rw [o _ _ hb];exact aW.var (λj l=>h1 j (d.trans _ _ _ hb l)) (ih _ hm)
 |@name i j r f h1 h2 _ ih=>
  intro c a;cases a with
  |@cons _ b _ m hb hm=>
   exact aW.name (d.trans _ _ _ (d.symm _ _ hb) h1) h2 (ih _ ((aP.refl d.refl _).append hm))
def Gr.Arity(G:Gr):Prop:=∀a b,G.named a->G.named b->G.lab a=G.lab b->(G.ch a).length=(G.ch b).length
theorem aF1(o:kU G R)(m:kV G R)(l:G.Arity){a b:Nat}(f:R a b)(c:G.named a)(d:G.named b):aP R (G.ch a) (G.ch b):=
 aP.of_get (l a b c d (m a b f c d)) λp g i j k=>o.down a b p g i f c d j k
theorem aW.one(a:kU G R)(i:kV G R)(m:G.Arity)(o:∀f c,R f c->rep f=rep c){k:List Nat}{g:List Nd}(l:aW G R rep k g):∀d,aW G R rep k d->g=d:=by
 induction l with
 |nil=>intro d b;cases b;rfl
 |@var f r g h1 _ ih=>
  intro d b;cases b with
  |var _ h2=>rw [ih _ h2]
  |name h2 h3 _=>exact absurd h3 (h1 _ h2)
 |@name f c r g h1 h2 _ ih=>
  intro d b;cases b with
  |var h3 _=>exact absurd h2 (h3 _ h1)
  |@name _ j' _ m' h3 h4 h5=>
   have j:R j' c:=a.trans _ _ _ (a.symm _ _ h3) h1;rw [i j' c j h4 h2,ih _ (h5.same a o _ ((aF1 a i m j h4 h2).append (aP.refl a.refl _)))]
theorem aW.exists_of_all{c:List Nat}(d:∀b∈c,∃a,aW G R rep [b] a):∃a,aW G R rep c a:=by
 induction c with
 |nil=>exact ⟨[],aW.nil⟩
 |cons b r ih=>
  obtain ⟨a,g⟩:=d b (by simp);obtain ⟨k,i⟩:=ih λj f=>d j (by simp [f])
  exact ⟨a++k,g.append i⟩
theorem cE.exp{d:Nat}(i:cE G R d):∃g,aW G R rep [d] g:=by
 induction i with
 |mk d _ ih=>
  by_cases f:∃a,R d a/\G.named a
  ·obtain ⟨a,b,c⟩:=f;obtain ⟨g,j⟩:=aW.exists_of_all (G:=G) (R:=R) (rep:=rep) λl k=>ih a b c l k
   exact ⟨_,aW.name b c (by rw [List.append_nil];exact j)⟩
  ·exact ⟨_,aW.var (λa b c=>f ⟨a,b,c⟩) aW.nil⟩
theorem aW.pos{c:Nat}{a:List Nd}(b:aW G R rep [c] a):1<=a.length:=by
 cases b with
 |var=>simp
 |name=>simp
end
theorem pW(b:Int):aK (⟨#[]⟩,b)=true:=by
 have a:(⟨#[]⟩ : ByteArray).toList=[]:=by rw [ByteArray.toList_eq]
 simp [aK,a]
end
def jT(V:Int->Int->Prop)(a b:Lt):Prop:=a.1=b.1/\aP (fX V) a.2 b.2
section
variable {V:Int->Int->Prop}
theorem zC{n:Nd}(c:aK n=true):n.1=⟨#[]⟩:=by
 obtain ⟨f,g⟩:=n;obtain ⟨a⟩:=f;have b:(⟨a⟩ : ByteArray).toList=[]:=by simpa [aK] using c
 rw [ByteArray.toList_eq] at b;have d:a=#[]:=by apply Array.ext';exact b
 rw [d]
theorem aZf(t:mV V){n i k j:Nd}(s:fX V n i)(g:fX V k j):n=k↔i=j:=by
 rcases s with ⟨b,d,u,l⟩|⟨b,rfl⟩
 ·rcases g with ⟨a,c,m,f⟩|⟨a,rfl⟩
  ·have o:=zC b;have p:=zC d;have q:=zC a;have r:=zC c;have:=t _ _ _ _ l f;constructor
   ·intro e;exact Prod.ext (by rw [p,r]) (this.1 (by rw [e]))
   ·intro e;exact Prod.ext (by rw [o,q]) (this.2 (by rw [e]))
  ·constructor
   ·intro e;rw [e,a] at b;cases b
   ·intro e;rw [e,a] at d;cases d
 ·rcases g with ⟨a,c,m,f⟩|⟨a,rfl⟩
  ·constructor
   ·intro e;rw [<-e,b] at a;cases a
   ·intro e;rw [<-e,b] at c;cases c
  ·exact Iff.rfl
theorem aZg(l:mV V){g i:List Nd}(j:aP (fX V) g i):∀{c d:List Nd},aP (fX V) c d->(g=c↔i=d):=by
 induction j with
 |nil=>
  intro c d f;cases f with
  |nil=>simp
  |cons _ _=>simp
 |cons a _ ih=>
  intro c d f;cases f with
  |nil=>simp
  |cons b k=>
   rw [List.cons.injEq,List.cons.injEq,aZf l a b,ih k]
theorem aZh(i:mV V){c f d g:Lt}(a:jT V c f)(b:jT V d g):c=d↔f=g:=by
 have:=aZg i a.2 b.2;constructor
 ·intro e;exact Prod.ext (by rw [<-a.1,<-b.1,e]) (this.1 (by rw [e]))
 ·intro e;exact Prod.ext (by rw [a.1,b.1,e]) (this.2 (by rw [e]))
theorem aZi(i:mV V){b c:List Lt}(g:aP (jT V) b c){d f:Lt}(j:jT V d f):fP b d=fP c f:=by
 induction g with
 |nil=>rfl
 |cons a _ ih=>
  simp only [fP,List.any_cons] at ih ⊢;rw [ih];congr 1
  exact decide_eq_decide.2 (aZh i a j)
theorem aZj(j:mV V){b c:List Lt}(i:aP (jT V) b c):aP (jT V) (bT b) (bT c):=by
 suffices ∀{b c:List Lt},aP (jT V) b c->∀{f g:List Lt},aP (jT V) f g->aP (jT V) (b.foldl eG f) (c.foldl eG g) from this i aP.nil
 intro b c i;induction i with
 |nil=>intro f g d;exact d
 |cons a _ ih=>
  intro f g d;simp only [List.foldl_cons];refine ih ?_;unfold eG;rw [aZi j d a];split
  ·exact d
  ·exact d.snoc a
theorem aZk(l:mV V){b c:List Lt}(g:aP (jT V) b c):(cW b).1=(cW c).1:=by
 suffices ∀{b c:List Lt},aP (jT V) b c->∀{d f:List Lt×List Int},d.1=f.1->aP V d.2 f.2->(b.foldl dL d).1=(c.foldl dL f).1 from this g rfl aP.nil
 intro b c g;induction g with
 |nil=>intro d f i _;exact i
 |cons a _ ih=>
  intro d f i k;simp only [List.foldl_cons];have j:=aZe l a.2 k;refine ih ?_ j.2;simp only [dL];rw [i,a.1,j.1]
theorem aF2(c:mV V){a b:List Lt}(d:aP (jT V) a b):aV a=aV b:=aZk c (aZj c d)
end
