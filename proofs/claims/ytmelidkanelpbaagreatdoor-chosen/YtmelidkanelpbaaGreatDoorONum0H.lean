import Derived.Test.YtmelidkanelpbaaGreatDoorBase0H
import Derived.Maps.OwnSet
import Derived.Maps.Keyed
open Bool renaming and_eq_true→zu
open List renaming drop_eq_getElem_cons→zy,mem_cons_of_mem→zv,mem_map→zt,getElem?_eq_some_iff→zs,mem_append→zn,nodup_append→zj,getElem_mem→zi,map_append→zh,mem_append_left→zf,lookup_append→zd,reverse_cons→zc,append_assoc→zb
open Nat renaming le_refl→zp,lt_of_lt_of_le→ze
open Or renaming inl→zo,inr→zl
open Prod renaming fst→zw
namespace Go.Proofs.YtmelidkanelpbaaGreatDoor
open _root_.Go.Proofs.Tryz renaming prog→zm
open Value renaming ownBlock→zz
open World renaming cell?_setCell_other→zx,cell?_setCell_same→zr,block_lt_of_cell?→zq,cell?→zg
open Go.RowKit Go.WideMaps
set_option maxRecDepth 100000
variable{x:Int}{V:Int->Int->Prop}{c d:List Lt}{t:List Nd}{xs:List Value}{B g n:Nat}{R:Nat->Nat->Prop}{e:TypeId}{dv v:Value}{w w':World}
theorem aAt{a:DataW Unit}(l:Maps.IsMap a){f:Lit}(b:Maps.has a f=false)(j:DataW Unit):a.atKey f j=j:=by
 obtain ⟨k,rfl⟩:=l;rw [Maps.has_eq] at b;have:k.find? (λi=>i.1.sameKey f)=none:=by rw [List.find?_eq_none];intro i m;rw [List.any_eq_false] at b;exact b i m
 simp [DataW.atKey,this]
def jY(w:World)(v a:Value):Prop:=a.ownBlock=v.ownBlock\/∃g,a.ownBlock=some g/\w.heap.size<=g
theorem jY.refl(w:World)(v:Value):jY w v v:=zo rfl
theorem jY.trans{w w1:World}{v f i:Value}(a:jY w v f)(k:jY w1 f i)(j:w.heap.size<=w1.heap.size):jY w v i:=by
 rcases k with k|⟨g,k,b⟩
 ·rcases a with a|⟨g,a,b⟩
  ·exact zo (k.trans a)
  ·exact zl ⟨g,k.trans a,b⟩
 ·exact zl ⟨g,k,by omega⟩
theorem aKd{i j:World}{o:Value}(a:w.grownBy i v.ownBlock)(f:jY w v o)(b:i.grownBy j o.ownBlock):w.grownBy j v.ownBlock:=
 ⟨b.os.trans a.os,b.tape.trans a.tape,b.output.trans a.output,Nat.le_trans a.size b.size,λm k l=>by
  rw [b.block m (ze k a.size) (λe=>by
   rcases f with f|⟨g,f,p⟩
   ·exact l (e.trans f)
   ·rw [f] at e;simp at e;omega),a.block m k l]⟩
theorem gM{i:Option Nat}(a:aB w w'):w.grownBy w' i:=⟨a.os,a.tape,a.output,a.size,λf b _=>a.block f b⟩
def yE(w:World)(B:Nat)(v:Value)(a:List Nd):Prop:=w.ownsRow B 117 2 v a.length (bB a)
theorem dQ{i:Nat}{f:Option Nat}(l:w.ownsRow B e i v n xs)(p:w.grownBy w' f)(ho:v.ownBlock=none\/v.ownBlock≠f):w'.ownsRow B e i v n xs:=by
 obtain ⟨a,⟨rfl,m⟩|⟨g,j,k,rfl,o,b,q⟩⟩:=l
 ·exact ⟨a,zo ⟨rfl,m⟩⟩
 ·refine ⟨a,zl ⟨g,j,k,rfl,o,?_,q⟩⟩;rw [p.block g (Array.getElem?_eq_some_iff.1 b).1 ?_,b];rintro rfl;rcases ho with ho|ho
  ·simp [zz] at ho
  ·simp [zz] at ho
theorem tE{b:Nat}(a:w.ownsRow B e b v n xs):v.ownBlock≠some w.heap.size:=λe=>by have:=(cU a _ e).2;omega
theorem dZ{tb:Nat}{b:TypeId}{l:Nat}{f:Array Value}(i:w.ownsRow B e l v n xs)(a:w.heap[tb]?=some (.cells f b))(j:e≠b):v.ownBlock≠some tb:=by
 obtain ⟨_,⟨rfl,_⟩|⟨g,m,o,rfl,_,k,_⟩⟩:=i
 ·simp [zz]
 ·simp [zz];rintro rfl;rw [k] at a;simp at a;exact j a.2
theorem lE{a j:Nat}{b:TypeId}{i:Nat}{x:Value}{k:Array Value}(f:w.ownsRow B e i v n xs)(l:w.heap[a]?=some (.cells k b))(m:e≠b):(w.setCell ⟨a,j,none⟩ x).ownsRow B e i v n xs:=
 dQ f (cN w ⟨a,j,none⟩ x) (zl (dZ f l m))
theorem aKe{b:List Nd}(o:w.ownsRow B 117 2 v b.length (bB b)):∃k f,v=.slice k b.length f/\∀a n,b[a]?=some n->∃g,k=some ⟨g,0,none⟩/\w.cell? ⟨g,a*2,none⟩=some (.string n.1)/\w.cell? ⟨g,a*2+1,none⟩=some (.int .i64 n.2):=by
 obtain ⟨p,⟨rfl,q⟩|⟨g,f,m,rfl,r,u,s,y,A,z⟩⟩:=o
 ·refine ⟨none,0,by rw [q],λa n i=>?_⟩;have:=(zs.1 i).1;omega
 ·have l:w.ownsRow B 117 2 (.slice (some ⟨g,0,none⟩) b.length f) b.length (bB b):=⟨p,zl ⟨g,f,m,rfl,r,u,s,y,A,z⟩⟩;refine ⟨_,_,rfl,λa n i=>⟨g,rfl,?_,?_⟩⟩
  ·obtain ⟨j,rfl⟩:=zs.1 i;rw [l.cellAt (a*2) (by omega),(xT b a j).1]
  ·obtain ⟨j,rfl⟩:=zs.1 i;rw [l.cellAt (a*2+1) (by omega),(xT b a j).2]
theorem aAu(w:World)(x a:Value)(t:TypeId):(w.alloc (.cells #[x,a] t)).cell? ⟨w.heap.size,0,none⟩=some x/\(w.alloc (.cells #[x,a] t)).cell? ⟨w.heap.size,1,none⟩=some a:=by
 have b:(w.alloc (.cells #[x,a] t)).heap[w.heap.size]?=some (.cells #[x,a] t):=by show (w.heap.push _)[w.heap.size]?=_;simp
 constructor
 ·unfold zg;rw [b];rfl
 ·unfold zg;rw [b];rfl
theorem aDs(w:World)(G:Nat)(t s e:TypeId)(b:TypeInfo)(F:Value)(m y:Nat)(E:zm.underlying t=some (.slice e))(A:zm.info? e=some b)(U:b.zero=some F)
  (S:b.size=m) (J:b.bytes=y) (a0:0<m)
  (v:Value) (n:Nat) (xs:List Value) (q:w.ownsRow G e m v n xs) (T:v.ownBlock≠none)
  (l:Addr) (a c:Nat) (j:List Value) (p:j.length=a*m) (C:∀k f,j[k]?=some f->w.cell? (l.add k)=some f) (H:∀f∈j,f.oneCell'=true)
  (I:n+a<=maxLen) (L:(n+a)*y<=140737488355328) {u:Value} {w':World} (i:(Builtin.append_ #[t,t] s #[v,.slice (some l) a c]).run zm w=.ok u w'):u.ownBlock=v.ownBlock\/u.ownBlock=some w.heap.size:=by
 subst S;subst J
 have Z:n+a<=9223372036854775807:=by simp only [maxLen] at I;omega
 rcases q.2 with ⟨rfl,rfl⟩|⟨g,o,z,rfl,W,O,Y,X,M,a1⟩
 ·exact absurd rfl T
 ·by_cases D:n+a<=o
  ·have N:n*b.size+j.length<=z.size:=by rw [p,M,<-Nat.add_mul];exact Nat.mul_le_mul_right _ D
   have r:=run_append_room (P:=zm) w t s e b E A g n o z O l a c j p C H D N;rw [r] at i;simp at i;rw [<-i.1];exact zo rfl
  ·have Q:∀k f,xs[k]?=some f->w.cell? ((⟨g,0,none⟩ : Addr).add k)=some f:=q.cells (g:=g) rfl;have r:=run_append_grow (P:=zm) w t s e b F E A U ⟨g,0,none⟩ n o xs q.1 Q l a c j p C (by omega) (by omega) (growslice_fits (by omega) L);rw [r] at i;simp at i;rw [<-i.1];exact zl rfl
theorem wF{f:Array Oper}{i:Nat}{a:Oper}{b:Act}{K:Act->World->Prop}{j:Exit->Act->World->Prop}(m:f[i]?=some a)(l:a.guard=none)(o:(execOp b.eval a).run zm w=.ok (.value v) w')(k:K (b.put a.dst v) w'):wpOp zm f j i K b w:=by
 refine wpOp_step m λp hK=>?_
 rw [aH (by simp [Region.wanted,l])];unfold Oper.wp;rw [o];exact hK _ _ k
section
inductive aP{α β:Type}(R:α->β->Prop):List α->List β->Prop
 |nil:aP R [] []
 |cons {a b l m}:R a b->aP R l m->aP R (a::l) (b::m)
namespace aP
variable {α β:Type}{R S:α->β->Prop}
theorem length{l:List α}{m:List β}(a:aP R l m):l.length=m.length:=by
 induction a with
 |nil=>rfl
 |cons _ _ ih=>simp [ih]
theorem append{a b:List α}{f i:List β}(j:aP R a f)(k:aP R b i):aP R (a++b) (f++i):=by
 induction j with
 |nil=>exact k
 |cons h1 _ ih=>exact aP.cons h1 ih
theorem mono{i:List α}{m:List β}(j:aP R i m)(f:∀a b,R a b->S a b):aP S i m:=by
 induction j with
 |nil=>exact aP.nil
 |cons h1 _ ih=>exact aP.cons (f _ _ h1) ih
theorem snoc{f:List α}{i:List β}{a:α}{b:β}(j:aP R f i)(k:R a b):aP R (f++[a]) (i++[b]):=j.append (aP.cons k aP.nil)
theorem refl{R:α->α->Prop}(f:∀a,R a a):∀l:List α,aP R l l
 |[]=>aP.nil
 |a::l=>aP.cons (f a) (refl f l)
theorem of_get{i:List α}{a:List β}(k:i.length=a.length)(l:∀(j:Nat) (b:α) (f:β),i[j]?=some b->a[j]?=some f->R b f):aP R i a:=by
 induction i generalizing a with
 |nil=>cases a with
  |nil=>exact aP.nil
  |cons=>simp at k
 |cons b i ih=>cases a with
  |nil=>simp at k
  |cons f a=>exact aP.cons (l 0 b f rfl rfl) (ih (by simpa using k) λj b f m o=>l (j+1) b f (by simpa using m) (by simpa using o))
theorem rev{a:List α}{b:List β}(f:aP R a b):aP R a.reverse b.reverse:=by
 induction f with
 |nil=>exact aP.nil
 |cons h1 _ ih=>rw [zc,zc];exact ih.snoc h1
end aP
def mN(V:Int->Int->Prop):Prop:=∀x b a f,V x b->V a f->(x=a↔b=f)
def fL(V:Int->Int->Prop)(n a:Nd):Prop:=(aL n=true/\aL a=true/\n.1=a.1/\V n.2 a.2)\/(aL n=false/\n=a)
theorem aW9(i:mN V){a t:List Int}(f:aP V a t){x b:Int}(k:V x b):sP a x=sP t b:=by
 induction f with
 |nil=>rfl
 |cons h1 h2 ih=>
  simp only [sP];have e:=i _ _ _ _ h1 k;have j:=h2.length;rw [ih,j];by_cases l : ‹Int› = x<;>simp_all
theorem aWa(i:mN V){a t:List Int}(f:aP V a t){x b:Int}(j:V x b):eS a x=eS t b:=aW9 i f.rev j
theorem aWb(p:mN V){i b:List Nd×List Int}(k:i.1=b.1)(a:aP V i.2 b.2){n f:Nd}(o:fL V n f):(cI i n).1=(cI b f).1/\aP V (cI i n).2 (cI b f).2:=by
 rcases o with ⟨j,m,c,d⟩|⟨j,rfl⟩
 ·have r:=aWa p a d;have q:=a.length;unfold cI;rw [j,m,r];by_cases l:eS b.2 f.2<0
  ·simp [l,k,c,q];exact a.snoc d
  ·simp [l,k,c];exact a
 ·unfold cI;rw [j];simp [k];exact a
theorem aWc(q:mN V){f i:List Nd}(p:aP (fL V) f i){l t:List Int}(r:aP V l t):(dY f l).1=(dY i t).1/\aP V (dY f l).2 (dY i t).2:=by
 unfold dY;suffices ∀(a b:List Nd×List Int),a.1=b.1->aP V a.2 b.2->(f.foldl cI a).1=(i.foldl cI b).1/\aP V (f.foldl cI a).2 (i.foldl cI b).2 from this _ _ rfl r
 induction p with
 |nil=>intro a b j k;exact ⟨j,k⟩
 |cons hc _ ih=>
  intro a b j k;obtain ⟨m,o⟩:=aWb q j k hc;exact ih _ _ m o
structure Gr where
 lab:Nat->Nd
 ch:Nat->List Nat
def Gr.named(G:Gr)(i:Nat):Prop:=aL (G.lab i)=false
inductive Cl(G:Gr)(B:Nat->Nat->Prop):Nat->Nat->Prop
 |refl (i):Cl G B i i
 |base {i j}:B i j->Cl G B i j
 |symm {i j}:Cl G B i j->Cl G B j i
 |trans {i j k}:Cl G B i j->Cl G B j k->Cl G B i k
 |down {i j k p q:Nat}:Cl G B i j->G.named i->G.named j->(G.ch i)[k]?=some p->(G.ch j)[k]?=some q->Cl G B p q
structure kK(G:Gr)(R:Nat->Nat->Prop):Prop where
 refl:∀i,R i i
 symm:∀i j,R i j->R j i
 trans:∀i j k,R i j->R j k->R i k
 down:∀i j k p q:Nat,R i j->G.named i->G.named j->(G.ch i)[k]?=some p->(G.ch j)[k]?=some q->R p q
theorem Cl.isDown(a:Gr)(B:Nat->Nat->Prop):kK a (Cl a B):=⟨Cl.refl,λ_ _=>Cl.symm,λ_ _ _=>Cl.trans,λ_ _ _ _ _=>Cl.down⟩
theorem Cl.le{l:Gr}{B:Nat->Nat->Prop}(j:kK l R)(m:∀f i,B f i->R f i){f i:Nat}(k:Cl l B f i):R f i:=by
 induction k with
 |refl f=>exact j.refl f
 |base k=>exact m _ _ k
 |symm _ ih=>exact j.symm _ _ ih
 |trans _ _ h1 h2=>exact j.trans _ _ _ h1 h2
 |down _ a b c d ih=>exact j.down _ _ _ _ _ ih a b c d
def jZ(a:Gr)(R:Nat->Nat->Prop):Prop:=∀b f,R b f->a.named b->a.named f->a.lab b=a.lab f
inductive cE(G:Gr)(R:Nat->Nat->Prop):Nat->Prop
 |mk (i):(∀j,R i j->G.named j->∀p∈G.ch j,cE G R p)->cE G R i
theorem cE.parts{a:Gr}{i:Nat}(b:cE a R i){j f:Nat}(k:R i j)(l:a.named j)(m:f∈a.ch j):cE a R f:=by cases b with|mk _ b=>exact b j k l f m
theorem cE.same{G:Gr}(b:kK G R){i j:Nat}(a:cE G R i)(f:R i j):cE G R j:=⟨_,λ_ k l _ m=>a.parts (b.trans _ _ _ f k) l m⟩
inductive aX(G:Gr)(R:Nat->Nat->Prop)(rep:Nat->Nat):List Nat->List Nd->Prop
 |nil:aX G R rep [] []
 |var {i r l}:(∀j,R i j->¬G.named j)->aX G R rep r l->aX G R rep (i::r) ((⟨#[]⟩,(rep i:Int))::l)
 |name {i j r l}:R i j->G.named j->aX G R rep (G.ch j++r) l->aX G R rep (i::r) (G.lab j::l)
section
variable {G:Gr}{R:Nat->Nat->Prop}{rep:Nat->Nat}
theorem aX.append{f i:List Nat}{a b:List Nd}(j:aX G R rep f a)(k:aX G R rep i b):aX G R rep (f++i) (a++b):=by
 induction j with
 |nil=>exact k
 |var h1 _ ih=>exact aX.var h1 ih
 |name h1 h2 _ ih=>exact aX.name h1 h2 (by rw [zb] at ih;exact ih)
theorem aX.split{x:List Nat}{f:List Nd}(m:aX G R rep x f):∀a s,x=a++s->∃b l2,f=b++l2/\aX G R rep a b/\aX G R rep s l2:=by
 induction m with
 |nil=>
  intro a s e;obtain ⟨rfl,rfl⟩:=List.append_eq_nil_iff.1 e.symm;exact ⟨[],[],rfl,aX.nil,aX.nil⟩
 |@var i r0 f h1 h2 ih=>
  intro a s e;cases a with
  |nil=>
   simp at e;subst e;exact ⟨[],_,rfl,aX.nil,aX.var h1 h2⟩
  |cons y a=>
   simp at e;obtain ⟨rfl,e⟩:=e;obtain ⟨b,l2,rfl,k,l⟩:=ih a s e;exact ⟨_::b,l2,rfl,aX.var h1 k,l⟩
 |@name i j r0 f h1 h2 h3 ih=>
  intro a s e;cases a with
  |nil=>
   simp at e;subst e;exact ⟨[],_,rfl,aX.nil,aX.name h1 h2 h3⟩
  |cons y a=>
   simp at e;obtain ⟨rfl,e⟩:=e;obtain ⟨b,l2,rfl,k,l⟩:=ih (G.ch j++a) s (by rw [e,zb]);exact ⟨_::b,l2,rfl,aX.name h1 h2 k,l⟩
theorem aX.same(k:kK G R)(q:∀i j,R i j->rep i=rep j){x:List Nat}{l:List Nd}(o:aX G R rep x l):∀f,aP R x f->aX G R rep f l:=by
 induction o with
 |nil=>intro f a;cases a;exact aX.nil
 |@var i r l h1 _ ih=>
  intro f a;cases a with
  |@cons _ b _ m hb hm=>
   rw [q _ _ hb];exact aX.var (λj p=>h1 j (k.trans _ _ _ hb p)) (ih _ hm)
 |@name i j r l h1 h2 _ ih=>
  intro f a;cases a with
  |@cons _ b _ m hb hm=>
   exact aX.name (k.trans _ _ _ (k.symm _ _ hb) h1) h2 (ih _ ((aP.refl k.refl _).append hm))
def Gr.Arity(G:Gr):Prop:=∀a b,G.named a->G.named b->G.lab a=G.lab b->(G.ch a).length=(G.ch b).length
theorem aDt(r:kK G R)(q:jZ G R)(p:G.Arity){a b:Nat}(j:R a b)(f:G.named a)(i:G.named b):aP R (G.ch a) (G.ch b):=
 aP.of_get (p a b f i (q a b j f i)) λs k l m o=>r.down a b s k l j f i m o
theorem aX.one(a:kK G R)(l:jZ G R)(p:G.Arity)(q:∀j f,R j f->rep j=rep f){x:List Nat}{k:List Nd}(o:aX G R rep x k):∀i,aX G R rep x i->k=i:=by
 induction o with
 |nil=>intro i b;cases b;rfl
 |@var j r k h1 _ ih=>
  intro i b;cases b with
  |var _ h2=>rw [ih _ h2]
  |name h2 h3 _=>exact absurd h3 (h1 _ h2)
 |@name j f r k h1 h2 _ ih=>
  intro i b;cases b with
  |var h3 _=>exact absurd h2 (h3 _ h1)
  |@name _ j' _ m' h3 h4 h5=>
   have m:R j' f:=a.trans _ _ _ (a.symm _ _ h3) h1;rw [l j' f m h4 h2,ih _ (h5.same a q _ ((aDt a l p m h4 h2).append (aP.refl a.refl _)))]
theorem aX.exists_of_all{x:List Nat}(f:∀b∈x,∃a,aX G R rep [b] a):∃a,aX G R rep x a:=by
 induction x with
 |nil=>exact ⟨[],aX.nil⟩
 |cons b r ih=>
  obtain ⟨a,j⟩:=f b (by simp);obtain ⟨m,k⟩:=ih λl i=>f l (by simp [i])
  exact ⟨a++m,j.append k⟩
theorem cE.exp{i:Nat}(l:cE G R i):∃k,aX G R rep [i] k:=by
 induction l with
 |mk i _ ih=>
  by_cases j:∃a,R i a/\G.named a
  ·obtain ⟨a,b,f⟩:=j;obtain ⟨k,m⟩:=aX.exists_of_all (G:=G) (R:=R) (rep:=rep) λp o=>ih a b f p o
   exact ⟨_,aX.name b f (by rw [List.append_nil];exact m)⟩
  ·exact ⟨_,aX.var (λa b f=>j ⟨a,b,f⟩) aX.nil⟩
theorem aX.pos{f:Nat}{a:List Nd}(b:aX G R rep [f] a):1<=a.length:=by
 cases b with
 |var=>simp
 |name=>simp
end
theorem pP(x:Int):aL (⟨#[]⟩,x)=true:=by
 have a:(⟨#[]⟩ : ByteArray).toList=[]:=by rw [ByteArray.toList_eq]
 simp [aL,a]
end
def aO:List Nd->Nat->Nat
 |_,0=>0
 |[],_+1=>0
 |n::r,q+1=>1+aO r (q+aY n)
@[simp] theorem bF6(l:List Nd):aO l 0=0:=by cases l<;>rfl
theorem mO(n:Nd)(b:List Nd)(a:Nat):aQ (n::b) (a+1)=(dC n && aQ b (a+aY n)):=by simp only [aQ];cases dC n<;>simp
theorem aDu(i:List Nd):∀a f,aQ i (a+f)=true->aQ (i.take (aO i a)) a=true/\aQ (i.drop (aO i a)) f=true:=by
 induction i with
 |nil=>
  intro a f b;cases a with
  |zero=>simpa [aQ] using b
  |succ a=>simp [aQ] at b
 |cons n r ih=>
  intro a f b;cases a with
  |zero=>simpa [aQ] using b
  |succ a=>
   rw [show a+1+f=(a+f)+1 by omega,mO,zu] at b;have:=ih (a+aY n) f (by rw [<-b.2];congr 1;omega);simp only [aO,Nat.add_comm 1,List.take_succ_cons,List.drop_succ_cons];exact ⟨by rw [mO,b.1,this.1];rfl,this.2⟩
theorem yF(t:List Nd):∀b f,aQ t b=true->aO (t++f) b=t.length:=by
 induction t with
 |nil=>intro b f a;simp [aQ] at a;subst a;simp
 |cons n r ih=>
  intro b f a;cases b with
  |zero=>simp [aQ] at a
  |succ b=>
   rw [mO,zu] at a;simp [aO,ih _ f a.2];omega
theorem tF(b:List Nd):∀a,aO b a<=b.length:=by
 induction b with
 |nil=>intro a;cases a<;>simp [aO]
 |cons n r ih=>intro a;cases a with
  |zero=>simp
  |succ a=>have:=ih (a+aY n);simp [aO];omega
theorem aWd(a:List Nd)(f:Nat)(b:a≠[]):0<aO a (f+1):=by
 cases a with
 |nil=>exact absurd rfl b
 |cons n r=>simp [aO];omega
theorem aWe{a:List Nd}{q:Nat}(b:aQ a (q+1)=true):a≠[]:=by rintro rfl;simp [aQ] at b
abbrev bH:=List (Int×List Nd)
def look(a:bH)(x:Int):Option (List Nd):=a.lookup x
theorem yG(f:bH)(x a:Int)(t:List Nd):look (f++[(x,t)]) a=(look f a).or (if a=x then some t else none):=by
 unfold look;rw [zd];simp [List.lookup];by_cases b:a=x
 ·simp [b]
 ·rw [show (a==x)=false by simpa using b];simp [b]
theorem yH(b f:bH)(a:Int):look (b++f) a=(look b a).or (look f a):=by unfold look;rw [zd]
def subst(σ:Int->List Nd)(a:List Nd):List Nd:=a.flatMap λn=>if aL n then σ n.2 else [n]
theorem nR(a:Int->List Nd)(n:Nd)(b:List Nd):subst a (n::b)=(if aL n then a n.2 else [n])++subst a b:=by simp [subst]
def Tm(a:Int->List Nd):Prop:=∀x,aQ (a x) 1=true
def jM(b:Int->List Nd)(a:bH):Prop:=∀x t,look a x=some t->b x=t
theorem jM.snoc{j:Int->List Nd}{f:bH}(m:look f x=none):jM j (f++[(x,t)])↔jM j f/\j x=t:=by
 constructor
 ·intro i;refine ⟨λb l a=>i b l (by rw [yG,a];rfl),i x t (by rw [yG,m];simp)⟩
 ·rintro ⟨i,e⟩ b l a;rw [yG] at a;cases hl:look f b with
  |some u=>rw [hl] at a;simp at a;rw [<-a];exact i b u hl
  |none=>
   rw [hl] at a;by_cases k:b=x
   ·subst k;simp at a;rw [<-a];exact e
   ·simp [k] at a
theorem jM.left{b:Int->List Nd}{a f:bH}(i:jM b (a++f)):jM b a:=λx t j=>i x t (by rw [yH,j];rfl)
def dI:List Nd->List Nd->bH->Option bH
 |[],[],L=>some L
 |[],_::_,_=>none
 |n::r,b,L=>
  if aL n then
   match look L n.2 with
   |some t=>if t=b.take (aO b 1) then dI r (b.drop (aO b 1)) L else none
   |none=>dI r (b.drop (aO b 1)) (L++[(n.2,b.take (aO b 1))])
  else match b with
   |[]=>none
   |m::b'=>if n=m then dI r b' L else none
theorem aDv{n:Nd}{f a:List Nd}{b:bH}(j:aL n=true)(i:look b n.2=some t):dI (n::f) a b=if t=a.take (aO a 1) then dI f (a.drop (aO a 1)) b else none:=by rw [dI.eq_def];simp [j,i]
theorem aDw{n:Nd}{f a:List Nd}{b:bH}(j:aL n=true)(i:look b n.2=none):dI (n::f) a b=dI f (a.drop (aO a 1)) (b++[(n.2,a.take (aO a 1))]):=by rw [dI.eq_def];simp [j,i]
theorem aDx{n f:Nd}{i b:List Nd}{a:bH}(j:aL n=false):dI (n::i) (f::b) a=if n=f then dI i b a else none:=by rw [dI.eq_def];simp [j]
theorem yI{b:Int->List Nd}(l:Tm b){n:Nd}{f a:List Nd}(k:aL n=true):subst b (n::f)=a↔b n.2=a.take (aO a 1)/\subst b f=a.drop (aO a 1):=by
 rw [nR,aH k];constructor
 ·rintro rfl;rw [yF _ _ _ (l n.2)];simp
 ·rintro ⟨i,j⟩;rw [i,j,List.take_append_drop]
theorem jN{n:Nd}(a:aL n=true):aY n=0:=by simp [aY,a]
theorem aKf(s:List Nd):∀(b:List Nd) (k:Nat) (l:bH),aQ s k=true->aQ b k=true->
  (∀o,dI s b l=some o->∀a,Tm a->(jM a o↔jM a l/\subst a s=b))/\(dI s b l=none->∀a,Tm a->jM a l->subst a s≠b):=by
 induction s with
 |nil=>
  intro b k l u y;cases k with
  |succ k=>simp [aQ] at u
  |zero=>
   cases b with
   |nil=>simp [dI,subst]
   |cons m b=>simp [aQ] at y
 |cons n r ih=>
  intro b k l u y;cases k with
  |zero=>simp [aQ] at u
  |succ k=>
   rw [mO,zu] at u;by_cases p:aL n=true
   ·have H:=aDu b 1 k (by rw [<-y];congr 1;omega);have G:aQ r k=true:=by simpa [jN p] using u.2
    cases hl:look l n.2 with
    |some t=>
     rw [aDv p hl];by_cases C:t=b.take (aO b 1)
     ·rw [aH C];obtain ⟨z,A⟩:=ih (b.drop (aO b 1)) k l G H.2;refine ⟨λo i a f=>?_,λi a f q j=>?_⟩
      ·rw [z o i a f,yI f p];constructor
       ·rintro ⟨e,E⟩;exact ⟨e,(e _ _ hl).trans C,E⟩
       ·rintro ⟨e,_,E⟩;exact ⟨e,E⟩
      ·exact A i a f q ((yI f p).1 j).2
     ·rw [aI C];refine ⟨λo i=>by simp at i,λ_ a f q j=>C ?_⟩;rw [<-q _ _ hl];exact ((yI f p).1 j).1
    |none=>
     rw [aDw p hl];obtain ⟨z,A⟩:=ih (b.drop (aO b 1)) k (l++[(n.2,b.take (aO b 1))]) G H.2;refine ⟨λo i a f=>?_,λi a f q j=>?_⟩
     ·rw [z o i a f,jM.snoc hl,yI f p,and_assoc]
     ·obtain ⟨I,J⟩:=(yI f p).1 j;exact A i a f ((jM.snoc hl).2 ⟨q,I⟩) J
   ·have D:aL n=false:=by simpa using p
    cases b with
    |nil=>simp [aQ] at y
    |cons m b=>
     rw [mO,zu] at y;rw [aDx D];by_cases F:n=m
     ·subst F;rw [aH rfl];obtain ⟨z,A⟩:=ih b (k+aY n) l u.2 y.2;refine ⟨λo i a f=>?_,λi a f q j=>?_⟩
      ·rw [z o i a f,nR,D];simp
      ·rw [nR,D] at j;simp at j;exact A i a f q j
     ·rw [aI F];refine ⟨λo i=>by simp at i,λ_ a f q j=>?_⟩;rw [nR,D] at j;simp at j;exact F j.1
def aDy(x:Int)(a:List Nd):Prop:=∃n∈a,aL n=true/\n.2=x
theorem aWf(z:List Nd):∀(b:List Nd) (i:Nat) (j o:bH),aQ z i=true->aQ b i=true->dI z b j=some o->
  ∃k,o=j++k/\∀f∈k,aDy f.1 z/\look j f.1=none:=by
 induction z with
 |nil=>
  intro b i j o _ _ a;cases b with
  |nil=>simp [dI] at a;exact ⟨[],by simp [a],by simp⟩
  |cons m b=>simp [dI] at a
 |cons n r ih=>
  intro b i j o A C a;cases i with
  |zero=>simp [aQ] at A
  |succ i=>
   rw [mO,zu] at A;by_cases q:aL n=true
   ·have F:=aDu b 1 i (by rw [<-C];congr 1;omega);have E:aQ r i=true:=by simpa [jN q] using A.2
    cases hl:look j n.2 with
    |some t=>
     rw [aDv q hl] at a;by_cases G:t=b.take (aO b 1)
     ·rw [aH G] at a;obtain ⟨k,p,l⟩:=ih _ i j o E F.2 a;exact ⟨k,p,λf hp=>⟨by obtain ⟨m,s,y⟩:=(l f hp).1;exact ⟨m,zv _ s,y⟩,(l f hp).2⟩⟩
     ·rw [aI G] at a;simp at a
    |none=>
     rw [aDw q hl] at a;obtain ⟨k,p,l⟩:=ih _ i _ o E F.2 a;refine ⟨(n.2,b.take (aO b 1))::k,by rw [p];simp,λf hp=>?_⟩;rcases List.mem_cons.1 hp with rfl|hp
     ·exact ⟨⟨n,by simp,q,rfl⟩,hl⟩
     ·refine ⟨by obtain ⟨m,s,y⟩:=(l f hp).1;exact ⟨m,zv _ s,y⟩,?_⟩;have:=(l f hp).2;rw [yG] at this;cases hh:look j f.1 with
      |none=>rfl
      |some u=>rw [hh] at this;simp at this
   ·have H:aL n=false:=by simpa using q
    cases b with
    |nil=>simp [aQ] at C
    |cons m b=>
     rw [mO,zu] at C;rw [aDx H] at a;by_cases D:n=m
     ·subst D;rw [aH rfl] at a;obtain ⟨k,p,l⟩:=ih _ _ j o A.2 C.2 a;exact ⟨k,p,λf hp=>⟨by obtain ⟨m,s,y⟩:=(l f hp).1;exact ⟨m,zv _ s,y⟩,(l f hp).2⟩⟩
     ·rw [aI D] at a;simp at a
def gN(d c:List Lt)(f:bH):Prop:=∃a,Tm a/\jM a f/\∀b∈c,(b.1,subst a b.2)∈d
def Tms(c:List Lt):Prop:=∀a∈c,aQ a.2 1=true
def kA(x a:Lt)(b:bH):Option bH:=if x.1=a.1 then dI x.2 a.2 b else none
theorem aDz{x y:Lt}{f i:bH}(k:aQ x.2 1=true)(l:aQ y.2 1=true)(a:kA x y f=some i)(b:Int->List Nd)(m:Tm b):jM b i↔jM b f/\(x.1,subst b x.2)=y:=by
 unfold kA at a;by_cases j:x.1=y.1
 ·rw [aH j] at a;rw [(aKf x.2 y.2 1 f k l).1 i a b m,Prod.ext_iff];simp [j]
 ·rw [aI j] at a;simp at a
theorem aWh{x a:Lt}{f:bH}(l:aQ x.2 1=true)(m:aQ a.2 1=true)(i:kA x a f=none)(b:Int->List Nd)(o:Tm b)(k:jM b f):(x.1,subst b x.2)≠a:=by
 unfold kA at i;by_cases j:x.1=a.1
 ·rw [aH j] at i;intro e;exact (aKf x.2 a.2 1 f l m).2 i b o k (by rw [<-e])
 ·intro e;exact j (by rw [<-e])
theorem aWi{x y:Lt}{b f:bH}(l:aQ x.2 1=true)(m:aQ y.2 1=true)(a:kA x y b=some f):∃i,f=b++i/\∀k∈i,aDy k.1 x.2/\look b k.1=none:=by
 unfold kA at a;by_cases j:x.1=y.1
 ·rw [aH j] at a;exact aWf x.2 y.2 1 b f l m a
 ·rw [aI j] at a;simp at a
theorem aWj{u:List Lt}{p:bH}{x:Lt}(s:Tms d)(q:aQ x.2 1=true)(o:∀a,a∈c↔a=x\/a∈u):gN d c p↔∃r∈d,∃i,kA x r p=some i/\gN d u i:=by
 constructor
 ·rintro ⟨b,f,l,j⟩;refine ⟨_,j x ((o x).2 (zo rfl)),?_⟩;have k:=s _ (j x ((o x).2 (zo rfl)));cases m:kA x (x.1,subst b x.2) p with
  |none=>exact absurd rfl (aWh q k m b f l)
  |some i=>exact ⟨i,rfl,b,f,(aDz q k m b f).2 ⟨l,rfl⟩,λa hl=>j a ((o a).2 (zl hl))⟩
 ·rintro ⟨r,k,i,m,b,f,l,j⟩;obtain ⟨e,y⟩:=(aDz q (s r k) m b f).1 l;refine ⟨b,f,e,λa hl=>?_⟩;rcases (o a).1 hl with rfl|hl
  ·rw [y];exact k
  ·exact j a hl
def aE0(d c:List Lt)(f:bH):Prop:=∀a,Tm a->jM a f->∀b∈c,(b.1,subst a b.2)∈d
def kL(c:List Lt)(a i:bH):Prop:=∃b,i=a++b/\∀f∈b,(∃j∈c,aDy f.1 j.2)/\look a f.1=none
def aE1(a:bH)(g b:List Lt):Prop:=∀x∈g,∀f∈b,∀n∈x.2,aL n=true->look a n.2=none->n∉f.2
theorem aKg{i τ:Int->List Nd}{b:List Nd}(f:∀n∈b,aL n=true->i n.2=τ n.2):subst i b=subst τ b:=by
 induction b with
 |nil=>rfl
 |cons n r ih=>
  rw [nR,nR,ih λk j=>f k (zv _ j)];by_cases a:aL n=true
  ·rw [aH a,aH a,f n (by simp) a]
  ·rw [aI a,aI a]
theorem aWk{n a:Nd}(i:aL n=true)(f:aL a=true)(b:n.2=a.2):n=a:=by
 obtain ⟨k,x⟩:=n;obtain ⟨t,l⟩:=a;simp only at b;subst b;have j:k.toList=t.toList:=by simp [aL] at i f;rw [i,f]
 rw [zY.1 j]
theorem kL.refl(c:List Lt)(L:bH):kL c L L:=⟨[],by simp,by simp⟩
theorem kL.trans{c m e:List Lt}{L j l:bH}(r:kL c L j)(k:kL m j l)(s:∀a∈c,a∈e)(y:∀a∈m,a∈e):kL e L l:=by
 obtain ⟨o,rfl,z⟩:=r;obtain ⟨q,rfl,A⟩:=k;refine ⟨o++q,by simp,λp hp=>?_⟩;rcases zn.1 hp with hp|hp
 ·obtain ⟨⟨a,f,i⟩,b⟩:=z p hp;exact ⟨⟨a,s a f,i⟩,b⟩
 ·obtain ⟨⟨a,f,i⟩,b⟩:=A p hp;refine ⟨⟨a,y a f,i⟩,?_⟩;rw [yH] at b;cases hh:look L p.1 with
  |none=>rfl
  |some u=>rw [hh] at b;simp at b
theorem aAv{f:bH}(a:look f x=some t):(x,t)∈f:=by
 unfold look at a;induction f with
 |nil=>simp at a
 |cons p r ih=>
  obtain ⟨i,j⟩:=p;rw [List.lookup_cons] at a;by_cases b:(x==i)=true
  ·rw [b] at a;simp at a b;subst b a;simp
  ·simp only [b] at a;exact zv _ (ih a)
theorem kL.ext{a b:bH}(i:kL c a b){f:Int->List Nd}(j:jM f b):jM f a:=by obtain ⟨k,rfl,_⟩:=i;exact j.left
theorem aWl{g q:List Lt}{i b:bH}(s:∀a,a∈c↔a∈g\/a∈q)(C:aE1 i g q)(m:kL g i b)(A:∀x t,look b x=some t->aQ t 1=true)(y:aE0 d g b):gN d c i↔gN d q b:=by
 constructor
 ·rintro ⟨f,j,k,l⟩;refine ⟨λx=>(look b x).getD (f x),λx=>?_,λx t p=>by simp [p],λa hl=>?_⟩
  ·show aQ ((look b x).getD (f x)) 1=true;cases hh:look b x with
   |none=>exact j x
   |some t=>exact A x t hh
  ·have:=l a ((s a).2 (zl hl));rw [show subst (λx=>(look b x).getD (f x)) a.2=subst f a.2 from ?_]
   ·exact this
   ·refine aKg λn E G=>?_
    cases hh:look i n.2 with
    |some t=>
     obtain ⟨r,rfl,_⟩:=m;show (look (i++r) n.2).getD (f n.2)=f n.2;rw [yH,hh];simp only [Option.some_or,Option.getD_some];exact (k _ _ hh).symm
    |none=>
     cases hk:look b n.2 with
     |none=>simp only [Option.getD_none]
     |some t=>
      exfalso;obtain ⟨r,rfl,z⟩:=m;rw [yH,hh] at hk;obtain ⟨⟨x,p,H,D,u,o⟩,_⟩:=z _ (aAv (by simpa using hk));simp only at o;have F:=aWk u G o;exact C x p a hl H D u (by rw [o];exact hh) (by rw [F];exact E)
 ·rintro ⟨f,j,k,l⟩;refine ⟨f,j,m.ext k,λa hl=>?_⟩;rcases (s a).1 hl with hl|hl
  ·exact y f j k a hl
  ·exact l a hl
theorem aWm{a:bH}(b:∀x t,look a x=some t->aQ t 1=true):gN d [] a:=by
 refine ⟨λx=>(look a x).getD [(⟨#[]⟩,0)],λx=>?_,λx t i=>by simp [i],by simp⟩;show aQ ((look a x).getD [(⟨#[]⟩,0)]) 1=true;cases hh:look a x with
 |none=>
  have f:(⟨#[]⟩ : ByteArray).toList=[]:=by rw [ByteArray.toList_eq]
  simp [aQ,dC,aY,aL,f]
 |some t=>exact b x t hh
structure mS(L:bH):Prop where
 keys:∀p∈L,0<=p.1/\p.1<60
 once:(L.map zw).Nodup
 terms:∀p∈L,aQ p.2 1=true/\p.2.length<=60
theorem mS.nil:mS []:=⟨by simp,by simp,by simp⟩
theorem mS.look{a:bH}(b:mS a):∀x t,look a x=some t->aQ t 1=true:=λ_ _ f=>(b.terms _ (aAv f)).1
theorem aWn{a:bH}(b:look a x=none):x∉a.map zw:=by intro i;obtain ⟨j,f,rfl⟩:=zt.1 i;unfold Go.Proofs.YtmelidkanelpbaaGreatDoor.look at b;have:=List.lookup_eq_none_iff.1 b j f;simp at this
theorem mS.snoc{a:bH}(b:mS a)(l:Go.Proofs.YtmelidkanelpbaaGreatDoor.look a x=none)(i:0<=x)(j:x<60)(o:aQ t 1=true)(m:t.length<=60):mS (a++[(x,t)]):=by
 refine ⟨λp hp=>?_,?_,λp hp=>?_⟩
 ·rcases zn.1 hp with hp|hp
  ·exact b.keys p hp
  ·simp at hp;subst hp;exact ⟨i,j⟩
 ·rw [zh,zj];refine ⟨b.once,by simp,λq k r f e=>aWn l ?_⟩;simp at f;subst f e;exact k
 ·rcases zn.1 hp with hp|hp
  ·exact b.terms p hp
  ·simp at hp;subst hp;exact ⟨o,m⟩
theorem mS.few{a:bH}(b:mS a):a.length<=60:=by
 have f:∀x∈a.map zw,x∈(List.range 60).map (λn:Nat=>(n:Int)):=by intro x k;obtain ⟨p,j,rfl⟩:=zt.1 k;have:=b.keys p j;exact zt.2 ⟨p.1.toNat,by simp;omega,by omega⟩
 have i:=List.Nodup.length_le_of_subset b.once f;simpa using i
theorem mS.left{i j:bH}(a:mS (i++j)):mS i:=
 ⟨λf b=>a.keys f (zf _ b),by have:=a.once;rw [zh,zj] at this;exact this.1,λf b=>a.terms f (zf _ b)⟩
theorem aKh{n:Nd}(a:dC n=true)(b:aL n=true):0<=n.2/\n.2<60:=by simpa [dC,b] using a
theorem aWo(b:List Nd)(a f:Nat)(i:a<b.length):aO (b.drop a) (f+1)=1+aO (b.drop (a+1)) (f+aY b[a]):=by rw [zy i];rfl
theorem aE2(b:List Nd)(a f:Nat)(i:a<b.length):aQ (b.drop a) (f+1)=(dC b[a] && aQ (b.drop (a+1)) (f+aY b[a])):=by rw [zy i,mO]
theorem aWp(b:List Nd)(f:Nat)(a:bH)(i:f=b.length):dI [] (b.drop f) a=some a:=by subst i;simp [dI]
theorem aWq(a b:List Nd)(i f:Nat)(j:bH)(t:List Nd)(k:i<a.length)(m:aL a[i]=true)(l:look j a[i].2=some t):dI (a.drop i) (b.drop f) j=if t=(b.drop f).take (aO (b.drop f) 1) then dI (a.drop (i+1)) (b.drop (f+aO (b.drop f) 1)) j else none:=by
 rw [zy k,aDv m l,List.drop_drop]
theorem aWr(a f:List Nd)(b i:Nat)(j:bH)(k:b<a.length)(m:aL a[b]=true)(l:look j a[b].2=none):dI (a.drop b) (f.drop i) j=dI (a.drop (b+1)) (f.drop (i+aO (f.drop i) 1)) (j++[(a[b].2,(f.drop i).take (aO (f.drop i) 1))]):=by
 rw [zy k,aDw m l,List.drop_drop]
theorem aWs(a f:List Nd)(b i:Nat)(j:bH)(l:b<a.length)(k:i<f.length)(m:aL a[b]=false):dI (a.drop b) (f.drop i) j=if a[b]=f[i] then dI (a.drop (b+1)) (f.drop (i+1)) j else none:=by
 rw [zy l,zy k,aDx m]
theorem aKi{b:List Nd}{a q:Nat}(f:aQ (b.drop a) (q+1)=true):a<b.length:=by
 rcases Nat.lt_or_ge a b.length with hk|hk
 ·exact hk
 ·rw [List.drop_eq_nil_of_le hk] at f;simp [aQ] at f
theorem aWt{b:List Nd}{a:Nat}(i:a<=b.length)(f:aQ (b.drop a) 0=true):a=b.length:=by
 rcases Nat.lt_or_ge a b.length with hl|hl
 ·rw [aCh b a hl] at f;simp at f
 ·omega
def gF(a:List Nd):Bool:=iZ a && !aL (a.headD (⟨#[]⟩,0))
def aS(c:List Lt):Bool:=bL c && (c.all λa=>gF a.2) && decide (c=aV c)
theorem aWu(a:List Nd)(f:List Int):(dY a f).1.map zw=a.map zw:=by
 suffices ∀(a:List Nd) (b:List Nd×List Int),(a.foldl cI b).1.map zw=b.1.map zw++a.map zw by
  have i:=this a ([],f);simpa [dY] using i
 intro a;induction a with
 |nil=>intro b;simp
 |cons x r ih=>
  intro b;rw [List.foldl_cons,ih];have:(cI b x).1.map zw=b.1.map zw++[x.1]:=by
   unfold cI;split
   ·split<;>simp
   ·simp
  rw [this];simp
theorem aWv(c:List Lt):∀x∈(cW c).1,∃a∈c,x.2.map zw=a.2.map zw:=by
 suffices ∀(c:List Lt) (b:List Lt×List Int),∀x∈(c.foldl dM b).1,x∈b.1\/∃a∈c,x.2.map zw=a.2.map zw by
  intro x f;rcases this c ([],[]) x f with h|h
  ·simp at h
  ·exact h
 intro c;induction c with
 |nil=>intro b x f;exact zo f
 |cons a r ih=>
  intro b x f;rcases ih (dM b a) x f with h|⟨k,i,j⟩
  ·rcases zn.1 (show x∈b.1++[(a.1,(dY a.2 b.2).1)] from h) with h|h
   ·exact zo h
   ·simp at h;subst h;exact zl ⟨a,by simp,aWu _ _⟩
  ·exact zl ⟨k,by simp [i],j⟩
theorem aWw(c:List Lt):∀x∈aV c,∃a∈c,x.2.map zw=a.2.map zw:=by intro x f;obtain ⟨a,i,b⟩:=aWv _ x f;exact ⟨a,(jW c).2.2 a i,b⟩
def wG(c:List Lt):Prop:=∀x∈c,x.2.length<=5864062014805/\∀n∈x.2,n.1.size<=140737488355328
theorem wG.ord(b:wG c):wG (aV c):=by
 intro x o;obtain ⟨a,i,f⟩:=aWw c x o;have j:x.2.length=a.2.length:=by have:=congrArg List.length f;simpa using this
 refine ⟨by rw [j];exact (b a i).1,λn m=>?_⟩;have:n.1∈a.2.map zw:=by rw [<-f];exact zt.2 ⟨n,m,rfl⟩
 obtain ⟨p,k,l⟩:=zt.1 this;rw [<-l];exact (b a i).2 p k
theorem aKj{a:List (Lt×Value)}(u:a.map zw=d)(D:w.ownsRow B 86 2 v a.length (bF a))(r:∀j∈a,w.ownsRow B 117 2 j.2 j.1.2.length (bB j.1.2))(y:d.length<=4398046511104)(m:wG d):∃f i,v=.slice f d.length i/\cH w f d:=by
 subst u;obtain ⟨f,i,rfl,s⟩:=tY D;refine ⟨f,i,by simp,y,λb z=>?_⟩;have A:b<a.length:=by simpa using z
 obtain ⟨g,rfl,q,k⟩:=s b A;have E:=r a[b] (zi _);have l:a[b].1∈a.map zw:=zt.2 ⟨a[b],zi _,rfl⟩;obtain ⟨o,p,F,C⟩:=vL E (m _ l).1 (λH G=>(m _ l).2 _ (zi _));rw [F] at k;refine ⟨g,0,o,p,rfl,?_,?_,?_⟩
 ·rw [Nat.zero_add,q];simp
 ·rw [Nat.zero_add,k];simp
 ·simpa using C
theorem aWx:iZ []=false:=by decide
def aAw(w:World)(j:Option Addr)(c:List Lt):Prop:=∀f,f<c.length->∀a i k n b,j=some ⟨a,i,none⟩->w.cell? ⟨a,i+f*2+1,none⟩=some (.slice k n b)->n<=b
theorem aKk{b x:Value}{t:TypeId}(a:w.heap[g]?=some (.cells #[b,x] t)):w.cell? ⟨g,0,none⟩=some b/\w.cell? ⟨g,1,none⟩=some x:=⟨by simp [zg,a],by simp [zg,a]⟩
theorem aKl{a:List Nd}(b:gF a=true):aQ a 1=true/\a.length<=60:=by
 have:iZ a=true:=by simp [gF] at b;exact b.1
 simpa [iZ] using this
def lV(w:World)(B b:Nat):Prop:=b<B\/∀f a i,w.heap[b]?=some (.cells f a i)->a≠136/\a≠3
structure Fr(B:Nat)(w w':World):Prop where
 os:w'.os=w.os
 tape:w'.tape=w.tape
 output:w'.output=w.output
 size:w.heap.size<=w'.heap.size
 block:∀k,k<w.heap.size->lV w B k->w'.heap[k]?=w.heap[k]?
theorem Fr.refl(B:Nat)(w:World):Fr B w w:=⟨rfl,rfl,rfl,zp _,λ_ _ _=>rfl⟩
theorem lV.fr{a:Nat}(h:lV w B a)(k:a<w.heap.size)(i:Fr B w w'):lV w' B a:=by
 have e:=i.block a k h;rcases h with h|h
 ·exact zo h
 ·exact zl λf b j l=>h f b j (by rw [<-e];exact l)
theorem Fr.trans{B:Nat}{a b c:World}(f:Fr B a b)(k:Fr B b c):Fr B a c:=
 ⟨k.os.trans f.os,k.tape.trans f.tape,k.output.trans f.output,Nat.le_trans f.size k.size,λl i j=>by
  rw [k.block l (ze i f.size) (j.fr i f),f.block l i j]⟩
theorem Fr.of_below(a:aB w w'):Fr B w w':=⟨a.os,a.tape,a.output,a.size,λk b _=>a.block k b⟩
theorem Fr.below(a:Fr B w w')(f:B<=w.heap.size):Below B w w':=⟨a.os,a.tape,a.output,a.size,λk b=>a.block k (by omega) (zo b)⟩
theorem Fr.cell(f:Fr B w w'){a:Addr}{v:Value}(b:w.cell? a=some v)(i:lV w B a.block):w'.cell? a=some v:=
 (World.cell?_of_block (f.block _ (zq w a b) i)).trans b
theorem Fr.alloc{a:World}(f:Fr B a w)(b:Obj):Fr B a (w.alloc b):=f.trans (.of_below ((Below.refl _ _).alloc (zp _) b))
theorem Fr.drawn{a b:World}(f:Fr B a w)(i:∃n,b=w.drewN n):Fr B a b:=f.trans (.of_below (aU i))
structure fR(w:World)(B:Nat)(a:Option Addr)(l:List Nd):Prop where
 nodes:dW w a l
 low:∀p,a=some p->p.block<B
theorem fR.fr{b:Option Addr}{j:List Nd}(a:fR w B b j)(f:Fr B w w'):fR w' B b j:=
 ⟨⟨a.nodes.few,a.nodes.short,λp o=>by
  obtain ⟨k,q,e,l,m⟩:=a.nodes.cell p o;have i:=a.low _ e;exact ⟨k,q,e,f.cell l (zo i),f.cell m (zo i)⟩⟩,a.low⟩
structure dG(w:World)(B:Nat)(a:Option Addr)(c:List Lt):Prop where
 few:c.length<=8
 cell:∀k (h:k<c.length),∃b o aa cap,a=some ⟨b,o,none⟩/\lV w B b/\w.cell? ⟨b,o+k*2,none⟩=some (.bool c[k].1)/\w.cell? ⟨b,o+k*2+1,none⟩=some (.slice aa c[k].2.length cap)/\c[k].2.length<=cap/\fR w B aa c[k].2
theorem dG.fr{f:Option Addr}(i:dG w B f c)(a:Fr B w w'):dG w' B f c:=
 ⟨i.few,λs r=>by
  obtain ⟨l,u,k,m,e,b,j,o,q,p⟩:=i.cell s r;exact ⟨l,u,k,m,e,b.fr (zq w _ j) a,a.cell j b,a.cell o b,q,p.fr a⟩⟩
def aAx(w:World)(B:Nat)(f:Option (List Nd))(v:Value):Prop:=
 match f with
 |none=>v=.slice none 0 0
 |some t=>∃a b,v=.slice (some a) t.length b/\fR w B (some a) t
theorem aAx.fr{a:Option (List Nd)}(b:aAx w B a v)(j:Fr B w w'):aAx w' B a v:=by
 cases a with
 |none=>exact b
 |some t=>obtain ⟨f,i,k,l⟩:=b;exact ⟨f,i,k,l.fr j⟩
structure cB(w:World)(B g:Nat)(dv:Value)(L:bH):Prop where
 low:B<=g
 blk:∃cs,w.heap[g]?=some (.cells cs 136 (0,0))
 among:w.cell? ⟨g,0,none⟩=some dv
 term:∀x:Nat,x<60->∃v,w.cell? ⟨g,1+x,none⟩=some v/\aAx w B (look L (x:Int)) v
 bound:∃bv,w.cell? ⟨g,61,none⟩=some bv/\w.ownsRow B 3 1 bv L.length (L.map λp=>.int .i64 p.1)
 ok:mS L
theorem cB.frozen{a:bH}(b:cB w B g dv a)(j:Nat):w.frozen? ⟨g,j,none⟩=false:=by obtain ⟨i,f⟩:=b.blk;simp [World.frozen?,f]
theorem cB.lt{a:bH}(b:cB w B g dv a):g<w.heap.size:=zq w _ b.among
theorem cB.below{b:bH}(a:cB w B g dv b)(k:aB w w'):cB w' B g dv b:=by
 obtain ⟨j,f,i⟩:=a.bound;refine ⟨a.low,?_,aC k a.among,λx o=>?_,⟨j,aC k f,bG i k (zp _)⟩,a.ok⟩
 ·obtain ⟨l,m⟩:=a.blk;exact ⟨l,by rw [k.block g a.lt];exact m⟩
 ·obtain ⟨v,p,q⟩:=a.term x o;exact ⟨v,aC k p,q.fr (Fr.of_below k)⟩
theorem cB.drawn{a:bH}(b:cB w B g dv a)(f:∃n,w'=w.drewN n):cB w' B g dv a:=b.below (aU f)
theorem aWy{b:Nat}(f:w.ownsRow B 3 1 v n xs)(a:v.ownBlock=some b):¬lV w B b:=by
 obtain ⟨_,⟨rfl,_⟩|⟨g,j,k,rfl,l,i,_⟩⟩:=f
 ·simp [zz] at a
 ·simp [zz] at a;subst a;rintro (hs|hs)
  ·omega
  ·exact (hs _ _ _ i).2 rfl
theorem Fr.grownInts(b:w.ownsRow B 3 1 v n xs)(a:w.grownBy w' v.ownBlock):Fr B w w':=
 ⟨a.os,a.tape,a.output,a.size,λj f i=>a.block j f (λe=>aWy b e.symm i)⟩
theorem cB.apart{b:bH}(f:cB w B g dv b){v:Value}{n:Nat}{xs:List Value}(j:w.ownsRow B 3 1 v n xs):some g≠v.ownBlock:=by
 intro e;obtain ⟨_,⟨rfl,_⟩|⟨k,l,o,rfl,p,i,_⟩⟩:=j
 ·simp [zz] at e
 ·simp [zz] at e;subst e;obtain ⟨m,a⟩:=f.blk;rw [i] at a;simp at a
theorem aAy{b:Nat}(j:w.ownsRow B e b v n xs){p:Addr}(o:some p.block≠v.ownBlock)(r:Value):(w.setCell p r).ownsRow B e b v n xs:=by
 obtain ⟨a,⟨rfl,k⟩|⟨g,f,i,rfl,l,m,q⟩⟩:=j
 ·exact ⟨a,zo ⟨rfl,k⟩⟩
 ·refine ⟨a,zl ⟨g,f,i,rfl,l,?_,q⟩⟩;rw [heap_setCell_other _ _ _ _ (λe=>o (by simp [zz,e])),m]
def oQ(w:World)(g:Nat):Prop:=∃a,w.heap[g]?=some (.cells a 136 (0,0))
theorem oQ.set(b:oQ w g)(j:Nat)(u:Value):oQ (w.setCell ⟨g,j,none⟩ u) g:=by obtain ⟨a,f⟩:=b;exact ⟨_,heap_setCell_same w g j a _ u f⟩
theorem oQ.grown{b:Option Nat}(i:oQ w g)(j:w.grownBy w' b)(k:some g≠b):oQ w' g:=by obtain ⟨f,a⟩:=i;exact ⟨f,by rw [j.block g (Array.getElem?_eq_some_iff.1 a).1 k];exact a⟩
theorem Fr.setB(k:B<=g)(b:oQ w g)(i:Nat)(j:Value):Fr B w (w.setCell ⟨g,i,none⟩ j):=by
 refine ⟨rfl,rfl,rfl,by simp [World.setCell],λl _ hs=>heap_setCell_other _ _ _ _ (λe=>?_)⟩;simp at e;subst e;rcases hs with hs|hs
 ·omega
 ·obtain ⟨a,f⟩:=b;exact (hs a _ _ f).1 rfl
theorem aWz{b:bH}{a x:Nat}(i:look b (a:Int)=none):look (b++[((a:Int),t)]) (x:Int)=if x=a then some t else look b (x:Int):=by
 rw [yG];by_cases f:x=a
 ·subst f;rw [i];simp
 ·have:¬(x:Int)=(a:Int):=by omega
  simp [f,this]
theorem cB.more{b:World}{f l:Nat}{z j:Value}{k:bH}{a:Addr}{o:Obj}(i:cB w B g dv k)(W:f<60)(C:look k (f:Int)=none)(P:fR w B (some a) t)(X:aQ t 1=true)(O:t.length<=60)
  (D:w.ownsRow B 3 1 z k.length (k.map λp=>.int .i64 p.1)) (q:((w.setCell ⟨g,1+f,none⟩ (.slice (some a) t.length l)).alloc o).grownBy b z.ownBlock)
  (E:b.ownsRow B 3 1 j (k.length+1) ((k.map λp=>.int .i64 p.1)++[.int .i64 (f:Int)])):cB (b.setCell ⟨g,61,none⟩ j) B g dv (k++[((f:Int),t)])/\Fr B w (b.setCell ⟨g,61,none⟩ j):=by
 have m:=i.apart D;have I:oQ (w.setCell ⟨g,1+f,none⟩ (.slice (some a) t.length l)) g:=oQ.set i.blk _ _;have a1:=aAy D (p:=⟨g,1+f,none⟩) m (.slice (some a) t.length l);have M:Fr B w (w.setCell ⟨g,1+f,none⟩ (.slice (some a) t.length l)):=Fr.setB i.low i.blk _ _;have u:oQ b g:=(I.grown (World.grownBy_alloc _ o none) (by simp)).grown q m;have N:Fr B w b:=(M.alloc o).trans (Fr.grownInts (a1.alloc o) q);have y:Fr B w (b.setCell ⟨g,61,none⟩ j):=N.trans (Fr.setB i.low u _ _);have G:∀s v,s≠1+f->s≠61->w.cell? ⟨g,s,none⟩=some v->(b.setCell ⟨g,61,none⟩ j).cell? ⟨g,s,none⟩=some v:=by intro s v a4 a5 r;rw [zx b _ _ _ (by first|(simp;done)|(simp;omega))];refine q.cell (aC ((Below.refl _ _).alloc (zp _) o) ?_) m;rw [zx w _ _ _ (by first|(simp;done)|(simp;omega))];exact r
 have a0:(b.setCell ⟨g,61,none⟩ j).cell? ⟨g,1+f,none⟩=some (.slice (some a) t.length l):=by rw [zx b _ _ _ (by first|(simp;done)|(simp;omega))];obtain ⟨v,r,_⟩:=i.term f W;exact q.cell (aC ((Below.refl _ _).alloc (zp _) o) (zr w _ _ r)) m
 have L:∃H,b.cell? ⟨g,61,none⟩=some H:=by obtain ⟨J,T,_⟩:=i.bound;refine ⟨J,q.cell (aC ((Below.refl _ _).alloc (zp _) o) ?_) m⟩;rw [zx w _ _ _ (by first|(simp;done)|(simp;omega))];exact T
 obtain ⟨H,Y⟩:=L;have S:some g≠j.ownBlock:=by
  intro e;obtain ⟨_,⟨rfl,_⟩|⟨a7,l,a3,rfl,a6,U,_⟩⟩:=E
  ·simp [zz] at e
  ·simp [zz] at e;subst e;obtain ⟨a2,A⟩:=u;rw [U] at A;simp at A
 refine ⟨⟨i.low,u.set _ _,G 0 dv (by omega) (by omega) i.among,λx Z=>?_,⟨j,zr b _ _ Y,?_⟩,i.ok.snoc C (by omega) (by omega) X O⟩,y⟩
 ·rw [aWz C];by_cases F:x=f
  ·subst F;rw [aH rfl];exact ⟨_,a0,a,l,rfl,P.fr y⟩
  ·rw [aI F];obtain ⟨v,r,Q⟩:=i.term x Z;exact ⟨v,G _ v (by omega) (by omega) r,Q.fr y⟩
 ·have:=aAy E (p:=⟨g,61,none⟩) S j;simpa using this
theorem cB.less{a M:bH}(b:cB w B g dv (a++M))(i:oQ w' g)(u:Fr B w w')
  (p:w'.cell? ⟨g,0,none⟩=some dv) (C:∀x:Nat,x<60->w'.cell? ⟨g,1+x,none⟩=if (x:Int)∈M.map zw then some (.slice none 0 0) else w.cell? ⟨g,1+x,none⟩) (q:(w'.cell? ⟨g,61,none⟩).isSome=true) {bv':Value}
  (m:w'.ownsRow B 3 1 bv' a.length (a.map λD=>.int .i64 D.1)):cB (w'.setCell ⟨g,61,none⟩ bv') B g dv a/\Fr B w (w'.setCell ⟨g,61,none⟩ bv'):=by
 have j:Fr B w (w'.setCell ⟨g,61,none⟩ bv'):=u.trans (Fr.setB b.low i _ _);obtain ⟨J,z⟩:=Option.isSome_iff_exists.1 q;have s:some g≠bv'.ownBlock:=by
  intro e;obtain ⟨_,⟨rfl,_⟩|⟨I,E,G,rfl,H,y,_⟩⟩:=m
  ·simp [zz] at e
  ·simp [zz] at e;subst e;obtain ⟨F,k⟩:=i;rw [y] at k;simp at k
 refine ⟨⟨b.low,i.set _ _,by rw [zx w' _ _ _ (by simp)];exact p,λx o=>?_,⟨bv',zr w' _ _ z,aAy m (p:=⟨g,61,none⟩) s bv'⟩,b.ok.left⟩,j⟩;rw [zx w' _ _ _ (by first|(simp;done)|(simp;omega)),C x o];obtain ⟨v,A,r⟩:=b.term x o;by_cases f:(x:Int)∈M.map zw
 ·rw [aH f];refine ⟨_,rfl,?_⟩;have:look a (x:Int)=none:=by
   cases hl:look a (x:Int) with
   |none=>rfl
   |some t=>
    exfalso;have l:=b.ok.once;rw [zh,zj] at l;exact l.2.2 _ (zt.2 ⟨_,aAv hl,rfl⟩) _ f rfl
  rw [this];rfl
 ·rw [aI f];refine ⟨v,A,?_⟩;have e:look (a++M) (x:Int)=look a (x:Int):=by
   rw [yH];have:look M (x:Int)=none:=by
    cases hl:look M (x:Int) with
    |none=>rfl
    |some t=>exact absurd (zt.2 ⟨_,aAv hl,rfl⟩) f
   rw [this];simp
  rw [<-e];exact r.fr j
theorem aX0{a:ByteArray}(i:dC (a,x)=true)(f:¬a.toList.isEmpty=true):0<=x/\x<=5/\aY (a,x)=x.toNat:=by
 have b:eM a=true/\0<=x/\x<=5:=by simpa [dC,aL,f] using i
 exact ⟨b.2.1,b.2.2,by unfold aY aL;rw [aI f]⟩
