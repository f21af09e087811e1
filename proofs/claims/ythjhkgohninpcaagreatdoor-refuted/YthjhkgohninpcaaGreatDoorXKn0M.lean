import Derived.Test.YthjhkgohninpcaaGreatDoorXIResM
open Bool renaming noConfusion→zr
open List renaming getElem?_map→zy,getElem?_append_right→zx,getElem?_eq_getElem→zw,getElem?_eq_some_iff→zv,getElem?_append_left→zu,map_append→zs,map_congr_left→zp,length_append→zo,drop_eq_getElem_cons→zn,append_assoc→zm,length_cons→zl,append_nil→zj,mem_of_getElem?→zi,getElem_of_mem→zh,cons_append→zf
open Or renaming inr→zt,inl→zq
open Prod renaming snd→zz
namespace Go.Proofs.YthjhkgohninpcaaGreatDoor
open Go.RowKit Go.WideMaps Go.Shelf
set_option maxRecDepth 100000
variable{out:List (List Lt)}
theorem oX.none{l:List Pl}{b:Int}(a:oX l b)(c:∀i a,¬jK l i a):b=-1:=by
 rcases a with ⟨rfl,_⟩|⟨i,d,a,_⟩
 ·rfl
 ·exact absurd a (c i d)
theorem aFp{d:ByteArray}{e f:Int}(a:gI d out e f)(s:d.size<=3000){i:aY}{c:List (Nat×List Lt)}(p:qC d=.ok (i,c))(l:∀b a,¬jK i.pz b a)(n:∀b a,¬jB c b a):out=c.map (λq=>aU q.2)/\e=0/\f=0:=by
 rcases a with ⟨g,_⟩|⟨_,a⟩
 ·omega
 ·rw [p] at a;obtain ⟨t,g,j⟩:=a;have:=g.none l;subst this;rcases j with ⟨r,_⟩|⟨_,k⟩
  ·omega
  ·rcases k with ⟨b,o,m,_⟩|⟨_,rfl,rfl,rfl⟩
   ·exact absurd m (n b o)
   ·exact ⟨rfl,rfl,rfl⟩
def pN:Nd:=(⟨#[112]⟩,0)
theorem aMl:qC ⟨#[112,46,32,126,112,46]⟩=.ok (⟨5,[],[(⟨#[112]⟩,true,0,0),(⟨#[112]⟩,true,0,4)]⟩,[(0,[(false,[pN])]),(3,[(true,[pN])])]):=by kernel_rfl
def cP:List Lt:=[(false,[pN])]
def eW:List Lt:=[(true,[pN])]
theorem aMm{c d:Int}(a:gI ⟨#[112,46,32,126,112,46]⟩ out c d):out=[cP,eW]/\c=0/\d=0:=by
 have:=aFp a (by decide) aMl (λb a=>by
  match b,a with
  |0,_=>simp [jK]
  |1,_=>
   simp only [jK,mB];rintro (a|⟨k,hk,h1,h2⟩)
   ·exact absurd a (by simp)
   ·obtain rfl:k=0:=by omega
    simp at h2) (λb a=>by
  match b,a with
  |0,_=>simp only [jB];exact not_or.2 ⟨by omega,λa=>zr (a.symm.trans (show cD (aU _)=true by kernel_rfl))⟩
  |1,_=>simp only [jB];exact not_or.2 ⟨by omega,λa=>zr (a.symm.trans (show cD (aU _)=true by kernel_rfl))⟩)
 rw [show [cP,eW]=[(0,[(false,[pN])]),(3,[(true,[pN])])].map (λp:Nat×List Lt=>aU p.2) by kernel_rfl];exact this
def rJ:List Nd:=[(⟨#[112]⟩,1),(⟨#[97]⟩,0)]
def rK:List Nd:=[(⟨#[112]⟩,1),(⟨#[]⟩,0)]
theorem bAt:qC ⟨#[112,40,97,41,46,32,126,112,40,88,41,46]⟩=.ok (⟨11,[⟨#[88]⟩],[(⟨#[112]⟩,true,1,0),(⟨#[97]⟩,false,0,2),(⟨#[112]⟩,true,1,7)]⟩,[(0,[(false,rJ)]),(6,[(true,rK)])]):=by kernel_rfl
theorem bAu{c d:Int}(a:gI ⟨#[112,40,97,41,46,32,126,112,40,88,41,46]⟩ out c d):out=[[(false,rJ)],[(true,rK)]]/\c=0/\d=0:=by
 have:=aFp a (by decide) bAt (λb a=>by
  match b,a with
  |0,_=>simp [jK]
  |1,_=>
   simp only [jK,mB];rintro (a|⟨k,hk,h1,h2⟩)
   ·exact absurd a (by simp)
   ·obtain rfl:k=0:=by omega
    simp at h1
  |2,_=>
   simp only [jK,mB];rintro (a|⟨k,hk,h1,h2⟩)
   ·exact absurd a (by simp)
   ·match k,hk with
    |0,_=>simp at h2
    |1,_=>simp at h1) (λb a=>by
  match b,a with
  |0,_=>simp only [jB];exact not_or.2 ⟨by omega,λa=>zr (a.symm.trans (show cD (aU _)=true by kernel_rfl))⟩
  |1,_=>simp only [jB];exact not_or.2 ⟨by omega,λa=>zr (a.symm.trans (show cD (aU _)=true by kernel_rfl))⟩)
 rw [show [[(false,rJ)],[(true,rK)]]=[(0,[(false,rJ)]),(6,[(true,rK)])].map (λp:Nat×List Lt=>aU p.2) by kernel_rfl];exact this
theorem bAv{a:Nat->Nat->Prop}(l:∀d,a d d)(m:∀d f,a d f->a f d)(i:∀d f j,a d f->a f j->a d j):∃n:Nat->Nat,∀b c,n b=n c↔a b c:=by
 refine ⟨λb=>Classical.epsilon (a b),λb c=>⟨λe=>?_,λe=>?_⟩⟩
 ·have k:a b (Classical.epsilon (a b)):=Classical.epsilon_spec ⟨b,l b⟩;have o:a c (Classical.epsilon (a c)):=Classical.epsilon_spec ⟨c,l c⟩;have e:Classical.epsilon (a b)=Classical.epsilon (a c):=e;rw [e] at k;exact i _ _ _ k (m _ _ o)
 ·have:a b=a c:=funext λj=>propext ⟨λg=>i _ _ _ (m _ _ e) g,λg=>i _ _ _ e g⟩
  show Classical.epsilon (a b)=Classical.epsilon (a c);rw [this]
theorem aFq(e:List Tg)(f g:Nat):∃d:Nat->Nat,∀b c,d b=d c↔bU e f g b c:=
 bAv (λi=>Cl.refl i) (λ_ _ a=>Cl.symm a) (λ_ _ _ a j=>Cl.trans a j)
def zR(a:Nd):Prop:=aM a=false/\bP a=0
theorem aMn{j:Nd}(J:zR j)(u v:Int)(c:List (Int×Lt))(s:∀a∈c,∃e,a.2.2=[e]/\zR e)(w:aR (aU (c.map zz))<=500):fL [(u,j),(v,j)] 0 1 c (aU (c.map zz)) true 0:=by
 have r:∀n∈[(u,j),(v,j)]++aK c,zR n.2:=by
  intro n hx;rcases List.mem_append.1 hx with hx|hx
  ·simp at hx;rcases hx with rfl|rfl<;>exact J
  ·obtain ⟨a,M,z⟩:=List.mem_flatMap.1 hx;obtain ⟨e,o,q⟩:=s a M;rw [o] at z;simp at z;subst z;exact q
 obtain ⟨b,i⟩ : ∃b,[(u,j),(v,j)]++aK c=b:=⟨_,rfl⟩;have p:∀d,(aF (b.map zz)).ch d=[]:=by
  intro d;unfold aF;simp only;cases hi:(b.map zz)[d]? with
  |none=>rfl
  |some e=>
   simp only;have q:e∈b.map zz:=zi hi;obtain ⟨n,hx,rfl⟩:=List.mem_map.1 q;rw [<-i] at hx;rw [(r n hx).2];rfl
 have t:∀d,bH b d=d:=by
  intro d;cases hi:b[d]? with
  |none=>exact rD (List.getElem?_eq_none_iff.1 hi)
  |some n=>exact pG hi (r n (by rw [i];exact zi hi)).1
 have x:∀d m,bU b 0 1 d m->(aF (b.map zz)).lab d=(aF (b.map zz)).lab m:=by
  intro d m f;induction f with
  |refl=>rfl
  |base f=>
   rcases f with f|⟨rfl,rfl⟩
   ·rw [t,t] at f;rw [f]
   ·unfold aF;rw [<-i];rfl
  |symm _ ih=>exact ih.symm
  |trans _ _ ih1 ih2=>exact ih1.trans ih2
  |down _ _ _ f=>rw [p] at f;simp at f
 obtain ⟨C,A⟩:=aFq b 0 1;refine zt ⟨⟨λd m f _ _=>?_,λB _=>⟨B,λm _ _ P E=>?_⟩⟩,C,c.map (λa=>a.2.2),?_,?_,zt ⟨?_,?_,rfl,rfl⟩⟩
 ·rw [i] at f ⊢;exact x d m f
 ·rw [i,p] at E;cases E
 ·rw [i];exact A
 ·rw [i];have N:∀(g:List (Int×Lt)) (k:List Tg),k++aK g=b->(∀a∈g,∃e,a.2.2=[e]/\zR e)->aO (λB l=>aS (aF (b.map zz)) (bU b 0 1) C [B] l) (bE k.length g) (g.map (λa=>a.2.2)):=by
   intro g;induction g with
   |nil=>intro _ _ _;exact aO.nil
   |cons a g ih=>
    intro k y F;obtain ⟨e,o,q⟩:=F a (by simp);have L:aK (a::g)=(a.1,e)::aK g:=by simp [aK,o]
    rw [L] at y;have I:(b.map zz)[k.length]?=some e:=by rw [<-y];simp
    refine aO.cons ?_ ?_
    ·show aS _ _ _ _ a.2.2;rw [o];have D:(aF (b.map zz)).lab k.length=e:=by unfold aF;simp only [I,Option.getD_some]
     have:=aS.name (G:=aF (b.map zz)) (R:=bU b 0 1) (rep:=C) (i:=k.length) (j:=k.length) (r:=[]) (l:=[]) (Cl.refl _) (by unfold Gr.named;rw [D];exact q.1) (by rw [p];exact aS.nil);rwa [D] at this
    ·have:=ih (k++[(a.1,e)]) (by rw [<-y];simp) (λO H=>F O (by simp [H]));simpa [o] using this
  exact N c [(u,j),(v,j)] i s
 ·have:dC c (c.map λa=>a.2.2)=c.map zz:=by
   unfold dC;clear r i p t x A s w;induction c with
   |nil=>rfl
   |cons a g ih=>simp at ih ⊢;exact ih
  rw [this];exact w
 ·have:dC c (c.map λa=>a.2.2)=c.map zz:=by
   unfold dC;clear r i p t x A s w;induction c with
   |nil=>rfl
   |cons a g ih=>simp at ih ⊢;exact ih
  rw [this]
def jG:List Tg:=aQ 0 rJ++aQ 1 rK
theorem bAw:fL (aQ 0 rJ++aQ 1 rK) 0 2 [] [] true 0:=by
 have r:(aF (jG.map zz)).ch 0=[1]:=by kernel_rfl
 have s:(aF (jG.map zz)).ch 1=[]:=by kernel_rfl
 have t:(aF (jG.map zz)).ch 2=[3]:=by kernel_rfl
 have u:(aF (jG.map zz)).ch 3=[]:=by kernel_rfl
 have v:∀i,(aF (jG.map zz)).ch (i+4)=[]:=λi=>rfl
 have d:∀i b c:Nat,((aF (jG.map zz)).ch i)[b]?=some c->(i=0\/i=2)/\(c=1\/c=3):=by
  intro i b c h;match i with
  |0=>
   rw [r] at h;cases b with
   |zero=>simp at h;omega
   |succ b=>simp at h
  |1=>rw [s] at h;simp at h
  |2=>
   rw [t] at h;cases b with
   |zero=>simp at h;omega
   |succ b=>simp at h
  |3=>rw [u] at h;simp at h
  |i+4=>rw [v] at h;simp at h
 have A:bH jG 0=0:=by kernel_rfl
 have B:bH jG 1=1:=by kernel_rfl
 have C:bH jG 2=2:=by kernel_rfl
 have D:bH jG 3=3:=by kernel_rfl
 have o:∀i,bH jG i=i:=λi=>by
  match i with
  |0=>exact A
  |1=>exact B
  |2=>exact C
  |3=>exact D
  |i+4=>rfl
 have n:∀i a,bU jG 0 2 i a->i=a\/(i<4/\a<4/\i % 2=a % 2):=by
  intro i a h;induction h with
  |refl=>exact zq rfl
  |base h=>
   rcases h with h|⟨rfl,rfl⟩
   ·rw [o,o] at h;exact zq h
   ·exact zt (by omega)
  |symm _ ih=>omega
  |trans _ _ ih1 ih2=>omega
  |down _ _ _ h1 h2=>
   obtain ⟨_,F⟩:=d _ _ _ h1;obtain ⟨_,G⟩:=d _ _ _ h2;omega
 have q:¬(aF (jG.map zz)).named 3:=λh=>zr (h.symm.trans (show aM ((aF (jG.map zz)).lab 3)=true by kernel_rfl))
 have p:(aF (jG.map zz)).lab 0=(aF (jG.map zz)).lab 2:=by kernel_rfl
 have w:∀i,i=1\/i=3->bK (aF (jG.map zz)) (bU jG 0 2) i:=λi l=>⟨i,λa e _ g f=>by
  obtain ⟨b,m,j⟩:=zh f;have:=d a b g (by rw [zw m,j]);have:=n _ _ e;omega⟩
 obtain ⟨E,z⟩:=aFq jG 0 2;have k:aQ 0 rJ++aQ 1 rK++aK []=jG:=by simp [aK,jG]
 refine zt ⟨⟨λi a h l e=>?_,λc _=>⟨c,λa _ _ g f=>?_⟩⟩,E,[],?_,aO.nil,zt ⟨by simp [dC,aR];decide,rfl,rfl,rfl⟩⟩
 ·rw [k] at h l e ⊢;rcases n _ _ h with rfl|h
  ·rfl
  ·have x:i=0\/i=1\/i=2\/i=3:=by omega
   have y:a=0\/a=1\/a=2\/a=3:=by omega
   rcases x with rfl|rfl|rfl|rfl<;>rcases y with rfl|rfl|rfl|rfl<;>first|rfl|exact p|exact p.symm|exact absurd e q|exact absurd l q|omega
 ·rw [k] at f ⊢;obtain ⟨b,m,j⟩:=zh f;exact w g (d a b g (by rw [zw m,j])).2
 ·rw [k];exact z
def rL(a:Gr)(R:Nat->Nat->Prop)(rep:Nat->Nat)(c d:Nat):Prop:=c=d\/∃b,aS a R rep [c] b/\aS a R rep [d] b
theorem aMo{c:List Nd}{g:Nat->Nat->Prop}{e:Nat->Nat}{f:List Nat}{b:List Nd}(k:aS (aF c) g e f b):∀a,aN (b++a) f.length=b.length:=by
 induction k with
 |nil=>intro a;simp
 |@var i r b _ _ ih=>
  intro a;have m:=mO (nJ (e i:Int));simp only [zf,zl,aN,m,Nat.add_zero,ih a];omega
 |@name i j r b _ h2 _ ih=>
  intro a;obtain ⟨n,d,_⟩:=kM h2;have l:((aF c).ch j).length=bP n:=by rw [fX d,tV]
  have:=ih a;rw [zo,l] at this;rw [mG d];simp only [zf,zl,aN];rw [Nat.add_comm r.length,this];omega
section
variable {L:List Nd}{R:Nat->Nat->Prop}{rep:Nat->Nat}
theorem bAx:∀(e c:List Nat) (i:List Nd),aS (aF L) R rep e i->aS (aF L) R rep c i->e.length=c.length->∀(d f g:Nat),e[d]?=some f->c[d]?=some g->∃q,aS (aF L) R rep [f] q/\aS (aF L) R rep [g] q:=by
 intro e;induction e with
 |nil=>intro c i _ _ _ d f g w;simp at w
 |cons a e ih=>
  intro c i x y p d f g k l;cases c with
  |nil=>simp at p
  |cons b c=>
   obtain ⟨r,s,rfl,m,t⟩:=x.split [a] e rfl;obtain ⟨B,C,j,n,u⟩:=y.split [b] c rfl;have v:=aMo m s;have o:=aMo n C;rw [<-j] at o;simp only [zl,List.length_nil] at v o;have A:r=B:=List.append_inj_left j (by omega);subst A;have z:=List.append_cancel_left j;subst z;cases d with
   |zero=>
    simp at k l;subst k l;exact ⟨r,m,n⟩
   |succ d=>exact ih c s t u (by simpa using p) d f g (by simpa using k) (by simpa using l)
theorem bAy{b c:List Nat}(i:aO (λk l=>∃a,aS (aF L) R rep [k] a/\aS (aF L) R rep [l] a) b c):∃a,aS (aF L) R rep b a/\aS (aF L) R rep c a:=by
 induction i with
 |nil=>exact ⟨[],aS.nil,aS.nil⟩
 |cons h1 _ ih=>
  obtain ⟨a,d,e⟩:=h1;obtain ⟨j,f,g⟩:=ih;exact ⟨a++j,d.append f,e.append g⟩
theorem zS(b:fH (aF L) R)(f:eS (aF L) R)(j:∀a c,R a c->rep a=rep c){a:Nat}{g:List Nd}(e:(aF L).named a)(i:aS (aF L) R rep [a] g):∃d,g=(aF L).lab a::d/\aS (aF L) R rep ((aF L).ch a) d:=by
 cases i with
 |var h1 _=>exact absurd e (h1 a (b.refl a))
 |@name _ c _ d h1 h2 h3=>
  rw [zj] at h3;refine ⟨d,by rw [f a c h1 e h2],h3.same b j _ (wN b f (qJ L) (b.symm _ _ h1) h2 e)⟩
theorem bAz(i:fH (aF L) R)(f:eS (aF L) R)(j:∀a d,R a d->rep a=rep d):fH (aF L) (rL (aF L) R rep) where
 refl a:=zq rfl
 symm a d h:=by
  rcases h with rfl|⟨e,b,c⟩
  ·exact zq rfl
  ·exact zt ⟨e,c,b⟩
 trans a d k h g:=by
  rcases h with rfl|⟨e,b,c⟩
  ·exact g
  ·rcases g with rfl|⟨m,r,s⟩
   ·exact zt ⟨e,b,c⟩
   ·have:=c.one i f (qJ L) j _ r;subst this;exact zt ⟨e,b,s⟩
 down a d k p q h hi hj hp hq:=by
  rcases h with rfl|⟨e,b,c⟩
  ·rw [hp] at hq;simp at hq;exact zq hq
  ·obtain ⟨m,rfl,n⟩:=zS i f j hi b;obtain ⟨u,l,o⟩:=zS i f j hj c;simp at l;obtain ⟨t,rfl⟩:=l;exact zt (bAx _ _ m n o (qJ L a d hi hj t) k p q hp hq)
theorem aMp(g:fH (aF L) R){a c:Nat}(k:rL (aF L) R rep a c)(i:∀b,R a b->¬(aF L).named b):¬(aF L).named c/\(rep a:Int)=rep c:=by
 rcases k with rfl|⟨l,j,d⟩
 ·exact ⟨i _ (g.refl _),rfl⟩
 ·cases j with
  |name h1 h2 _=>exact absurd h2 (i _ h1)
  |var _ h2=>
   cases h2;generalize e:([((⟨#[]⟩ : ByteArray),(rep a:Int))]:List Nd)=l at d;cases d with
   |var h3 h4=>
    cases h4;simp at e;exact ⟨h3 _ (g.refl _),by omega⟩
   |@name _ b _ _ h3 h4 _=>
    simp at e;have f:aM ((aF L).lab b)=false:=h4;rw [<-e.1,nJ] at f;cases f
end
section
variable {L N:List Nd}{R R1:Nat->Nat->Prop}{rep rep1:Nat->Nat}{f:Nat->Nat}
structure oJ(L N:List Nd)(R R1:Nat->Nat->Prop)(rep:Nat->Nat)(f:Nat->Nat):Prop where
 at':∀p,L[p]?=N[f p]?
 ch:∀p,(aF L).named p->(aF N).ch (f p)=((aF L).ch p).map f
 onto:∀r,∃p,f p=r
 fwd:∀p q,R p q->R1 (f p) (f q)
 bck:∀p q,R1 (f p) (f q)->rL (aF L) R rep p q
 lt:∀p,p<L.length↔f p<N.length
theorem oJ.lab(b:oJ L N R R1 rep f)(a:Nat):(aF L).lab a=(aF N).lab (f a):=by show (L[a]?).getD _=(N[f a]?).getD _;rw [b.at']
theorem oJ.named(a:oJ L N R R1 rep f)(p:Nat):(aF L).named p↔(aF N).named (f p):=by unfold Gr.named;rw [a.lab]
theorem oJ.clash(a:oJ L N R R1 rep f)(d:fH (aF L) R)(c:eS (aF L) R)(g:∀j k,R j k->rep j=rep k):eS (aF N) R1:=by
 intro q r n e i;obtain ⟨o,rfl⟩:=a.onto q;obtain ⟨p,rfl⟩:=a.onto r;rw [<-a.named] at e i;rw [<-a.lab,<-a.lab];rcases a.bck o p n with rfl|⟨s,l,m⟩
 ·rfl
 ·obtain ⟨t,rfl,_⟩:=zS d c g e l;obtain ⟨u,b,_⟩:=zS d c g i m;simp at b;exact b.1
theorem oJ.ends(b:oJ L N R R1 rep f)(i:fH (aF L) R)(g:eS (aF L) R)(o:∀r j,R r j->rep r=rep j):∀(n p:Nat) (a:List Nd),aS (aF L) R rep [p] a->a.length<=n->bK (aF N) R1 (f p):=by
 intro n;induction n with
 |zero=>
  intro p a c k;have:=c.pos;omega
 |succ n ih=>
  intro p a c k;refine ⟨_,λF B A x q=>?_⟩;obtain ⟨d,rfl⟩:=b.onto F;have m:=(b.named d).2 A;rw [b.ch d m] at q;obtain ⟨e,C,rfl⟩:=List.mem_map.1 q;have z:aS (aF L) R rep [d] a:=by
   rcases b.bck p d B with rfl|⟨D,t,u⟩
   ·exact c
   ·rw [c.one i g (qJ L) o _ t];exact u
  obtain ⟨D,rfl,l⟩:=zS i g o m z;obtain ⟨G,s,y⟩:=List.append_of_mem C;rw [y] at l;obtain ⟨H,I,rfl,_,v⟩:=l.split G (e::s) rfl;obtain ⟨E,J,rfl,w,_⟩:=v.split [e] s rfl;exact ih e E w (by simp at k;omega)
def CpV(L:List Nd)(R:Nat->Nat->Prop)(rep rep1:Nat->Nat)(f:Nat->Nat)(c d:Int):Prop:=∃a,(∀b,R a b->¬(aF L).named b)/\c=(rep a:Int)/\d=(rep1 (f a):Int)
theorem oJ.pairs(c:oJ L N R R1 rep f)(j:fH (aF L) R)(l:∀a b,rep a=rep b↔R a b)(d:∀a b,rep1 a=rep1 b↔R1 a b):lX (CpV L R rep rep1 f):=by
 rintro n p o q ⟨e,k,rfl,rfl⟩ ⟨g,m,rfl,rfl⟩;constructor
 ·intro i;have:=(d _ _).2 (c.fwd _ _ ((l e g).1 (by omega)));omega
 ·intro i;have:=c.bck _ _ ((d (f e) (f g)).1 (by omega));exact (aMp j this k).2
theorem oJ.exp(a:oJ L N R R1 rep f)(l:fH (aF L) R){g:List Nat}{c:List Nd}(k:aS (aF L) R rep g c):∃d,aS (aF N) R1 rep1 (g.map f) d/\aO (gZ (CpV L R rep rep1 f)) c d:=by
 induction k with
 |nil=>exact ⟨[],aS.nil,aO.nil⟩
 |@var i r c h1 _ ih=>
  obtain ⟨d,b,e⟩:=ih;refine ⟨_,aS.var (λq o m=>?_) b,aO.cons (zq ⟨nJ _,nJ _,rfl,i,h1,rfl,rfl⟩) e⟩;obtain ⟨p,rfl⟩:=a.onto q;have n:=(a.named p).2 m;exact (aMp l (a.bck _ _ o) h1).1 n
 |@name i j r c h1 h2 _ ih=>
  obtain ⟨d,b,e⟩:=ih;rw [zs,<-a.ch j h2] at b;exact ⟨_,aS.name (a.fwd _ _ h1) ((a.named j).1 h2) b,aO.cons (zt ⟨h2,a.lab j⟩) e⟩
end
section
variable {X Y Z:List Tg}
def dL(b c a:Nat):Nat:=if a<b then c+a else a-b
theorem aCa(b:Nat):(X++(Y++X++Z))[b]?=(Y++X++Z)[dL X.length Y.length b]?:=by
 unfold dL;by_cases a:b<X.length
 ·rw [aJ a,zu a,zm,zx (by omega),zu (by omega)];congr 1
  omega
 ·rw [aI a,zx (by omega)]
theorem xQ(c:dM (X.map zz)){a:Nat}(k:a<(X++(Y++X++Z)).length):(aF ((Y++X++Z).map zz)).ch (dL X.length Y.length a)=((aF ((X++(Y++X++Z)).map zz)).ch a).map (dL X.length Y.length):=by
 have m:(X.map zz).length=X.length:=by simp
 rw [zs (l₁:=X)];by_cases d:a<X.length
 ·have b:dL X.length Y.length a=(Y.map zz).length+a:=by unfold dL;rw [aJ d];simp
  rw [b,oB c (by omega),zs,zs,xH c (by omega)];refine zp λi g=>?_
  have e:(X.map zz)[a]?=some (X.map zz)[a]:=zw (by omega);rw [fX e] at g;have j:=(qI _ _ _ (c a _ e) i g).2;have f:aN ((X.map zz).drop a) 1<=((X.map zz).drop a).length:=nR _ _;rw [zn (by omega)] at f;simp [aN] at f;unfold dL;rw [aJ (by simp at j;omega)];simp;omega
 ·have b:dL X.length Y.length a=a-X.length:=by unfold dL;rw [aI d]
  have l:a=(X.map zz).length+(a-X.length):=by omega
  rw [b];conv=>rhs;rw [l,zG (by simp at k ⊢;omega)]
  rw [List.map_map];refine (List.map_id _).symm.trans (zp λi _=>?_);simp only [Function.comp,dL,m];rw [aI (by omega)];simp
theorem rM(b c a:Nat):dL b c (a+b)=a:=by unfold dL;rw [aI (by omega)];omega
theorem bB0{a d b c:Nat}(e:dL a d b=dL a d c):b=c\/(b<a/\c=b+a+d)\/(c<a/\b=c+a+d):=by unfold dL at e;split at e<;>split at e<;>omega
theorem bB1{c d:Nat}(e:zF (X++(Y++X++Z)) c d):zF (Y++X++Z) (dL X.length Y.length c) (dL X.length Y.length d):=by
 rcases e with rfl|⟨g,i,a,b,f⟩
 ·exact zq rfl
 ·rw [aCa] at a b;exact zt ⟨g,i,a,b,f⟩
theorem bB2{a b:Nat}(c:zF (Y++X++Z) a b):zF (X++(Y++X++Z)) (a+X.length) (b+X.length):=by
 rcases c with rfl|⟨g,i,d,e,f⟩
 ·exact zq rfl
 ·refine zt ⟨g,i,?_,?_,f⟩
  ·rw [zx (by omega),Nat.add_sub_cancel];exact d
  ·rw [zx (by omega),Nat.add_sub_cancel];exact e
variable (hX:dM (X.map zz))(hx:0<X.length)
include hX hx
theorem aMq{d:Nat->Nat}(J:∀n o,bU (X++(Y++X++Z)) 0 X.length n o->d n=d o)(F:∀a,a<(X++(Y++X++Z)).length->∃b,aS (aF ((X++(Y++X++Z)).map zz)) (bU (X++(Y++X++Z)) 0 X.length) d [a] b):∀(f a:Nat),a+f=X.length->a<X.length->∃b,aS (aF ((X++(Y++X++Z)).map zz)) (bU (X++(Y++X++Z)) 0 X.length) d [a] b/\aS (aF ((X++(Y++X++Z)).map zz)) (bU (X++(Y++X++Z)) 0 X.length) d [a+X.length+Y.length] b:=by
 intro f;induction f using Nat.strongRecOn with
 |_ f ih=>
  intro a N g;have s:(X++(Y++X++Z))[a]?=some X[a]:=by rw [zu g,zw g]
  have t:(X++(Y++X++Z))[a+X.length+Y.length]?=some X[a]:=by
   rw [zx (by omega),zm,zx (by omega),zu (by omega),<-zw g];congr 1
   omega
  cases hv:aM X[a].2 with
  |true=>
   obtain ⟨b,l⟩:=F a (by simp;omega);have H:bU (X++(Y++X++Z)) 0 X.length a (a+X.length+Y.length):=Cl.base (zq ((tW _ _ _).2 (zt ⟨_,_,s,t,hv,hv,rfl,rfl⟩)));exact ⟨b,l,l.same (Cl.isDown _ _) J _ (aO.cons H aO.nil)⟩
  |false=>
   have u:((X++(Y++X++Z)).map zz)[a]?=some X[a].2:=by rw [zy,s];rfl
   have v:((X++(Y++X++Z)).map zz)[a+X.length+Y.length]?=some X[a].2:=by rw [zy,t];rfl
   have A:=(fW u).2 hv;have B:=(fW v).2 hv;have O:(X.map zz).length=X.length:=by simp
   have y:(aF ((X++(Y++X++Z)).map zz)).ch a=(aF (X.map zz)).ch a:=by rw [zs];exact oB hX (by omega)
   have z:(aF ((X++(Y++X++Z)).map zz)).ch (a+X.length+Y.length)=((aF (X.map zz)).ch a).map (· + (X.length+Y.length)):=by
    have C:a+X.length+Y.length=(X.map zz++Y.map zz).length+a:=by simp;omega
    have D:(X++(Y++X++Z)).map zz=(X.map zz++Y.map zz)++X.map zz++Z.map zz:=by simp
    rw [C,D,xH hX (by omega)];simp
   have I:∀c∈(aF (X.map zz)).ch a,a<c/\c<X.length:=by intro c i;have j:(X.map zz)[a]?=some (X.map zz)[a]:=zw (by omega);rw [fX j] at i;have E:=qI _ _ _ (hX a _ j) c i;have k:aN ((X.map zz).drop a) 1<=((X.map zz).drop a).length:=nR _ _;rw [zn (by omega)] at k;simp [aN] at k;simp at E;omega
   have G:∀e:List Nat,(∀c∈e,a<c/\c<X.length)->aO (λw x=>∃b,aS (aF ((X++(Y++X++Z)).map zz)) (bU (X++(Y++X++Z)) 0 X.length) d [w] b/\aS (aF ((X++(Y++X++Z)).map zz)) (bU (X++(Y++X++Z)) 0 X.length) d [x] b) e (e.map (· + (X.length+Y.length))):=by
    intro e m;induction e with
    |nil=>exact aO.nil
    |cons c e ihx=>
     refine aO.cons ?_ (ihx λM L=>m M (by simp [L]));have i:=m c (by simp);have:=ih (X.length-c) (by omega) c (by omega) (by omega);rwa [Nat.add_assoc] at this
   obtain ⟨b,p,q⟩:=bAy (G _ I);rw [<-y] at p;rw [<-z] at q;refine ⟨X[a].2::b,?_,?_⟩
   ·have:=aS.name (rep:=d) (R:=bU (X++(Y++X++Z)) 0 X.length) (r:=[]) (Cl.refl a) A (by rw [zj];exact p);rwa [mG u] at this
   ·have:=aS.name (rep:=d) (R:=bU (X++(Y++X++Z)) 0 X.length) (r:=[]) (Cl.refl _) B (by rw [zj];exact q);rwa [mG v] at this
theorem aFs{b c:Nat}(d:bU (X++(Y++X++Z)) 0 X.length b c):bU (Y++X++Z) Y.length 0 (dL X.length Y.length b) (dL X.length Y.length c):=by
 refine Cl.le (R:=λb c=>bU (Y++X++Z) Y.length 0 (dL X.length Y.length b) (dL X.length Y.length c)) ⟨λ_=>Cl.refl _,λ_ _=>Cl.symm,λ_ _ _=>Cl.trans,?_⟩ ?_ d
 ·intro a r k b c i f m n o;have g:∀{a:Nat},(aF ((X++(Y++X++Z)).map zz)).named a->(aF ((Y++X++Z).map zz)).named (dL X.length Y.length a)/\a<(X++(Y++X++Z)).length:=by
   intro a f;obtain ⟨u,e,j⟩:=kM f;have l:=(zv.1 e).1;rw [zy,aCa,<-zy] at e;exact ⟨(fW e).2 j,by simpa using l⟩
  obtain ⟨p,q⟩:=g f;obtain ⟨s,t⟩:=g m;exact Cl.down (k:=k) i p s (by rw [xQ hX q,zy,n];rfl) (by rw [xQ hX t,zy,o];rfl)
 ·rintro a r (d|⟨rfl,rfl⟩)
  ·exact Cl.base (zq ((tW _ _ _).2 (bB1 ((tW _ _ _).1 d))))
  ·refine Cl.base (zt ⟨?_,?_⟩)
   ·unfold dL;rw [aJ hx];rfl
   ·unfold dL;rw [aI (by omega)];omega
theorem bB3(O:eS (aF ((X++(Y++X++Z)).map zz)) (bU (X++(Y++X++Z)) 0 X.length)){rep:Nat->Nat}(o:∀c k,bU (X++(Y++X++Z)) 0 X.length c k->rep c=rep k)(v:∀a,a<(X++(Y++X++Z)).length->∃m,aS (aF ((X++(Y++X++Z)).map zz)) (bU (X++(Y++X++Z)) 0 X.length) rep [a] m)
  {a b:Nat} (d:bU (Y++X++Z) Y.length 0 (dL X.length Y.length a) (dL X.length Y.length b)):rL (aF ((X++(Y++X++Z)).map zz)) (bU (X++(Y++X++Z)) 0 X.length) rep a b:=by
 have e:=bAz (rep:=rep) (Cl.isDown _ _) O o;have j:∀a b,dL X.length Y.length a=dL X.length Y.length b->rL (aF ((X++(Y++X++Z)).map zz)) (bU (X++(Y++X++Z)) 0 X.length) rep a b:=by
  intro a b l;rcases bB0 l with rfl|⟨i,rfl⟩|⟨i,rfl⟩
  ·exact zq rfl
  ·exact zt (aMq hX hx o v (X.length-a) a (by omega) i)
  ·obtain ⟨m,r,s⟩:=aMq hX hx o v (X.length-b) b (by omega) i;exact zt ⟨m,s,r⟩
 have z:∀a b,a<(X++(Y++X++Z)).length->bU (X++(Y++X++Z)) 0 X.length a b->rL (aF ((X++(Y++X++Z)).map zz)) (bU (X++(Y++X++Z)) 0 X.length) rep a b:=by intro a b Q J;obtain ⟨m,A⟩:=v a Q;exact zt ⟨m,A,A.same (Cl.isDown _ _) o _ (aO.cons J aO.nil)⟩
 have a0:∀F G,dL X.length Y.length F=dL X.length Y.length a->dL X.length Y.length G=dL X.length Y.length b->rL (aF ((X++(Y++X++Z)).map zz)) (bU (X++(Y++X++Z)) 0 X.length) rep F G:=by
  refine Cl.le (R:=λp q=>∀a b,dL X.length Y.length a=p->dL X.length Y.length b=q->rL (aF ((X++(Y++X++Z)).map zz)) (bU (X++(Y++X++Z)) 0 X.length) rep a b) ⟨?_,?_,?_,?_⟩ ?_ d
  ·rintro c a b rfl l;exact j _ _ l.symm
  ·intro c k d a b f g;exact e.symm _ _ (d b a g f)
  ·intro c k D d L a b f g;exact e.trans _ _ _ (d a (k+X.length) f (rM _ _ _)) (L (k+X.length) b (rM _ _ _) g)
  ·intro c k D p q d w P B C a b f g;have E:∀{c:Nat},(aF ((Y++X++Z).map zz)).named c->(aF ((X++(Y++X++Z)).map zz)).named (c+X.length)/\c+X.length<(X++(Y++X++Z)).length:=by
    intro c w;obtain ⟨a1,i,t⟩:=kM w;have n:=(zv.1 i).1;have u:((X++(Y++X++Z)).map zz)[c+X.length]?=some a1:=by rw [zs (l₁:=X),zx (by simp)];simpa using i
    exact ⟨(fW u).2 t,by simp at n ⊢;omega⟩
   obtain ⟨T,U⟩:=E w;obtain ⟨V,W⟩:=E P;have x:=xQ hX U;have y:=xQ hX W;rw [rM] at x y;rw [x,zy,Option.map_eq_some_iff] at B;rw [y,zy,Option.map_eq_some_iff] at C;obtain ⟨H,a2,a3⟩:=B;obtain ⟨I,a4,a5⟩:=C;have S:=e.down _ _ D H I (d _ _ (rM _ _ _) (rM _ _ _)) T V a2 a4;exact e.trans _ _ _ (e.trans _ _ _ (j a H (by rw [f,a3])) S) (j I b (by rw [g,a5]))
  ·rintro p q (d|⟨rfl,rfl⟩) a b f g
   ·have t:=bB2 ((tW _ _ _).1 d);have:rL (aF ((X++(Y++X++Z)).map zz)) (bU (X++(Y++X++Z)) 0 X.length) rep (p+X.length) (q+X.length):=by
     rcases t with l|⟨r,s,n,u,N⟩
     ·exact zq l
     ·exact z _ _ (zv.1 n).1 (Cl.base (zq ((tW _ _ _).2 (zt ⟨r,s,n,u,N⟩))))
    exact e.trans _ _ _ (e.trans _ _ _ (j a _ (by rw [f,rM])) this) (j _ b (by rw [g,rM]))
   ·have M:dL X.length Y.length 0=Y.length:=by unfold dL;rw [aJ hx];rfl
    have i:dL X.length Y.length X.length=0:=by unfold dL;rw [aI (by omega)];omega
    have:rL (aF ((X++(Y++X++Z)).map zz)) (bU (X++(Y++X++Z)) 0 X.length) rep 0 X.length:=z _ _ (by simp;omega) (Cl.base (zt ⟨rfl,rfl⟩));exact e.trans _ _ _ (e.trans _ _ _ (j a 0 (by rw [f,M])) this) (j _ b (by rw [g,i]))
 exact a0 a b rfl rfl
end
theorem bB4{T:List Tg}{d e:List (Int×Lt)}{r:Int×Lt}(a4:∀g∈d,bA g.2.2 1=true)(a5:∀g∈e,bA g.2.2 1=true)(H:bA r.2.2 1=true){out:List Lt}{a0:Bool}{Q:Int}
  (C:fL T (T.length+(aK d).length) 0 (d++r::e) out a0 Q):fL (aQ r.1 r.2.2++T) 0 r.2.2.length (d++r::e) out a0 Q:=by
 obtain ⟨a,v⟩ : ∃a,aQ r.1 r.2.2=a:=⟨_,rfl⟩;have W:r.2.2.length=a.length:=by rw [<-v];simp [aQ]
 have hx:0<a.length:=by rw [<-W];exact kA H
 have n:dM (a.map zz):=by rw [<-v,sQ];exact qH H
 have b9:∀g∈d++r::e,bA g.2.2 1=true:=by
  intro g hx;simp only [List.mem_append,List.mem_cons] at hx;rcases hx with hx|rfl|hx
  ·exact a4 g hx
  ·exact H
  ·exact a5 g hx
 have B:T++aK (d++r::e)=(T++aK d)++a++aK e:=by rw [qS,rH,v];simp
 have a3:a++T++aK (d++r::e)=a++((T++aK d)++a++aK e):=by rw [zm,B]
 have a6:(T++aK d).length=T.length+(aK d).length:=by simp
 have b7:bE (a++T).length (d++r::e)=(bE T.length (d++r::e)).map (· + a.length):=by rw [uD _ (a++T).length,uD _ T.length,List.map_map];apply zp;intro c7 _;simp;omega
 unfold fL at C ⊢;rw [v,W,b7];rw [B,<-a6] at C;rw [a3];generalize hYe:T++aK d=Y at *;generalize hZe:aK e=Z at *;obtain ⟨j,J⟩:=aFq (a++(Y++a++Z)) 0 a.length;have I:∀k i,bU (a++(Y++a++Z)) 0 a.length k i->j k=j i:=λk i c=>(J k i).2 c
 have R:qP (a++(Y++a++Z)) 0 a.length->oJ ((a++(Y++a++Z)).map zz) ((Y++a++Z).map zz) (bU (a++(Y++a++Z)) 0 a.length) (bU (Y++a++Z) Y.length 0) j (dL a.length Y.length):=by
  rintro ⟨z,A⟩;have a7:∀b,b<(a++(Y++a++Z)).length->∃l,aS (aF ((a++(Y++a++Z)).map zz)) (bU (a++(Y++a++Z)) 0 a.length) j [b] l:=λb f=>(A b f).exp
  refine ⟨λb=>?_,λb f=>?_,λm=>⟨m+a.length,rM _ _ _⟩,λb M c=>aFs n hx c,λb M c=>bB3 n hx z I a7 c,λb=>?_⟩
  ·rw [zy,aCa,zy]
  ·obtain ⟨q,x,_⟩:=kM f;have:=(zv.1 x).1;exact xQ n (by simpa using this)
  ·simp only [List.length_map,zo];unfold dL;split<;>omega
 have c2:qP (Y++a++Z) Y.length 0->qP (a++(Y++a++Z)) 0 a.length:=by
  rintro ⟨z,A⟩;have F:∀b,(aF ((a++(Y++a++Z)).map zz)).lab b=(aF ((Y++a++Z).map zz)).lab (dL a.length Y.length b):=by intro b;show (_:Option Nd).getD _=(_:Option Nd).getD _;rw [zy,aCa,zy]
  have G:∀b,(aF ((a++(Y++a++Z)).map zz)).named b->(aF ((Y++a++Z).map zz)).named (dL a.length Y.length b):=by intro b f;unfold Gr.named at f ⊢;rw [<-F];exact f
  refine ⟨λk i c b0 E=>?_,?_⟩
  ·rw [F,F];exact z _ _ (aFs n hx c) (G k b0) (G i E)
  ·have a8:∀m,bK (aF ((Y++a++Z).map zz)) (bU (Y++a++Z) Y.length 0) m->∀b,dL a.length Y.length b=m->bK (aF ((a++(Y++a++Z)).map zz)) (bU (a++(Y++a++Z)) 0 a.length) b:=by
    intro m a9;induction a9 with
    |mk m _ ih=>
     rintro b rfl;refine ⟨_,λi E U X c1=>?_⟩;obtain ⟨q,x,_⟩:=kM U;have b2:=(zv.1 x).1;refine ih _ (aFs n hx E) (G i U) (dL a.length Y.length X) ?_ X rfl;rw [xQ n (by simpa using b2)];exact List.mem_map_of_mem c1
   intro b f;refine a8 _ (A (dL a.length Y.length b) ?_) b rfl;simp only [zo] at f ⊢;unfold dL;split<;>omega
 have b5:qP (a++(Y++a++Z)) 0 a.length->qP (Y++a++Z) Y.length 0:=by intro c;have t:=R c;refine ⟨t.clash (Cl.isDown _ _) c.1 I,λm c0=>?_⟩;obtain ⟨l,b3⟩:=(c.2 (m+a.length) (by simp at c0 ⊢;omega)).exp (rep:=j);have:=t.ends (Cl.isDown _ _) c.1 I l.length _ l b3 (Nat.le_refl _);rwa [rM] at this
 rcases C with ⟨q,rfl,rfl,rfl⟩|⟨q,N,o,O,a1,P⟩
 ·exact zq ⟨λc=>q (b5 c),rfl,rfl,rfl⟩
 ·have c:=c2 q;have t:=R c;have c5:∀(s:List Nat) (o:List (List Nd)),(∀b∈s,b<(Y++a++Z).length)->aO (λb l=>aS (aF ((Y++a++Z).map zz)) (bU (Y++a++Z) Y.length 0) N [b] l) s o->∃p,aO (λb u=>aS (aF ((a++(Y++a++Z)).map zz)) (bU (a++(Y++a++Z)) 0 a.length) j [b] u) (s.map (· + a.length)) p/\aO (λu l=>aO (gZ (CpV ((a++(Y++a++Z)).map zz) (bU (a++(Y++a++Z)) 0 a.length) j N (dL a.length Y.length))) u l) p o:=by
   intro s;induction s with
   |nil=>
    intro o _ D;cases D;exact ⟨[],aO.nil,aO.nil⟩
   |cons b s ih=>
    intro o V D;cases D with
    |cons y hy=>
     obtain ⟨p,c3,c4⟩:=ih _ (λM b8=>V M (by simp [b8])) hy;have f:=V b (by simp);obtain ⟨u,S⟩:=(c.2 (b+a.length) (by simp at f ⊢;omega)).exp (rep:=j);obtain ⟨c6,w,L⟩:=t.exp (rep1:=N) (Cl.isDown _ _) S;simp only [List.map_cons,List.map_nil,rM] at w;have a2:=w.one (Cl.isDown _ _) q.1 (qJ _) (λk i b1=>(O k i).2 b1) _ y;subst a2;exact ⟨u::p,aO.cons S c3,aO.cons L c4⟩
  have b4:∀g∈d++r::e,0<g.2.2.length:=λg hx=>kA (b9 g hx)
  obtain ⟨p,w,L⟩:=c5 (bE T.length (d++r::e)) o (λb f=>by have:=vU _ _ b4 b f;rw [<-B];simp;omega) a1;have b6:=aBs (t.pairs (Cl.isDown _ _) J O) (aBu (d++r::e) L);rw [<-b6] at P;exact zt ⟨c,j,p,J,w,P⟩
