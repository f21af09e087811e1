import Derived.Test.YtmelidkanelpbaaGreatDoorONumberH
import Derived.Test.YtmelidkanelpbaaGreatDoorUAppH
open List renaming getElem?_eq_some_iff→zz,getElem?_eq_getElem→zy,getElem?_append_left→zx,getElem?_append_right→zw,getElem?_eq_none→zv,length_cons→zu,reverse_cons→zt,reverse_reverse→zr,findIdx_append→zq,length_append→zp,getElem?_map→zo
open Nat renaming add_comm→zs,add_zero→zn
namespace Go.Proofs.YtmelidkanelpbaaGreatDoor
open Go.RowKit Go.Shelf Go.WideMaps
set_option maxRecDepth 100000
variable{L:List Nd}{M:List Tg}{p:Nat}
theorem cE.iff{e:Gr}{c d:Nat->Nat->Prop}(g:∀a b,c a b↔d a b){a:Nat}:cE e c a↔cE e d a:=by
 have f:c=d:=by funext a b;exact propext (g a b)
 rw [f]
def bJ(M:List Tg)(p:Nat):Nat:=match M[p]? with|some t=>if aL t.2 then M.findIdx (fG t.1 t.2.2) else p|none=>p
theorem pY(a:M.length<=p):bJ M p=p:=by unfold bJ;rw [zv a]
theorem lI{a:Tg}(b:M[p]?=some a)(c:aL a.2=false):bJ M p=p:=by unfold bJ;rw [b];simp [c]
theorem kE{a:Tg}(d:M[p]?=some a)(f:aL a.2=true):bJ M p=M.findIdx (fG a.1 a.2.2)/\bJ M p<=p/\∃c,M[bJ M p]?=some c/\aL c.2=true/\c.1=a.1/\c.2.2=a.2.2:=by
 have j:=(zz.1 d).1;have g:M[p]=a:=(zz.1 d).2;have i:fG a.1 a.2.2 a=true:=by simp [fG,f]
 have e:bJ M p=M.findIdx (fG a.1 a.2.2):=by unfold bJ;rw [d];simp [f]
 have k:M.findIdx (fG a.1 a.2.2)<=p:=by apply Nat.le_of_not_lt;intro b;have:=List.not_of_lt_findIdx b;rw [g,i] at this;cases this
 have b:M.findIdx (fG a.1 a.2.2)<M.length:=by omega
 refine ⟨e,by omega,M[M.findIdx (fG a.1 a.2.2)],by rw [e];exact zy b,?_⟩;have:=List.findIdx_getElem (w:=b);simpa [fG] using this
def bAr(M:List Tg)(p c:Nat):Prop:=p=c\/∃a b,M[p]?=some a/\M[c]?=some b/\aL a.2=true/\aL b.2=true/\a.1=b.1/\a.2.2=b.2.2
theorem bAs(M:List Tg)(p b:Nat):bJ M p=bJ M b↔bAr M p b:=by
 constructor
 ·intro d;by_cases k:∃f,M[p]?=some f/\aL f.2=true
  ·obtain ⟨f,r,t⟩:=k;obtain ⟨A,B,z,e,w,x,y⟩:=kE r t;by_cases c:∃a,M[b]?=some a/\aL a.2=true
   ·obtain ⟨a,i,j⟩:=c;obtain ⟨u,v,s,g,m,n,o⟩:=kE i j;rw [d,g] at e;simp at e;subst e;exact Or.inr ⟨f,a,r,i,t,j,by rw [<-x,n],by rw [<-y,o]⟩
   ·exfalso;have l:bJ M b=b:=by
     cases hm:M[b]? with
     |none=>exact pY (by simpa using hm)
     |some a=>
      refine lI hm ?_;cases hv:aL a.2
      ·rfl
      ·exact absurd ⟨a,hm,hv⟩ c
    rw [d,l] at e;exact c ⟨z,e,w⟩
  ·have q:bJ M p=p:=by
    cases hm:M[p]? with
    |none=>exact pY (by simpa using hm)
    |some a=>
     refine lI hm ?_;cases hv:aL a.2
     ·rfl
     ·exact absurd ⟨a,hm,hv⟩ k
   by_cases c:∃a,M[b]?=some a/\aL a.2=true
   ·obtain ⟨a,i,j⟩:=c;obtain ⟨u,v,s,g,m,n,o⟩:=kE i j;rw [<-d,q] at g;exact absurd ⟨s,g,m⟩ k
   ·have l:bJ M b=b:=by
     cases hm:M[b]? with
     |none=>exact pY (by simpa using hm)
     |some a=>
      refine lI hm ?_;cases hv:aL a.2
      ·rfl
      ·exact absurd ⟨a,hm,hv⟩ c
    rw [q,l] at d;exact Or.inl d
 ·rintro (rfl|⟨f,a,h1,h2,h3,h4,h5,h6⟩)
  ·rfl
  ·rw [(kE h1 h3).1,(kE h2 h4).1,h5,h6]
def sC(M:List Tg):List Nat:=(List.range M.length).map λp=>bJ M p
theorem mZ(M:List Tg):(sC M).length=M.length:=by simp [sC]
theorem vF(a:p<M.length):(sC M)[p]?=some (bJ M p):=by simp [sC,a]
theorem aBl{b:List Tg}(c:p<M.length):bJ (M++b) p=bJ M p:=by
 have a:M[p]?=some M[p]:=zy c;have d:(M++b)[p]?=some M[p]:=by rw [zx c,a]
 cases hv:aL M[p].2
 ·rw [lI a hv,lI d hv]
 ·obtain ⟨e,f,l,g,i,j,k⟩:=kE a hv;rw [(kE d hv).1,e,zq,aH (by omega)]
theorem bAt(b:p<M.length):nY (M.take p) M[p].1 M[p].2=bJ M p:=by
 have d:M[p]?=some M[p]:=zy b;have a:(M.take p).length=p:=by simp;omega
 unfold nY;rw [a];cases hv:aL M[p].2
 ·rw [lI d hv];rfl
 ·obtain ⟨e,j,_⟩:=kE d hv;rw [aH rfl,e];have i:M=M.take p++M.drop p:=(List.take_append_drop p M).symm;have g:M.findIdx (fG M[p].1 M[p].2.2)=if (M.take p).findIdx (fG M[p].1 M[p].2.2)<(M.take p).length then (M.take p).findIdx (fG M[p].1 M[p].2.2) else (M.drop p).findIdx (fG M[p].1 M[p].2.2)+(M.take p).length:=by
   generalize fG M[p].1 M[p].2.2=f;conv=>lhs;rw [i]
   rw [zq]
  unfold jQ;rw [g,a];split
  ·rename_i c;rw [List.findIdx?_eq_some_iff_findIdx_eq.2 ⟨by rw [a];exact c,rfl⟩];rfl
  ·rename_i c;rw [List.findIdx?_eq_none_iff_findIdx_eq.2 (by have:=List.findIdx_le_length (xs:=M.take p) (p:=fG M[p].1 M[p].2.2);omega)];rw [List.drop_eq_getElem_cons b,List.findIdx_cons];have:fG M[p].1 M[p].2.2 M[p]=true:=by simp [fG,hv]
   simp [this]
theorem aMf(M:List Tg)(c:Int)(b:List Nd):sC (M++b.map λa=>(c,a))=sC M++iS M c b b.length:=by
 apply List.ext_getElem?;intro p;by_cases d:p<M.length
 ·rw [vF (by simp;omega),zx (by rw [mZ];exact d),vF d,aBl d]
 ·rw [zw (by rw [mZ];omega),mZ];by_cases g:p-M.length<b.length
  ·have e:p<(M++b.map λa=>(c,a)).length:=by simp;omega
   rw [vF e,<-bAt e];have f:(M++b.map λa=>(c,a))[p]=(c,b[p-M.length]):=by rw [List.getElem_append_right (by omega)];simp
   rw [f];have i:(M++b.map λa=>(c,a)).take p=M++(b.take (p-M.length)).map λa=>(c,a):=by rw [List.take_append,List.take_of_length_le (by omega),List.map_take]
   rw [i];simp [iS,g]
  ·rw [zv (by rw [mZ];simp;omega),zv (by rw [aM2];omega)]
theorem aFe(M:List Tg):gG (sC M) (bJ M) (λp=>if bJ M p=p then 0 else 1):=by
 refine ⟨λp m a=>?_,λp a=>?_,λp m a d=>?_,λp a=>pY (by rw [mZ] at a;exact a)⟩
 ·have b:=(zz.1 a).1;rw [mZ] at b ⊢;rw [vF b] at a;simp at a;subst a;have c:M[p]?=some M[p]:=zy b;cases hv:aL M[p].2
  ·rw [lI c hv];exact b
  ·have:=(kE c hv).2.1;omega
 ·have b:=(zz.1 a).1;rw [mZ] at b;rw [vF b] at a;simpa using a
 ·have b:=(zz.1 a).1;rw [mZ] at b;rw [vF b] at a;simp at a;subst a;have c:M[p]?=some M[p]:=zy b;cases hv:aL M[p].2
  ·rw [lI c hv] at d;exact absurd rfl d
  ·obtain ⟨g,n,o,i,j,k,l⟩:=kE c hv;have e:bJ M p=bJ M (bJ M p):=by
    rw [(kE i j).1,g,k,l]
   refine ⟨e,?_⟩;rw [aH e.symm,aI (λf=>d f)];exact Nat.zero_lt_one
theorem bAu(M:List Tg):eB (aG (M.map Prod.snd)) (λj k=>bJ M j=bJ M k) λ_ _=>False:=by
 intro l m d i q;rcases (bAs M l m).1 d with rfl|⟨u,v,e,n,f,o,_⟩
 ·refine ⟨rfl,λr p t g b=>?_⟩;rw [g] at b;simp at b;subst b;exact eI.refl _
 ·obtain ⟨s,a,c⟩:=nS i;rw [zo,e] at a;simp at a;subst a;rw [f] at c;cases c
theorem bAv(M:List Tg):kS (M.map Prod.snd) (bJ M):=by intro p b;obtain ⟨f,a,c⟩:=nS b;rw [zo] at a;obtain ⟨g,d,e⟩:=Option.map_eq_some_iff.1 a;subst e;rw [lI d c];exact b
theorem tM{t:List Nd}(d:eV L){p:Nat}(b:p<L.length):(aG (L++t)).ch p=(aG L).ch p:=by
 have a:L[p]?=some L[p]:=zy b;have c:(L++t)[p]?=some L[p]:=by rw [zx b,a]
 rw [lW a,lW c,List.drop_append_of_le_length (by omega),aXb _ _ _ _ (d p _ a)]
theorem bAw{d:Nat->Nat->Prop}(s:∀o,d o o):∀(c:List Nd) (b a:Nat),c=L.drop a->eA c b->(∀g∈gZ c b a,cE (aG L) d g)->∀p,a<=p->p<a+aO c b->cE (aG L) d p:=by
 intro c;induction c with
 |nil=>
  intro b a _ _ _ p q e;cases b<;>simp [aO] at e<;>omega
 |cons n r ih=>
  intro b a k i m p q e;cases b with
  |zero=>simp at e;omega
  |succ b=>
   have f:L[a]?=some n:=by have:=congrArg (λv=>v[0]?) k;simpa using this.symm
   have j:r=L.drop (a+1):=by have:=congrArg List.tail k;simpa using this
   have w:=(zz.1 f).1;have l:cE (aG L) d a:=m a (by rw [mT];simp);by_cases u:p=a
   ·subst u;exact l
   ·simp only [eA] at i;simp only [aO] at e;refine ih (b+aY n) (a+1) j i (λg hxm=>?_) p (by omega) (by omega);rw [zs b,aXa] at hxm;rcases List.mem_append.1 hxm with hxm|hxm
    ·cases hv:aL n
     ·refine l.parts (s a) ((fM f).2 hv) ?_;rw [lW f,<-j];exact hxm
     ·rw [jN hv] at hxm;simp [gZ] at hxm
    ·refine m g ?_;rw [mT];refine List.mem_cons_of_mem _ ?_;have t:aO (n::r) 1=1+aO r (aY n):=by simp [aO]
     rw [t,zs 1,List.drop_succ_cons,show a+(aO r (aY n)+1)=a+1+aO r (aY n) by omega];exact hxm
theorem aMg{a:Nat->Nat->Prop}(d:∀i,a i i)(e:eV L){i:Nat}(f:i<L.length)(c:cE (aG L) a i):∀p,i<=p->p<i+aO (L.drop i) 1->cE (aG L) a p:=
 bAw d _ 1 i rfl (e.one f) λg b=>by
  simp [gZ] at b;subst b;exact c
abbrev aN(o:Int)(b:List Nd):List Tg:=b.map λa=>(o,a)
theorem aBm(o:Int)(a:List Nd):(aN o a).map Prod.snd=a:=by unfold aN;rw [List.map_map];exact List.map_id _
theorem bAx(a:Int->List Nd)(b c:List Nd):subst a (b++c)=subst a b++subst a c:=by simp [subst]
theorem bAy{a:Nd}(d:aL a=true):a=(⟨#[]⟩,a.2):=by
 obtain ⟨b,e⟩:=a;have:b.toList=[]:=by simpa [aL] using d
 have c:b=⟨#[]⟩:=by rw [ByteArray.toList_eq] at this;obtain ⟨f⟩:=b;simp at this;subst this;rfl
 rw [c]
theorem bAz(a:List Nd):subst (λb=>[(⟨#[]⟩,b)]) a=a:=by
 induction a with
 |nil=>rfl
 |cons n r ih=>
  rw [nR,ih];cases hv:aL n with
  |false=>rfl
  |true=>simp only [if_true];rw [<-bAy hv];rfl
def mE(a:List Nd)(b:Nat):Prop:=eA a b/\aO a b=a.length
theorem aMh{b:List Nd}{a:Nat}(c:aQ b a=true):mE b a:=⟨aKo b a c,by have:=yF b a [] c;simpa using this⟩
theorem aMi{a b:List Nd}{c g:Nat}(d:mE a c)(f:mE b g):mE (a++b) (c+g):=by
 have e:aO (a++b) c=a.length:=by rw [aE7 a b c d.1,d.2]
 refine ⟨(wH _ _ _).2 ⟨aKp a b c d.1,?_⟩,?_⟩
 ·rw [e,List.drop_left];exact f.1
 ·rw [uS,e,List.drop_left,f.2,zp]
theorem bB0{k:Int->List Nd}:∀(d:List Nd) (a:Nat),(∀b∈d,aL b=true->mE (k b.2) 1)->mE d a->mE (subst k d) a:=by
 intro d;induction d with
 |nil=>intro a _ c;exact c
 |cons b r ih=>
  intro a g c;cases a with
  |zero=>have:=c.2;simp at this
  |succ a=>
   have f:mE r (a+aY b):=⟨by have:=c.1;simpa [eA] using this,by have:=c.2;simp [aO] at this;omega⟩;rw [nR];cases hv:aL b with
   |true=>
    rw [jN hv,zn] at f;have:=aMi (g b (by simp) hv) (ih a (λi e=>g i (by simp [e])) f);rw [zs] at this;simpa using this
   |false=>
    have j:=ih (a+aY b) (λi e=>g i (by simp [e])) f;refine ⟨by simpa [eA] using j.1,?_⟩;have:=j.2;simp [aO];omega
theorem aFf:∀(c:List Nd) (a:Nat),mE c a->(∀d∈c,dC d=true)->aQ c a=true:=by
 intro c;induction c with
 |nil=>
  intro a b _;cases a with
  |zero=>rfl
  |succ a=>exact absurd b.1 (by simp [eA])
 |cons d r ih=>
  intro a b e;cases a with
  |zero=>have:=b.2;simp at this
  |succ a=>
   rw [mO,e d (by simp),Bool.true_and];exact ih _ ⟨by have:=b.1;simpa [eA] using this,by have:=b.2;simp [aO] at this;omega⟩ λg f=>e g (by simp [f])
theorem aMj{l:Nat->Nat->Prop}{g:Nat->Nat}{k:List Nat}{c:List Nd}(m:aX (aG L) l g k c):mE c k.length/\∀a∈c,aL a=false->a∈L:=by
 induction m with
 |nil=>exact ⟨⟨by simp,by simp⟩,by simp⟩
 |@var i r c _ _ ih=>
  have e:=jN (pP (g i:Int));refine ⟨⟨?_,?_⟩,?_⟩
  ·simp only [zu,eA,e,zn];exact ih.1.1
  ·have:=ih.1.2;simp only [zu,aO,e,zn];omega
  ·intro a hn b;rcases List.mem_cons.1 hn with rfl|hn
   ·rw [pP] at b;cases b
   ·exact ih.2 a hn b
 |@name i j r c _ h2 _ ih=>
  obtain ⟨a,d,t⟩:=nS h2;have n:((aG L).ch j).length=aY a:=by rw [lW d,yJ]
  obtain ⟨⟨f,o⟩,q⟩:=ih;rw [zp,n,zs] at f o;rw [pR d];refine ⟨⟨?_,?_⟩,?_⟩
  ·simp only [zu,eA];exact f
  ·simp only [zu,aO];omega
  ·intro s hm b;rcases List.mem_cons.1 hm with rfl|hm
   ·exact List.mem_of_getElem? d
   ·exact q s hm b
def fA(d:List Int)(b c:Int):Prop:=∃a:Nat,d[a]?=some b/\c=(a:Int)
theorem aMk(a:List Int)(b:Int):(eS a b<0->b∉a)/\(0<=eS a b->fA a b (eS a b)):=by
 unfold eS fA;rw [<-zr a];generalize a.reverse=r;rw [zr];induction r with
 |nil=>simp [sP]
 |cons y r ih=>
  simp only [sP];by_cases c:y=b
  ·subst c;rw [aH rfl];refine ⟨λc=>by omega,λ_=>⟨r.length,?_,rfl⟩⟩;rw [zt,zw (by simp)];simp
  ·rw [aI c];refine ⟨λd h2=>?_,λd=>?_⟩
   ·rw [zt] at h2;rcases List.mem_append.1 h2 with h2|h2
    ·exact ih.1 d h2
    ·simp at h2;exact c h2.symm
   ·obtain ⟨f,e,g⟩:=ih.2 d;refine ⟨f,?_,g⟩;rw [zt,zx (zz.1 e).1];exact e
theorem aMl{c d:Int->Int->Prop}(j:∀a b,c a b->d a b){f e:Nd}(k:fL c f e):fL d f e:=by
 rcases k with ⟨a,b,g,i⟩|k
 ·exact Or.inl ⟨a,b,g,j _ _ i⟩
 ·exact Or.inr k
theorem bB1:∀(b:List Nd) (p:List Nd) (a:List Nd×List Int),a.2.Nodup->aP (fL (fA a.2)) p a.1->(b.foldl cI a).2.Nodup/\aP (fL (fA (b.foldl cI a).2)) (p++b) (b.foldl cI a).1:=by
 intro b;induction b with
 |nil=>intro p a e f;simpa using ⟨e,f⟩
 |cons n b ih=>
  intro p a e f;rw [List.foldl_cons];have l:(cI a n).2.Nodup/\aP (fL (fA (cI a n).2)) (p++[n]) (cI a n).1:=by
   unfold cI;cases hv:aL n with
   |false=>exact ⟨e,f.snoc (Or.inr ⟨hv,rfl⟩)⟩
   |true=>
    simp only [if_true];by_cases g:eS a.2 n.2<0
    ·rw [aH g];have q:=(aMk a.2 n.2).1 g;refine ⟨?_,?_⟩
     ·rw [List.nodup_append];exact ⟨e,by simp,λc o d j=>by simp at j;subst j;exact λm=>q (m▸o)⟩
     ·have r:∀c d,fA a.2 c d->fA (a.2++[n.2]) c d:=by
       rintro c d ⟨i,k,s⟩;exact ⟨i,by rw [zx (zz.1 k).1];exact k,s⟩
      refine aP.snoc (f.mono λc d i=>aMl r i) (Or.inl ⟨hv,hv,rfl,a.2.length,?_,rfl⟩);rw [zw (Nat.le_refl _)];simp
    ·rw [aI g];exact ⟨e,f.snoc (Or.inl ⟨hv,hv,rfl,(aMk a.2 n.2).2 (by omega)⟩)⟩
  have:=ih (p++[n]) (cI a n) l.1 l.2;rwa [List.append_assoc,List.singleton_append] at this
theorem fA.pairs{b:List Int}(c:b.Nodup):mN (fA b):=by
 rintro i k j l ⟨d,f,rfl⟩ ⟨e,g,rfl⟩;obtain ⟨m,rfl⟩:=zz.1 f;obtain ⟨n,rfl⟩:=zz.1 g;constructor
 ·intro a;have:=(List.getElem_inj c).1 a;omega
 ·intro a;have:d=e:=by omega
  subst this;rfl
theorem bB2(b c:Int->List Nd)(a:List Nd):subst c (subst b a)=subst (λd=>subst c (b d)) a:=by
 induction a with
 |nil=>rfl
 |cons n r ih=>
  rw [nR,nR,bAx,ih];cases hv:aL n with
  |true=>simp
  |false=>simp [subst,hv]
