import Derived.Test.YtbpiopdphigodaaGreatDoorONumberP
import Derived.Test.YtbpiopdphigodaaGreatDoorUAppP
open List renaming getElem?_eq_some_iff→zz,getElem?_eq_getElem→zy,getElem?_append_left→zx,getElem?_append_right→zw,getElem?_eq_none→zv,reverse_cons→zu,reverse_reverse→zt,findIdx_append→zs,getElem?_map→zr
namespace Go.Proofs.YtbpiopdphigodaaGreatDoor
open Go.RowKit Go.Shelf Go.WideMaps
set_option maxRecDepth 100000
variable{L:List Nd}{M:List Tg}{p:Nat}
theorem bY.iff{e:Gr}{c d:Nat->Nat->Prop}(g:∀a b,c a b↔d a b){a:Nat}:bY e c a↔bY e d a:=by
 have f:c=d:=by funext a b;exact propext (g a b)
 rw [f]
def bG(M:List Tg)(p:Nat):Nat:=match M[p]? with|some t=>if aM t.2 then M.findIdx (fD t.1 t.2.2) else p|none=>p
theorem pT(a:M.length<=p):bG M p=p:=by unfold bG;rw [zv a]
theorem nR{a:Tg}(b:M[p]?=some a)(c:aM a.2=false):bG M p=p:=by unfold bG;rw [b];simp [c]
theorem nS{a:Tg}(d:M[p]?=some a)(f:aM a.2=true):bG M p=M.findIdx (fD a.1 a.2.2)/\bG M p<=p/\∃c,M[bG M p]?=some c/\aM c.2=true/\c.1=a.1/\c.2.2=a.2.2:=by
 have j:=(zz.1 d).1;have g:M[p]=a:=(zz.1 d).2;have i:fD a.1 a.2.2 a=true:=by simp [fD,f]
 have e:bG M p=M.findIdx (fD a.1 a.2.2):=by unfold bG;rw [d];simp [f]
 have k:M.findIdx (fD a.1 a.2.2)<=p:=by apply Nat.le_of_not_lt;intro b;have:=List.not_of_lt_findIdx b;rw [g,i] at this;cases this
 have b:M.findIdx (fD a.1 a.2.2)<M.length:=by omega
 refine ⟨e,by omega,M[M.findIdx (fD a.1 a.2.2)],by rw [e];exact zy b,?_⟩;have:=List.findIdx_getElem (w:=b);simpa [fD] using this
def aWf(M:List Tg)(p c:Nat):Prop:=p=c\/∃a b,M[p]?=some a/\M[c]?=some b/\aM a.2=true/\aM b.2=true/\a.1=b.1/\a.2.2=b.2.2
theorem aWg(M:List Tg)(p b:Nat):bG M p=bG M b↔aWf M p b:=by
 constructor
 ·intro d;by_cases k:∃f,M[p]?=some f/\aM f.2=true
  ·obtain ⟨f,r,t⟩:=k;obtain ⟨A,B,z,e,w,x,y⟩:=nS r t;by_cases c:∃a,M[b]?=some a/\aM a.2=true
   ·obtain ⟨a,i,j⟩:=c;obtain ⟨u,v,s,g,m,n,o⟩:=nS i j;rw [d,g] at e;simp at e;subst e;exact Or.inr ⟨f,a,r,i,t,j,by rw [<-x,n],by rw [<-y,o]⟩
   ·exfalso;have l:bG M b=b:=by
     cases hm:M[b]? with
     |none=>exact pT (by simpa using hm)
     |some a=>
      refine nR hm ?_;cases hv:aM a.2
      ·rfl
      ·exact absurd ⟨a,hm,hv⟩ c
    rw [d,l] at e;exact c ⟨z,e,w⟩
  ·have q:bG M p=p:=by
    cases hm:M[p]? with
    |none=>exact pT (by simpa using hm)
    |some a=>
     refine nR hm ?_;cases hv:aM a.2
     ·rfl
     ·exact absurd ⟨a,hm,hv⟩ k
   by_cases c:∃a,M[b]?=some a/\aM a.2=true
   ·obtain ⟨a,i,j⟩:=c;obtain ⟨u,v,s,g,m,n,o⟩:=nS i j;rw [<-d,q] at g;exact absurd ⟨s,g,m⟩ k
   ·have l:bG M b=b:=by
     cases hm:M[b]? with
     |none=>exact pT (by simpa using hm)
     |some a=>
      refine nR hm ?_;cases hv:aM a.2
      ·rfl
      ·exact absurd ⟨a,hm,hv⟩ c
    rw [q,l] at d;exact Or.inl d
 ·rintro (rfl|⟨f,a,h1,h2,h3,h4,h5,h6⟩)
  ·rfl
  ·rw [(nS h1 h3).1,(nS h2 h4).1,h5,h6]
def qQ(M:List Tg):List Nat:=(List.range M.length).map λp=>bG M p
theorem mD(M:List Tg):(qQ M).length=M.length:=by simp [qQ]
theorem tG(a:p<M.length):(qQ M)[p]?=some (bG M p):=by simp [qQ,a]
theorem zM{b:List Tg}(c:p<M.length):bG (M++b) p=bG M p:=by
 have a:M[p]?=some M[p]:=zy c;have d:(M++b)[p]?=some M[p]:=by rw [zx c,a]
 cases hv:aM M[p].2
 ·rw [nR a hv,nR d hv]
 ·obtain ⟨e,f,l,g,i,j,k⟩:=nS a hv;rw [(nS d hv).1,e,zs,aG (by omega)]
theorem aWh(b:p<M.length):mV (M.take p) M[p].1 M[p].2=bG M p:=by
 have d:M[p]?=some M[p]:=zy b;have a:(M.take p).length=p:=by simp;omega
 unfold mV;rw [a];cases hv:aM M[p].2
 ·rw [nR d hv];rfl
 ·obtain ⟨e,j,_⟩:=nS d hv;rw [aG rfl,e];have i:M=M.take p++M.drop p:=(List.take_append_drop p M).symm;have g:M.findIdx (fD M[p].1 M[p].2.2)=if (M.take p).findIdx (fD M[p].1 M[p].2.2)<(M.take p).length then (M.take p).findIdx (fD M[p].1 M[p].2.2) else (M.drop p).findIdx (fD M[p].1 M[p].2.2)+(M.take p).length:=by
   generalize fD M[p].1 M[p].2.2=f;conv=>lhs;rw [i]
   rw [zs]
  unfold jF;rw [g,a];split
  ·rename_i c;rw [List.findIdx?_eq_some_iff_findIdx_eq.2 ⟨by rw [a];exact c,rfl⟩];rfl
  ·rename_i c;rw [List.findIdx?_eq_none_iff_findIdx_eq.2 (by have:=List.findIdx_le_length (xs:=M.take p) (p:=fD M[p].1 M[p].2.2);omega)];rw [List.drop_eq_getElem_cons b,List.findIdx_cons];have:fD M[p].1 M[p].2.2 M[p]=true:=by simp [fD,hv]
   simp [this]
theorem aJ6(M:List Tg)(c:Int)(b:List Nd):qQ (M++b.map λa=>(c,a))=qQ M++iA M c b b.length:=by
 apply List.ext_getElem?;intro p;by_cases d:p<M.length
 ·rw [tG (by simp;omega),zx (by rw [mD];exact d),tG d,zM d]
 ·rw [zw (by rw [mD];omega),mD];by_cases g:p-M.length<b.length
  ·have e:p<(M++b.map λa=>(c,a)).length:=by simp;omega
   rw [tG e,<-aWh e];have f:(M++b.map λa=>(c,a))[p]=(c,b[p-M.length]):=by rw [List.getElem_append_right (by omega)];simp
   rw [f];have i:(M++b.map λa=>(c,a)).take p=M++(b.take (p-M.length)).map λa=>(c,a):=by rw [List.take_append,List.take_of_length_le (by omega),List.map_take]
   rw [i];simp [iA,g]
  ·rw [zv (by rw [mD];simp;omega),zv (by rw [aIt];omega)]
theorem aD5(M:List Tg):fR (qQ M) (bG M) (λp=>if bG M p=p then 0 else 1):=by
 refine ⟨λp m a=>?_,λp a=>?_,λp m a d=>?_,λp a=>pT (by rw [mD] at a;exact a)⟩
 ·have b:=(zz.1 a).1;rw [mD] at b ⊢;rw [tG b] at a;simp at a;subst a;have c:M[p]?=some M[p]:=zy b;cases hv:aM M[p].2
  ·rw [nR c hv];exact b
  ·have:=(nS c hv).2.1;omega
 ·have b:=(zz.1 a).1;rw [mD] at b;rw [tG b] at a;simpa using a
 ·have b:=(zz.1 a).1;rw [mD] at b;rw [tG b] at a;simp at a;subst a;have c:M[p]?=some M[p]:=zy b;cases hv:aM M[p].2
  ·rw [nR c hv] at d;exact absurd rfl d
  ·obtain ⟨g,n,o,i,j,k,l⟩:=nS c hv;have e:bG M p=bG M (bG M p):=by
    rw [(nS i j).1,g,k,l]
   refine ⟨e,?_⟩;rw [aG e.symm,aF (λf=>d f)];exact Nat.zero_lt_one
theorem aWi(M:List Tg):eA (aJ (M.map Prod.snd)) (λj k=>bG M j=bG M k) λ_ _=>False:=by
 intro l m d i q;rcases (aWg M l m).1 d with rfl|⟨u,v,e,n,f,o,_⟩
 ·refine ⟨rfl,λr p t g b=>?_⟩;rw [g] at b;simp at b;subst b;exact eI.refl _
 ·obtain ⟨s,a,c⟩:=pF i;rw [zr,e] at a;simp at a;subst a;rw [f] at c;cases c
theorem aWj(M:List Tg):kC (M.map Prod.snd) (bG M):=by intro p b;obtain ⟨f,a,c⟩:=pF b;rw [zr] at a;obtain ⟨g,d,e⟩:=Option.map_eq_some_iff.1 a;subst e;rw [nR d c];exact b
theorem rY{t:List Nd}(d:eT L){p:Nat}(b:p<L.length):(aJ (L++t)).ch p=(aJ L).ch p:=by
 have a:L[p]?=some L[p]:=zy b;have c:(L++t)[p]?=some L[p]:=by rw [zx b,a]
 rw [lU a,lU c,List.drop_append_of_le_length (by omega),aQa _ _ _ _ (d p _ a)]
theorem aWk{d:Nat->Nat->Prop}(s:∀o,d o o):∀(c:List Nd) (b a:Nat),c=L.drop a->eM c b->(∀g∈iV c b a,bY (aJ L) d g)->∀p,a<=p->p<a+aL c b->bY (aJ L) d p:=by
 intro c;induction c with
 |nil=>
  intro b a _ _ _ p q e;cases b<;>simp [aL] at e<;>omega
 |cons n r ih=>
  intro b a k i m p q e;cases b with
  |zero=>simp at e;omega
  |succ b=>
   have f:L[a]?=some n:=by have:=congrArg (λv=>v[0]?) k;simpa using this.symm
   have j:r=L.drop (a+1):=by have:=congrArg List.tail k;simpa using this
   have w:=(zz.1 f).1;have l:bY (aJ L) d a:=m a (by rw [mL];simp);by_cases u:p=a
   ·subst u;exact l
   ·simp only [eM] at i;simp only [aL] at e;refine ih (b+aX n) (a+1) j i (λg hxm=>?_) p (by omega) (by omega);rw [Nat.add_comm b,aQ8] at hxm;rcases List.mem_append.1 hxm with hxm|hxm
    ·cases hv:aM n
     ·refine l.parts (s a) ((gX f).2 hv) ?_;rw [lU f,<-j];exact hxm
     ·rw [nL hv] at hxm;simp [iV] at hxm
    ·refine m g ?_;rw [mL];refine List.mem_cons_of_mem _ ?_;have t:aL (n::r) 1=1+aL r (aX n):=by simp [aL]
     rw [t,Nat.add_comm 1,List.drop_succ_cons,show a+(aL r (aX n)+1)=a+1+aL r (aX n) by omega];exact hxm
theorem aJ7{a:Nat->Nat->Prop}(d:∀i,a i i)(e:eT L){i:Nat}(f:i<L.length)(c:bY (aJ L) a i):∀p,i<=p->p<i+aL (L.drop i) 1->bY (aJ L) a p:=
 aWk d _ 1 i rfl (e.one f) λg b=>by
  simp [iV] at b;subst b;exact c
abbrev aW(o:Int)(b:List Nd):List Tg:=b.map λa=>(o,a)
theorem zN(o:Int)(a:List Nd):(aW o a).map Prod.snd=a:=by unfold aW;rw [List.map_map];exact List.map_id _
def rZ(a:List Nd)(b:Nat):Prop:=eM a b/\aL a b=a.length
theorem aWl{a b:List Nd}{c g:Nat}(d:rZ a c)(f:rZ b g):rZ (a++b) (c+g):=by
 have e:aL (a++b) c=a.length:=by rw [aBl a b c d.1,d.2]
 refine ⟨(tZ _ _ _).2 ⟨aG0 a b c d.1,?_⟩,?_⟩
 ·rw [e,List.drop_left];exact f.1
 ·rw [sW,e,List.drop_left,f.2,List.length_append]
theorem aWm:∀(c:List Nd) (a:Nat),rZ c a->(∀d∈c,dE d=true)->aN c a=true:=by
 intro c;induction c with
 |nil=>
  intro a b _;cases a with
  |zero=>rfl
  |succ a=>exact absurd b.1 (by simp [eM])
 |cons d r ih=>
  intro a b e;cases a with
  |zero=>have:=b.2;simp at this
  |succ a=>
   rw [mQ,e d (by simp),Bool.true_and];exact ih _ ⟨by have:=b.1;simpa [eM] using this,by have:=b.2;simp [aL] at this;omega⟩ λg f=>e g (by simp [f])
def jP(d:List Int)(b c:Int):Prop:=∃a:Nat,d[a]?=some b/\c=(a:Int)
theorem aJ8(a:List Int)(b:Int):(eQ a b<0->b∉a)/\(0<=eQ a b->jP a b (eQ a b)):=by
 unfold eQ jP;rw [<-zt a];generalize a.reverse=r;rw [zt];induction r with
 |nil=>simp [rD]
 |cons y r ih=>
  simp only [rD];by_cases c:y=b
  ·subst c;rw [aG rfl];refine ⟨λc=>by omega,λ_=>⟨r.length,?_,rfl⟩⟩;rw [zu,zw (by simp)];simp
  ·rw [aF c];refine ⟨λd h2=>?_,λd=>?_⟩
   ·rw [zu] at h2;rcases List.mem_append.1 h2 with h2|h2
    ·exact ih.1 d h2
    ·simp at h2;exact c h2.symm
   ·obtain ⟨f,e,g⟩:=ih.2 d;refine ⟨f,?_,g⟩;rw [zu,zx (zz.1 e).1];exact e
theorem aJ9{c d:Int->Int->Prop}(j:∀a b,c a b->d a b){f e:Nd}(k:gA c f e):gA d f e:=by
 rcases k with ⟨a,b,g,i⟩|k
 ·exact Or.inl ⟨a,b,g,j _ _ i⟩
 ·exact Or.inr k
theorem aWn:∀(b:List Nd) (p:List Nd) (a:List Nd×List Int),a.2.Nodup->aO (gA (jP a.2)) p a.1->(b.foldl cD a).2.Nodup/\aO (gA (jP (b.foldl cD a).2)) (p++b) (b.foldl cD a).1:=by
 intro b;induction b with
 |nil=>intro p a e f;simpa using ⟨e,f⟩
 |cons n b ih=>
  intro p a e f;rw [List.foldl_cons];have l:(cD a n).2.Nodup/\aO (gA (jP (cD a n).2)) (p++[n]) (cD a n).1:=by
   unfold cD;cases hv:aM n with
   |false=>exact ⟨e,f.snoc (Or.inr ⟨hv,rfl⟩)⟩
   |true=>
    simp only [if_true];by_cases g:eQ a.2 n.2<0
    ·rw [aG g];have q:=(aJ8 a.2 n.2).1 g;refine ⟨?_,?_⟩
     ·rw [List.nodup_append];exact ⟨e,by simp,λc o d j=>by simp at j;subst j;exact λm=>q (m▸o)⟩
     ·have r:∀c d,jP a.2 c d->jP (a.2++[n.2]) c d:=by
       rintro c d ⟨i,k,s⟩;exact ⟨i,by rw [zx (zz.1 k).1];exact k,s⟩
      refine aO.snoc (f.mono λc d i=>aJ9 r i) (Or.inl ⟨hv,hv,rfl,a.2.length,?_,rfl⟩);rw [zw (Nat.le_refl _)];simp
    ·rw [aF g];exact ⟨e,f.snoc (Or.inl ⟨hv,hv,rfl,(aJ8 a.2 n.2).2 (by omega)⟩)⟩
  have:=ih (p++[n]) (cD a n) l.1 l.2;rwa [List.append_assoc,List.singleton_append] at this
theorem jP.pairs{c:List Int}(d:c.Nodup):lY (jP c):=by
 rintro a k j l ⟨e,g,rfl⟩ ⟨f,i,rfl⟩;obtain ⟨m,rfl⟩:=zz.1 g;obtain ⟨n,rfl⟩:=zz.1 i;constructor
 ·intro b;have:=(List.getElem_inj d).1 b;omega
 ·intro b;have:e=f:=by omega
  subst this;rfl
