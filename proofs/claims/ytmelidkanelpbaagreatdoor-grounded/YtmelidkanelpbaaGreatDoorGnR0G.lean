import Derived.Test.YtmelidkanelpbaaGreatDoorXSr7G
import Derived.Test.YtmelidkanelpbaaGreatDoorXKn0G
import Derived.Test.YtmelidkanelpbaaGreatDoorNumEqG
open Bool renaming and_eq_true→zm
open List renaming mem_cons→zx,mem_cons_of_mem→zw,getElem_mem→zv,mem_append→zt,getElem_append_left→zs,length_append→zr,mem_map→zp,getElem?_eq_getElem→zo,length_filterMap_le→zn,mem_flatMap→zl,any_eq_true→zk,mem_filter→zi,mem_filterMap→zh,all_eq_true→zg
open Nat renaming le_refl→zu,mul_le_mul→zq,le_trans→zj,add_mul→zf
open Or renaming inr→zz,inl→zy
namespace Go.Proofs.YtmelidkanelpbaaGreatDoor
open Go.RowKit Go.Shelf Go.WideMaps
set_option maxRecDepth 100000
variable{yes:Bool}{e:Int}{rest:List (Int×Lt)}{P:List (List Lt)}{L:List Cd}{c d out:List Lt}{ks os:List Nat}{M0:List Tg}{a b n:Nat}
theorem aIv:∀(rest:List (Int×Lt)) (n:Nat),(∀r∈rest,r.2.2≠[])->∀f∈cU n rest,f<n+(aU rest).length
 |[],n,_,f,h=>by simp [cU] at h
 |r::rs,n,hne,f,h=>by
  have k:(aU (r::rs)).length=r.2.2.length+(aU rs).length:=by simp [aU]
  have j:0<r.2.2.length:=List.length_pos_iff.2 (hne r (by simp));rw [cU] at h;rcases zx.1 h with rfl|h
  ·omega
  ·have:=aIv rs _ (λi g=>hne i (by simp [g])) f h;omega
theorem aIw{j p:Type}{R:j->p->Prop}:∀(f:List j),(∀x∈f,∃i,R x i)->∃g,aP R f g
 |[],_=>⟨[],aP.nil⟩
 |x::f,h=>by
  obtain ⟨i,l⟩:=h x (by simp);obtain ⟨g,k⟩:=aIw f λo m=>h o (by simp [m])
  exact ⟨i::g,aP.cons l k⟩
theorem aIx(M0:List Tg)(a b:Nat)(rest:List (Int×Lt))(p:∀s∈rest,s.2.2≠[]):∃k:List Lt×Bool×Int,eH M0 a b rest k.1 k.2.1 k.2.2:=by
 by_cases f:xC (M0++aU rest) a b
 ·obtain ⟨j,m⟩:=aNv (M0++aU rest) a b;obtain ⟨i,l⟩:=aIw (R:=λg r=>aW (aG ((M0++aU rest).map Prod.snd)) (dE (M0++aU rest) a b) j [g] r) (cU M0.length rest) (λg q=>(f.2 g (by have:=aIv rest M0.length p g q;simpa using this)).exp);by_cases o:aS (aV (bX rest i))<=500
  ·exact ⟨(_,true,0),zz ⟨f,j,i,m,l,zz ⟨o,rfl,rfl,rfl⟩⟩⟩
  ·exact ⟨([],false,4),zz ⟨f,j,i,m,l,zy ⟨by omega,rfl,rfl,rfl⟩⟩⟩
 ·exact ⟨([],false,0),zy ⟨f,rfl,rfl,rfl⟩⟩
theorem aIy{i:List (List Lt×Nat)}{p:Nat}(j:∀f∈i,∀o∈f.1,o.2≠[]):∀g∈bB p i,g.2.2≠[]:=by intro g m;obtain ⟨f,l,k⟩:=sB _ _ g m;exact j f l _ k
theorem aIz(j:∀k∈c,k.2≠[])(f g:Nat):eH (aN 0 (c.getD f default).2++aN 0 (c.getD g default).2) 0 (c.getD f default).2.length (bB 0 [(c,g)]) (kD c f g).1 (kD c f g).2.1 (kD c f g).2.2:=
 Classical.epsilon_spec (aIx _ _ _ _ (aIy λl i=>by simp at i;subst i;exact j))
theorem aJ0(k:∀i∈c,i.2≠[])(l:∀i∈d,i.2≠[])(f g:Nat):eH (aN 0 (c.getD f default).2++aN 1 (d.getD g default).2) 0 (c.getD f default).2.length (bB 0 [(c,f),(d,g)]) (kE c f d g).1 (kE c f d g).2.1 (kE c f d g).2.2:=
 Classical.epsilon_spec (aIx _ _ _ _ (aIy λm j=>by
  simp at j;rcases j with rfl|rfl
  ·exact k
  ·exact l))
theorem aJ1(f:a<L.length)(g:b<L.length):(nW L a b f g).Perm L:=List.set_set_perm f g
theorem aJ2:∀(f:Nat) (L:List Cd) (g:Nat),(iJ f L g).Perm L
 |0,_,_=>List.Perm.refl _
 |f+1,L,g=>by
  unfold iJ;split
  ·split
   ·exact (aJ2 f _ _).trans (aJ1 _ _)
   ·exact List.Perm.refl _
  ·exact List.Perm.refl _
theorem aJ3:∀(f:Nat) (L:List Cd) (g:Nat),(kX f L g).Perm L
 |0,_,_=>List.Perm.refl _
 |f+1,L,g=>by
  unfold kX;split
  ·exact (aJ3 f _ _).trans (aJ1 _ _)
  ·exact List.Perm.refl _
theorem vU(g:Cd)(f:List Cd):(jV (g::f)).Perm f:=by
 unfold jV;cases hl:(g::f).getLast? with
 |none=>simp at hl
 |some y=>
  simp only;refine (aJ3 _ _ _).trans ?_;cases f with
  |nil=>simp
  |cons z s=>
   have i:(z::s).getLast?=some y:=by simpa [List.getLast?_cons_cons] using hl
   have j:(z::s).dropLast++[y]=z::s:=by rw [List.getLast?_eq_some_getLast (by simp)] at i;rw [<-Option.some.inj i];exact List.dropLast_concat_getLast (by simp)
   rw [List.set_cons_zero,show (g::z::s).length-1=s.length+1 by simp,List.take_succ_cons];rw [show (z::s).take s.length=(z::s).dropLast by rw [List.dropLast_eq_take];simp];exact ((List.perm_append_singleton y _).symm).trans (by rw [j])
theorem aJ4{k:List Lt->Bool}:∀(f:Nat) {L g:List Cd} {i:Cd},eI k f L=some (i,g)->∀j∈L,j=i\/j∈g\/k j.c=true
 |0,L,g,i,h,_,_=>by cases h
 |f+1,[],g,i,h,_,_=>by cases h
 |f+1,y::r,g,i,h,j,hz=>by
  unfold eI at h;simp only at h;split at h
  ·rename_i l;rcases zx.1 hz with rfl|hz
   ·exact zz (zz l)
   ·exact aJ4 f h j ((vU y r).mem_iff.2 hz)
  ·cases h;rcases zx.1 hz with rfl|hz
   ·exact zy rfl
   ·exact zz (zy ((vU _ r).mem_iff.2 hz))
theorem aJ5{i:List Lt->Bool}:∀(f:Nat) {L:List Cd},L.length<=f->eI i f L=none->∀g∈L,i g.c=true
 |0,L,hl,_,g,hz=>by
  obtain rfl:L=[]:=List.length_eq_zero_iff.1 (by omega);simp at hz
 |f+1,[],_,_,g,hz=>by simp at hz
 |f+1,y::r,hl,h,g,hz=>by
  unfold eI at h;simp only at h;split at h
  ·rename_i j;rcases zx.1 hz with rfl|hz
   ·exact j
   ·exact aJ5 f (by rw [(vU y r).length_eq];simp at hl;omega) h g ((vU y r).mem_iff.2 hz)
  ·cases h
theorem aDb{j:List Lt->Bool}:∀(f:Nat) {L g:List Cd} {i:Cd},eI j f L=some (i,g)->g.length+1<=L.length
 |0,L,g,i,h=>by cases h
 |f+1,[],g,i,h=>by cases h
 |f+1,y::r,g,i,h=>by
  unfold eI at h;simp only at h;split at h
  ·have:=aDb f h;rw [(vU y r).length_eq] at this;simp;omega
  ·cases h;rw [(vU _ r).length_eq];simp
theorem bH.all:∀(i:List (aL×Int)) {L j:List Cd} {n r:Nat} {b q:Bool},bH i L n b j r q->(∀f∈L,f∈j)/\(∀x∈i,(x.2≠0\/bP x.1.c=false)\/eR x.1.c=true\/∃f∈j,f.c=x.1.c)/\(q=true↔b=true\/∃x∈i,x.2≠0\/bP x.1.c=false)
 |[],L,j,n,r,b,q,g=>by
  obtain ⟨rfl,rfl,rfl⟩:=g;exact ⟨λf hy=>hy,λx w=>by simp at w,by simp⟩
 |x::i,L,j,n,r,b,q,g=>by
  unfold bH at g;split at g
  ·rename_i p;obtain ⟨l,m,o⟩:=bH.all i g;refine ⟨l,λf hy=>?_,?_⟩
   ·rcases zx.1 hy with rfl|hy
    ·exact zy p
    ·exact m f hy
   ·rw [o];simp [p]
  ·rename_i p;split at g
   ·rename_i v;obtain ⟨l,m,o⟩:=bH.all i g;refine ⟨l,λf hy=>?_,?_⟩
    ·rcases zx.1 hy with rfl|hy
     ·exact zz (zy v)
     ·exact m f hy
    ·rw [o];constructor
     ·rintro (k|⟨f,hy,k⟩)
      ·exact zy k
      ·exact zz ⟨f,zw _ hy,k⟩
     ·rintro (k|⟨f,hy,k⟩)
      ·exact zy k
      ·rcases zx.1 hy with rfl|hy
       ·exact absurd k p
       ·exact zz ⟨f,hy,k⟩
   ·obtain ⟨s,t,g⟩:=g;obtain ⟨l,m,o⟩:=bH.all i g;have u:∀f∈L++[eD x.1 s t n],f∈j:=λf hy=>l f ((aJ2 _ _ _).mem_iff.2 hy)
    refine ⟨λf hy=>u f (by simp [hy]),λf hy=>?_,?_⟩
    ·rcases zx.1 hy with rfl|hy
     ·exact zz (zz ⟨eD f.1 s t n,u _ (by simp),rfl⟩)
     ·exact m f hy
    ·rw [o];constructor
     ·rintro (k|⟨f,hy,k⟩)
      ·exact zy k
      ·exact zz ⟨f,zw _ hy,k⟩
     ·rintro (k|⟨f,hy,k⟩)
      ·exact zy k
      ·rcases zx.1 hy with rfl|hy
       ·exact absurd k p
       ·exact zz ⟨f,hy,k⟩
theorem bH.from:∀(F:List (aL×Int)) {L l:List Cd} {n o:Nat} {b m:Bool},bH F L n b l o m->∀i∈l,i∈L\/∃x∈F,x.2=0/\bP x.1.c=true/\eR x.1.c=false/\tP i x.1.r x.1.a x.1.b x.1.i x.1.j/\i.c=x.1.c
 |[],L,l,n,o,b,m,g,i,hy=>by
  obtain ⟨rfl,rfl,rfl⟩:=g;exact zy hy
 |x::F,L,l,n,o,b,m,g,i,hy=>by
  unfold bH at g;split at g
  ·rcases bH.from F g i hy with f|⟨k,f,j⟩
   ·exact zy f
   ·exact zz ⟨k,zw _ f,j⟩
  ·rename_i p;have q:x.2=0:=Classical.byContradiction λe=>p (zy e)
   have r:bP x.1.c=true:=by
    cases hf:bP x.1.c
    ·exact absurd (zz hf) p
    ·rfl
   split at g
   ·rcases bH.from F g i hy with f|⟨k,f,j⟩
    ·exact zy f
    ·exact zz ⟨k,zw _ f,j⟩
   ·rename_i s;obtain ⟨t,u,g⟩:=g;rcases bH.from F g i hy with f|⟨k,f,j⟩
    ·rcases zt.1 (aC5 _ _ _ _ f) with h3|h3
     ·exact zy h3
     ·simp at h3;subst h3;exact zz ⟨x,by simp,q,r,by simpa using s,⟨rfl,rfl,rfl,rfl,rfl⟩,rfl⟩
    ·exact zz ⟨k,zw _ f,j⟩
theorem aJ6{f:List (List Nd)}:∀g∈bX rest f,g.2∈f:=by
 intro g hx;unfold bX at hx;induction rest generalizing f with
 |nil=>simp at hx
 |cons r rest ih=>
  cases f with
  |nil=>simp at hx
  |cons l f=>
   simp only [List.zipWith_cons_cons,zx] at hx;rcases hx with rfl|hx
   ·simp
   ·exact zw _ (ih hx)
theorem aJ7{ls:List (List Nd)}:(bX rest ls).length<=rest.length:=by unfold bX;rw [List.length_zipWith];omega
theorem aJ8(c:List Lt):(aV c).length<=c.length:=by have f:=(pF (bT c)).1;have g:=(mH c).1;show (cW (bT c)).1.length<=c.length;omega
theorem aTi(m:eH M0 a b rest out yes e)(u:∀i∈M0++aU rest,i.2.1.size<=80)(A:rest.length<=100):jG out:=by
 have l:jG []:=⟨by simp,λj f=>by simp at f⟩;rcases m with ⟨_,rfl,_⟩|⟨_,D,ls,_,s,⟨_,rfl,_⟩|⟨z,rfl,_,_⟩⟩
 ·exact l
 ·exact l
 ·refine ⟨by have:=aJ8 (bX rest ls);have:=aJ7 (rest:=rest) (ls:=ls);omega,λj f=>⟨by have:=vJ _ j f;omega,λB p=>?_⟩⟩;obtain ⟨k,x,_,q⟩:=pC (vB (bX rest ls)).2 j f;obtain ⟨n,v,r⟩:=pC q _ (zv p);have y:=aJ6 k ((mH _).2.2 k x);obtain ⟨C,_,o⟩:=pC s k.2 y;rcases r with ⟨_,g,_⟩|⟨g,e⟩
  ·rw [zC g];decide
  ·rw [<-e];have t:=(aNw o).2 n v g;obtain ⟨i,w,rfl⟩:=zp.1 t;exact u i w
theorem aTj(o:∀f∈c,mB f.2 1/\(∀n∈f.2,aK n=false->cZ n=true)/\aK (f.2.headD (⟨#[]⟩,0))=false)(g:bP (aV c)=true):aY (aV c)=true:=by
 obtain ⟨A,l⟩:=vB c;have B:aS (aV c)<=60:=by unfold bP at g;simp at g;exact g.2
 have D:(cW (bT c)).2.length<=60:=by have:=(pF (bT c)).2;rw [aO3 l] at this;omega
 unfold aY;rw [g,aO0,Bool.true_and,zm,zg];refine ⟨λi m=>?_,by simp⟩;obtain ⟨f,y,_,j⟩:=pC l i m;obtain ⟨w,u,p⟩:=o f ((mH c).2.2 f y);have v:∀k∈i.2,cZ k=true:=by
  intro k s;obtain ⟨n,t,r⟩:=pC j k s;rcases r with ⟨_,b,_,E,z,F⟩|⟨a,rfl⟩
  ·unfold cZ;rw [aI b];have:=(List.getElem?_eq_some_iff.1 z).1;simp;omega
  ·exact u n t a
 have x:=aFw _ 1 (aO2 j 1 w) v;have C:=vJ (aV c) i m;unfold gJ jA;have q:aK (i.2.headD (⟨#[]⟩,0))=false:=by rw [<-aO4 j];exact p
 rw [x,q];simp;omega
theorem aTk(m:eH M0 a b rest out yes e)(q:∀i∈M0++aU rest,cZ i.2=true)(u:∀f∈cU M0.length rest,(aG ((M0++aU rest).map Prod.snd)).named f)(o:bP out=true):aY out=true:=by
 have k:aY []=true:=by kernel_rfl
 rcases m with ⟨_,rfl,_⟩|⟨B,D,C,_,p,⟨_,rfl,_⟩|⟨A,rfl,_,_⟩⟩
 ·exact k
 ·exact k
 ·refine aTj (λj x=>?_) o;obtain ⟨f,t,g⟩:=pC p j.2 (aJ6 j x);obtain ⟨y,z⟩:=aNw g;refine ⟨y,λn r w=>?_,?_⟩
  ·obtain ⟨i,v,rfl⟩:=zp.1 (z n r w);exact q i v
  ·have s:=u f t;generalize j.2=l at g;cases g with
   |var h1 _=>exact absurd s (h1 f (Cl.refl f))
   |name h1 h2 _=>exact h2
theorem aJ9:∀(rest:List (Int×Lt)) (f:List Tg),(∀r∈rest,r.2.2≠[])->∀g∈cU f.length rest,∃r∈rest,((f++aU rest).map Prod.snd)[g]?=r.2.2[0]?
 |[],f,_,g,hp=>by simp [cU] at hp
 |r::rest,f,h,g,hp=>by
  have e:f++aU (r::rest)=(f++r.2.2.map λn=>(r.1,n))++aU rest:=by simp [aU]
  simp only [cU,zx] at hp;rcases hp with rfl|hp
  ·refine ⟨r,by simp,?_⟩;have i:=h r (by simp);cases hr:r.2.2 with
   |nil=>exact absurd hr i
   |cons n l=>
    simp [aU,hr]
  ·have m:f.length+r.2.2.length=(f++r.2.2.map λn=>(r.1,n)).length:=by simp
   rw [m] at hp;obtain ⟨p,j,k⟩:=aJ9 rest _ (λq o=>h q (by simp [o])) g hp;exact ⟨p,by simp [j],by rw [e];exact k⟩
theorem aJa(k:eH M0 a b rest out yes e)(r:∀i∈M0,cZ i.2=true)(w:∀f∈rest,gJ f.2.2=true)(s:rest.length<=100):jG out/\(bP out=true->aY out=true):=by
 have j:∀f∈rest,aQ f.2.2 1=true/\aK (f.2.2.headD (⟨#[]⟩,0))=false:=by intro f g;have:=w f g;unfold gJ jA at this;simp at this;exact ⟨this.1.1,by simpa using this.2⟩
 have q:∀i∈M0++aU rest,cZ i.2=true:=by
  intro i ht;rcases zt.1 ht with ht|ht
  ·exact r i ht
  ·obtain ⟨f,g,t⟩:=zl.1 ht;obtain ⟨n,u,rfl⟩:=zp.1 t;exact xA (j f g).1 n u
 have p:∀f∈rest,f.2.2≠[]:=by intro f g e;have:=(j f g).1;rw [e] at this;simp [aQ] at this
 refine ⟨aTi k (λi ht=>aDq (q i ht)) s,aTk k q λx v=>?_⟩;obtain ⟨f,g,o⟩:=aJ9 rest M0 p x v;have m:=(j f g).2;cases hr2:f.2.2 with
 |nil=>exact absurd hr2 (p f g)
 |cons n l=>
  rw [hr2] at o m;exact (fO (n:=n) (by simpa using o)).2 (by simpa using m)
theorem vV(f:aY c=true):c.length<=8/\∀g∈c,gJ g.2=true:=by unfold aY bP at f;simp only [zm,zg,decide_eq_true_eq] at f;exact ⟨f.1.1.1,λg i=>f.1.2 g i⟩
theorem aTl{g:List Nd}(f:gJ g=true):∀n∈g,cZ n=true:=by unfold gJ jA at f;simp at f;exact xA f.1.1
theorem aAh{g:List Nd}{l:Int}(j:gJ g=true):∀i∈aN l g,cZ i.2=true:=by intro i f;unfold aN at f;obtain ⟨n,k,rfl⟩:=zp.1 f;exact aTl j n k
theorem aAi(f:a<c.length):c.getD a default∈c:=by rw [List.getD_eq_getElem?_getD,zo f];exact zv f
theorem kK.good{u v:Int}(g:kK c d u v out yes e):jG out/\(bP out=true->aY out=true):=by
 have j:jG []/\(bP []=true->aY []=true):=⟨⟨by simp,λA t=>by simp at t⟩,λ_=>by kernel_rfl⟩;rcases g with ⟨_,rfl,_⟩|⟨o,p,⟨_,rfl,_⟩|⟨a,b,⟨q,r,_⟩,g⟩⟩
 ·exact j
 ·exact j
 ·obtain ⟨y,k⟩:=vV o;obtain ⟨z,l⟩:=vV p;refine aJa g (λm ht=>?_) (λx s=>?_) ?_
  ·rcases zt.1 ht with ht|ht
   ·exact aAh (k _ (aAi q)) m ht
   ·exact aAh (l _ (aAi r)) m ht
  ·obtain ⟨w,f,i⟩:=sB _ _ x s;simp at f;rcases f with rfl|rfl
   ·exact k _ i
   ·exact l _ i
  ·have:=aBr [(c,a),(d,b)] 0 (λw f=>by simp at f;rcases f with rfl|rfl<;>assumption);simp at this;omega
theorem yF.good{s t:Int}(g:yF c s t out yes e):jG out/\(bP out=true->aY out=true):=by
 have j:jG []/\(bP []=true->aY []=true):=⟨⟨by simp,λx r=>by simp at r⟩,λ_=>by kernel_rfl⟩;rcases g with ⟨_,rfl,_⟩|⟨l,⟨_,rfl,_⟩|⟨a,b,⟨m,o,_⟩,g⟩⟩
 ·exact j
 ·exact j
 ·obtain ⟨w,i⟩:=vV l;refine aJa g (λk ht=>?_) (λv q=>?_) ?_
  ·rcases zt.1 ht with ht|ht
   ·exact aAh (i _ (aAi m)) k ht
   ·exact aAh (i _ (aAi o)) k ht
  ·obtain ⟨u,f,p⟩:=sB _ _ v q;simp at f;subst f;exact i _ p
  ·have:=aBr [(c,b)] 0 (λu f=>by simp at f;subst f;assumption);simp at this;omega
theorem aAj{f g:Nat}:(f,g)∈fJ c d↔f<c.length/\g<d.length/\iZ c f=iZ d g:=by
 simp only [fJ,lP,kZ,zl,zp,zi,List.mem_range];constructor
 ·rintro ⟨a,j,b,⟨k,i⟩,e⟩;cases e;exact ⟨j,k,of_decide_eq_true i⟩
 ·rintro ⟨j,k,i⟩;exact ⟨f,j,g,⟨k,fA i⟩,rfl⟩
theorem aJb(c d:List Lt):∀m,(lP c d m).length<=m*d.length
 |0=>by simp [lP]
 |m+1=>by
  rw [aC3,zr];have f:=aJb c d m;have g:(kZ c d m d.length).length<=d.length:=by unfold kZ;rw [List.length_map];exact zj (List.length_filter_le _ _) (by simp)
  rw [zf];omega
theorem aJc(f:c.length<=8)(g:d.length<=8):(fJ c d).length<=64:=by refine zj (aJb c d _) ?_;exact zq f g
theorem vW(g:aY c=true):∀f∈c,f.2≠[]:=λf i e=>by
 have:=(vV g).2 f i;rw [e] at this;exact absurd this (by decide)
theorem sX{f:Nat}(g:f<c.length):gL c f=c[f].1:=by unfold gL;rw [fZ g]
theorem aJd(l:aY c=true){j:aL×Int}(p:j∈mD c a):∃f g yes,j.1=⟨3,a,0,f,g,j.1.c⟩/\yF c (f:Nat) (g:Nat) j.1.c yes j.2/\(j.2=0->yes=true):=by
 obtain ⟨⟨f,g⟩,q,i⟩:=zh.1 p;obtain ⟨m,o,-⟩:=aAj.1 q;unfold mC at i;split at i
 ·rename_i k;split at i
  ·rename_i h2;cases i;refine ⟨f,g,(kD c f g).2.1,rfl,zz ⟨l,zz ⟨f,g,⟨m,o,rfl,rfl,k.1,?_⟩,aIz (vW l) f g⟩⟩,λe=>?_⟩
   ·have:=k.2;rwa [sX m,sX o] at this
   ·rcases h2 with h2|h2
    ·exact h2
    ·exact absurd e h2
  ·cases i
 ·cases i
theorem aJe(k:aY c=true)(l:aY d=true){j:aL×Int}(p:j∈gM c a d b):∃f g yes,j.1=⟨2,a,b,f,g,j.1.c⟩/\kK c d (f:Nat) (g:Nat) j.1.c yes j.2/\(j.2=0->yes=true):=by
 obtain ⟨⟨f,g⟩,s,i⟩:=zh.1 p;obtain ⟨m,o,-⟩:=aAj.1 s;unfold mZ at i;split at i
 ·rename_i q;split at i
  ·rename_i h2;cases i;refine ⟨f,g,(kE c f d g).2.1,rfl,zz ⟨k,l,zz ⟨f,g,⟨m,o,rfl,rfl,?_⟩,aJ0 (vW k) (vW l) f g⟩⟩,λe=>?_⟩
   ·have r:gL c f≠gL d g:=q;rwa [sX m,sX o] at r
   ·rcases h2 with h2|h2
    ·exact h2
    ·exact absurd e h2
  ·cases i
 ·cases i
def nO(P:List (List Lt))(g:List (aL×Value))(n:Nat)(f:aL):Prop:=
 (f.r=1/\f.b=0/\f.i=0/\f.j=0/\P[f.a]?=some f.c)\/
 (f.r=2/\f.a<n/\f.b<n/\kK (aF g f.a) (aF g f.b) f.i f.j f.c true 0)\/
 (f.r=3/\f.b=0/\f.a<n/\yF (aF g f.a) f.i f.j f.c true 0)
theorem vX{f:List (aL×Value)}{g:aL×Int}:g∈dU f a os↔g∈mD (aF f a) a\/∃b∈os,g∈gM (aF f a) a (aF f b) b:=by unfold dU;rw [zt,zl]
theorem aDc{i:List (aL×Value)}(k:aY (aF i a)=true)(m:∀b∈os,aY (aF i b)=true):∀g∈dU i a os,jG g.1.c/\(g.2=0->bP g.1.c=true->aY g.1.c=true):=λg o=>by
 rcases vX.1 o with j|⟨b,l,j⟩
 ·obtain ⟨p,q,yes,_,f,_⟩:=aJd k j;exact ⟨f.good.1,λ_=>f.good.2⟩
 ·obtain ⟨p,q,yes,_,f,_⟩:=aJe k (m b l) j;exact ⟨f.good.1,λ_=>f.good.2⟩
theorem aTm{g:List (aL×Value)}(m:aY (aF g a)=true)(q:∀b∈os,aY (aF g b)=true)(p:a<n)(u:∀b∈os,b<n):∀l∈dU g a os,l.2=0->nO P g n l.1:=λl r e=>by
 rcases vX.1 r with i|⟨b,o,i⟩
 ·obtain ⟨s,t,yes,j,f,k⟩:=aJd m i;rw [k e,e] at f;refine zz (zz ?_);rw [j];exact ⟨rfl,rfl,p,f⟩
 ·obtain ⟨s,t,yes,j,f,k⟩:=aJe m (q b o) i;rw [k e,e] at f;refine zz (zy ?_);rw [j];exact ⟨rfl,p,u b o,f⟩
theorem aJf{f:List (aL×Value)}(k:aY (aF f a)=true):∀(os:List Nat),(∀b∈os,aY (aF f b)=true)->(dU f a os).length<=64+os.length*64:=by
 intro os i;have g:=(vV k).1;have m:(mD (aF f a) a).length<=64:=zj (zn _ _) (aJc g g);have o:(os.flatMap λb=>gM (aF f a) a (aF f b) b).length<=os.length*64:=by
  induction os with
  |nil=>simp
  |cons b os ih=>
   rw [List.flatMap_cons,zr,List.length_cons,zf];have p:(gM (aF f a) a (aF f b) b).length<=64:=zj (zn _ _) (aJc g (vV (i b (by simp))).1);have:=ih (λj l=>i j (by simp [l]));omega
 unfold dU;rw [zr];omega
theorem rI{f:List (aL×Value)}{j:aL×Value}{g:Nat}(i:g<f.length):aF (f++[j]) g=aF f g:=by rw [lO i,lO (by simp;omega),zs i]
theorem aAk(f:List (aL×Value))(g:aL×Value):aF (f++[g]) f.length=g.1.c:=by rw [lO (by simp)];simp
theorem nO.snoc{f:List (aL×Value)}{m:aL}(g:nO P f n m)(p:aL×Value)(r:n<=f.length){l:Nat}(q:n<=l):nO P (f++[p]) l m:=by
 rcases g with g|⟨i,k,o,j⟩|⟨i,k,o,j⟩
 ·exact zy g
 ·exact zz (zy ⟨i,by omega,by omega,by rw [rI (by omega),rI (by omega)];exact j⟩)
 ·exact zz (zz ⟨i,k,by omega,by rw [rI (by omega)];exact j⟩)
theorem bH.bal:∀(g:List (aL×Int)) {L i:List Cd} {n j:Nat} {b k:Bool},bH g L n b i j k->i.length+n=L.length+j
 |[],L,i,n,j,b,k,f=>by
  obtain ⟨rfl,rfl,rfl⟩:=f;rfl
 |x::g,L,i,n,j,b,k,f=>by
  unfold bH at f;split at f
  ·exact bH.bal g f
  ·split at f
   ·exact bH.bal g f
   ·obtain ⟨l,m,f⟩:=f;have:=bH.bal g f;rw [aFt] at this;simp at this;omega
def aAl:Prop:=∀c d e:List Lt,bE c d=true->bE d e=true->bE c e=true
def rJ(L:List Cd)(f:List (aL×Value))(ks:List Nat)(c:List Lt):Prop:=eR c=true\/(∃i∈L,i.c=c)\/∃g∈ks,bE (aF f g) c=true
def uF(L:List Cd)(g:List (aL×Value))(ks:List Nat)(b:Bool)(f:aL×Int):Prop:=((f.2≠0\/bP f.1.c=false)/\b=true)\/(¬(f.2≠0\/bP f.1.c=false)/\rJ L g ks f.1.c)
structure jM(P:List (List Lt))(L:List Cd)(n:Nat)(T:List (aL×Value))(ks:List Nat)(b:Bool):Prop where
 ok:xH L n T ks
 wait:∀x∈L,eR x.c=false/\bP x.c=true/\∃s:aL,tP x s.r s.a s.b s.i s.j/\x.c=s.c/\nO P T T.length s
 step:∀k (h:k<T.length),nO P T k T[k].1
 good:∀k (h:k<T.length),T[k].1.c≠[]/\eR T[k].1.c=false/\bP T[k].1.c=true
 srt:ks.Pairwise (· < ·)
 cnt:n<=40+T.length*6528
 len:L.length<=n
 giv:∀c∈P,rJ L T ks c
 fac:∀k∈ks,∀y∈mD (aF T k) k,uF L T ks b y
 res:∀k∈ks,∀m∈ks,m<=k->∀y∈gM (aF T k) k (aF T m) m,uF L T ks b y
theorem rK{g:List (aL×Value)}{f:Nat}:f∈bZ g ks c↔(f∈ks/\bE c (aF g f)=false)\/f=g.length:=by unfold bZ;rw [zt,zi];simp
theorem jM.clause{g:List (aL×Value)}{b:Bool}(i:jM P L n g ks b){f:Nat}(k:f∈ks):aY (aF g f)=true:=by have j:=i.ok.k f k;rw [lO j];exact i.ok.t _ (zv j)
theorem rJ.take{o:List Lt->Bool}{f:Nat}{l m:List Cd}{g:List (aL×Value)}{t:Cd}{i:aL}{s:Value}(u:aAl)(B:bE i.c i.c=true)(x:∀k∈ks,k<g.length)(A:t.c=i.c)(w:∀j,o j=true->∃k∈ks,bE (aF g k) j=true)(z:eI o f L=some (t,l))(v:∀y∈l,y∈m)(h:rJ L g ks c):rJ m (g++[(i,s)]) (bZ g ks i.c) c:=by
 have r:∀j,(∃k∈ks,bE (aF g k) j=true)->∃k∈bZ g ks i.c,bE (aF (g++[(i,s)]) k) j=true:=by
  rintro j ⟨k,q,p⟩;cases hb:bE i.c (aF g k) with
  |false=>exact ⟨k,rK.2 (zy ⟨q,hb⟩),by rw [rI (x k q)];exact p⟩
  |true=>exact ⟨g.length,rK.2 (zz rfl),by rw [aAk];exact u _ _ _ hb p⟩
 rcases h with h|⟨y,C,e⟩|h
 ·exact zy h
 ·rcases aJ4 _ z y C with rfl|h1|h1
  ·refine zz (zz ⟨g.length,rK.2 (zz rfl),?_⟩);rw [aAk,<-e,A];exact B
  ·exact zz (zy ⟨y,v y h1,e⟩)
  ·rw [<-e];exact zz (zz (r _ (w _ h1)))
 ·exact zz (zz (r _ h))
theorem rJ.end{f:List (aL×Value)}(i:eI (λc=>ks.any λg=>bE (aF f g) c) L.length L=none)(h:rJ L f ks c):eR c=true\/∃g∈ks,bE (aF f g) c=true:=by
 rcases h with h|⟨k,j,e⟩|h
 ·exact zy h
 ·have:=aJ5 _ (zu _) i k j;rw [zk] at this;rw [<-e];exact zz this
 ·exact zz h
theorem jM.take{F q:List Cd}{D:Nat}{f:List (aL×Value)}{b w:Bool}{A:Cd}{g:aL}{o:Value}(W:aAl)(a1:∀c,aY c=true->bE c c=true)(i:jM P L n f ks b)(u:A.c=g.c)(a2:nO P f f.length g)(z:eI (λc=>ks.any λk=>bE (aF f k) c) L.length L=some (A,F))(s:g.c≠[])(b1:f.length<100)
  (v:bH (dU (f++[(g,o)]) f.length (bZ f ks g.c)) F n b q D w):jM P q D (f++[(g,o)]) (bZ f ks g.c) w:=by
 obtain ⟨N,X,b5⟩:=xG _ z;have c1:=aDb _ z;have J:aY g.c=true:=by rw [<-u];exact i.ok.l A N
 obtain ⟨a4,a3,-⟩:=i.wait A N;have x:aY (aF (f++[(g,o)]) f.length)=true:=by rw [aAk];exact J
 have C:∀k∈bZ f ks g.c,aY (aF (f++[(g,o)]) k)=true:=λk j=>by
  rcases rK.1 j with ⟨h1,_⟩|rfl
  ·rw [rI (i.ok.k k h1)];exact i.clause h1
  ·exact x
 have b9:=aG6 f ks g.c;have b8:=i.ok.kl;have b6:=aJf x (bZ f ks g.c) C;have b7:(dU (f++[(g,o)]) f.length (bZ f ks g.c)).length<=6528:=by have:(bZ f ks g.c).length*64<=101*64:=zq (by omega) (zu _);omega
 have b4:=i.cnt;have c0:=i.len;have b2:f.length*6528<=100*6528:=zq (by omega) (zu _);have a0:xH q D (f++[(g,o)]) (bZ f ks g.c):=i.ok.take g o u z (aDc x C) (by omega) (by omega) v;obtain ⟨Q,R,G⟩:=v.all;have M:∀{c:List Lt},rJ L f ks c->rJ q (f++[(g,o)]) (bZ f ks g.c) c:=λs=>s.take W (a1 _ J) i.ok.k u (λE O=>by rw [zk] at O;exact O) z Q
 have H:∀{y:aL×Int},uF L f ks b y->uF q (f++[(g,o)]) (bZ f ks g.c) w y:=λY=>by
  rcases Y with ⟨h1,p⟩|⟨h1,p⟩
  ·exact zy ⟨h1,G.2 (zy p)⟩
  ·exact zz ⟨h1,M p⟩
 have I:∀y∈dU (f++[(g,o)]) f.length (bZ f ks g.c),uF q (f++[(g,o)]) (bZ f ks g.c) w y:=λy l=>by
  by_cases r:y.2≠0\/bP y.1.c=false
  ·exact zy ⟨r,G.2 (zz ⟨y,l,r⟩)⟩
  ·rcases R y l with h1|h1|h1
   ·exact absurd h1 r
   ·exact zz ⟨r,zy h1⟩
   ·exact zz ⟨r,zz (zy h1)⟩
 have c2:=v.len;have b3:=v.bal;refine ⟨a0,λy l=>?_,λk j=>?_,λk j=>?_,?_,?_,?_,λc s=>M (i.giv c s),λk j y l=>?_,λk j m t Z y l=>?_⟩
 ·rcases v.from _ y l with h1|⟨E,h1,p,S,T,U,B⟩
  ·obtain ⟨a6,a7,a5,a8,a9,b0⟩:=i.wait y (X y h1);exact ⟨a6,a7,a5,a8,a9,b0.snoc _ (zu _) (by simp)⟩
  ·refine ⟨by rw [B];exact T,by rw [B];exact S,E.1,U,B,?_⟩;exact aTm x C (by simp) (λk j=>by
    rcases rK.1 j with ⟨V,_⟩|rfl
    ·have:=i.ok.k k V;simp;omega
    ·simp) E h1 p
 ·by_cases e:k<f.length
  ·rw [zs e];exact (i.step k e).snoc _ (Nat.le_of_lt e) (zu _)
  ·obtain rfl:k=f.length:=by simp at j;omega
   simpa using a2.snoc (g,o) (zu _) (zu _)
 ·by_cases e:k<f.length
  ·rw [zs e];exact i.good k e
  ·obtain rfl:k=f.length:=by simp at j;omega
   simp only [List.getElem_concat_length];exact ⟨s,by rw [<-u];exact a4,by rw [<-u];exact a3⟩
 ·unfold bZ;rw [List.pairwise_append];exact ⟨i.srt.filter _,by simp,λk j m t=>by
   simp at t;subst t;exact i.ok.k k (zi.1 j).1⟩
 ·rw [zr,List.length_singleton,zf];omega
 ·omega
 ·rcases rK.1 j with ⟨h1,_⟩|rfl
  ·rw [rI (i.ok.k k h1)] at l;exact H (i.fac k h1 y l)
  ·exact I y (vX.2 (zy l))
 ·rcases rK.1 j with ⟨h1,_⟩|rfl
  ·rcases rK.1 t with ⟨p,_⟩|rfl
   ·rw [rI (i.ok.k k h1),rI (i.ok.k m p)] at l;exact H (i.res k h1 m p Z y l)
   ·have:=i.ok.k k h1;omega
  ·exact I y (vX.2 (zz ⟨m,t,l⟩))
theorem aJg(f:aY c=true):bP c=true:=by unfold aY at f;simp only [zm] at f;exact f.1.1
theorem jM.start(p:∀c∈P,aY c=true)(C:P.length<=40)(l:bH (gN P) [] 0 false L n false):jM P L n [] [] false:=by
 have y:∀o∈gN P,∃a,∃h:a<P.length,o=(⟨1,a,0,0,0,P[a]⟩,0):=λo m=>by
  simp only [gN,List.mem_mapIdx] at m;obtain ⟨k,g,rfl⟩:=m;exact ⟨k,g,rfl⟩
 have B:(gN P).length=P.length:=by simp [gN]
 have z:=l.len;have w:=l.bal;simp at z w;have r:∀i∈L,∃a,∃h:a<P.length,eR i.c=false/\tP i 1 a 0 0 0/\i.c=P[a]:=λi j=>by
  rcases l.from _ i j with h|⟨o,m,_,_,u,v,q⟩
  ·simp at h
  ·obtain ⟨a,f,rfl⟩:=y o m;exact ⟨a,f,by rw [q];exact u,v,q⟩
 refine ⟨⟨λi j=>?_,by simp,by simp,by simp,by omega,by omega⟩,λi j=>?_,λk g=>by simp at g,λk g=>by simp at g,by simp,by simp;omega,by omega,λc x=>?_,λk g=>by simp at g,λk g=>by simp at g⟩
 ·obtain ⟨a,f,_,_,e⟩:=r i j;rw [e];exact p _ (zv f)
 ·obtain ⟨a,f,s,t,e⟩:=r i j;refine ⟨s,by rw [e];exact aJg (p _ (zv f)),⟨1,a,0,0,0,P[a]⟩,t,e,zy ⟨rfl,rfl,rfl,rfl,zo f⟩⟩
 ·obtain ⟨a,f,rfl⟩:=List.getElem_of_mem x;have A:((⟨1,a,0,0,0,P[a]⟩,0):aL×Int)∈gN P:=by
   simp only [gN,List.mem_mapIdx];exact ⟨a,f,rfl⟩
  rcases l.all.2.1 _ A with (h|h)|h|h
  ·exact absurd rfl h
  ·rw [show bP _=true from aJg (p _ (zv f))] at h;cases h
  ·exact zy h
  ·exact zz (zy h)
theorem aTn{p:Nat}{t:Nat->List (aL×Value)->List Nat->Bool->Prop}(z:∀c d,aY c=true->aY d=true->kG c d)(O:aAl)(S:∀c,aY c=true->bE c c=true)(a2:p<=100)
  (F:∀L n f ks,jM P L n f ks false->f.length<=p->eI (λc=>ks.any λg=>bE (aF f g) c) L.length L=none->t 2 f ks false)
  (C:∀L n f ks,jM P L n f ks true->f.length<=p->eI (λc=>ks.any λg=>bE (aF f g) c) L.length L=none->cL p t L n f ks true)
  (I:∀L n f ks b j s,jM P L n f ks b->f.length<=p->nO P f f.length j->j.c=[]->t 1 (f++[(j,s)]) ks b)
  (R:∀L n f ks b,jM P L n f ks b->f.length=p->(∃k∈L,k.c≠[]/\∀g∈ks,bE (aF f g) k.c=false)->t 3 f ks b):∀(v:Nat) (L:List Cd) (n:Nat) (f:List (aL×Value)) (ks:List Nat) (b:Bool),jM P L n f ks b->f.length+v=p->cL p t L n f ks b:=by
 intro v;induction v with
 |zero=>
  intro L n f ks b i Q;have r:∀k∈L,∀g∈ks,kG (aF f g) k.c:=λk o g m=>z _ _ (i.clause m) (i.ok.l k o)
  cases hn:eI (λc=>ks.any λg=>bE (aF f g) c) L.length L with
  |none=>
   cases b with
   |false=>exact cL.sat r hn (F L n f ks i (by omega) hn)
   |true=>exact C L n f ks i (by omega) hn
  |some y=>
   obtain ⟨k,J⟩:=y;obtain ⟨o,-,D⟩:=xG _ hn;obtain ⟨-,-,j,w,q,x⟩:=i.wait k o;by_cases l:j.c=[]
   ·exact cL.unsat j ⟨w,q⟩ r hn l (I L n f ks b j _ i (by omega) x l)
   ·refine cL.out r hn (by rw [q];exact l) (by omega) (R L n f ks b i (by omega) ⟨k,o,by rw [q];exact l,λg m=>?_⟩);cases hb:bE (aF f g) k.c with
    |false=>rfl
    |true=>
     have:(ks.any λg=>bE (aF f g) k.c)=true:=zk.2 ⟨g,m,hb⟩;rw [this] at D;cases D
 |succ v ih=>
  intro L n f ks b i Q;have r:∀k∈L,∀g∈ks,kG (aF f g) k.c:=λk o g m=>z _ _ (i.clause m) (i.ok.l k o)
  cases hn:eI (λc=>ks.any λg=>bE (aF f g) c) L.length L with
  |none=>
   cases b with
   |false=>exact cL.sat r hn (F L n f ks i (by omega) hn)
   |true=>exact C L n f ks i (by omega) hn
  |some y=>
   obtain ⟨k,J⟩:=y;obtain ⟨o,U,-⟩:=xG _ hn;obtain ⟨-,-,j,w,q,x⟩:=i.wait k o;by_cases l:j.c=[]
   ·exact cL.unsat j ⟨w,q⟩ r hn l (I L n f ks b j _ i (by omega) x l)
   ·have G:aY j.c=true:=by rw [<-q];exact i.ok.l k o
    obtain ⟨s,u⟩ : ∃s,Value.slice k.ad k.ln k.cp=s:=⟨_,rfl⟩;have A:aY (aF (f++[(j,s)]) f.length)=true:=by rw [aAk];exact G
    have E:∀g∈bZ f ks j.c,aY (aF (f++[(j,s)]) g)=true:=λg m=>by
     rcases rK.1 m with ⟨B,_⟩|rfl
     ·rw [rI (i.ok.k g B)];exact i.clause B
     ·exact A
    have a0:=aG6 f ks j.c;have Z:=i.ok.kl;have X:=aJf A (bZ f ks j.c) E;have Y:(dU (f++[(j,s)]) f.length (bZ f ks j.c)).length<=6528:=by have:(bZ f ks j.c).length*64<=101*64:=zq (by omega) (zu _);omega
    have W:=i.cnt;have a1:=i.len;have a3:=aDb _ hn;have V:f.length*6528<=100*6528:=zq (by omega) (zu _);refine cL.take j ⟨w,q⟩ r hn l (by omega) (λg m=>z _ _ G (i.clause m)) ?_ ?_ ?_ ?_
    ·rw [u];exact aDc A E
    ·rw [u];omega
    ·rw [u];omega
    ·intro M T N H;rw [u] at H ⊢;exact ih M T _ _ N (i.take O S q x hn l (by omega) H) (by simp;omega)
