import Derived.Test.YtmelidkanelpbaaGreatDoorGClsH
import Derived.Test.YtmelidkanelpbaaGreatDoorXSr7H
import Derived.Test.YtmelidkanelpbaaGreatDoorNumEqH
open List renaming mem_cons→zy,mem_of_getElem?→zx,getElem_mem→zv,mem_append→zu,length_append→zt,mem_map→zs,mem_cons_of_mem→zr,getElem?_eq_getElem→zp,length_eq_zero_iff→zo,getElem?_map→zn,append_assoc→zm,getElem?_append_right→zl,mem_flatMap→zk,mem_eraseIdx_iff_getElem→zj,length_pos_iff→zi,flatMap_cons→zh,length_filterMap_le→zg,map_cons→zf,length_cons→ze,mem_filterMap→zc,getElem_map→zb,all_eq_true→z0,length→z1
open Nat renaming le_trans→zd
open Or renaming inr→zw,inl→zq
open Prod renaming snd→zz
namespace Go.Proofs.YtmelidkanelpbaaGreatDoor
open Go.RowKit Go.Shelf Go.WideMaps
set_option maxRecDepth 100000
variable{yes:Bool}{e j o1 o2:Int}{P:List (List Lt)}{T:List (aK×Value)}{c d out:List Lt}{os:List Nat}{l x y:List Nd}{M M0:List Tg}{a b i n:Nat}
theorem sY{f:Tg}(g:M[i]?=some f):((aG (M.map zz)).ch i).length=aY f.2:=by unfold aG;simp only [zn,g,Option.map_some,yJ]
theorem sZ(k:(aG (M.map zz)).named i):∃f,M[i]?=some f/\aL f.2=false/\(aG (M.map zz)).lab i=f.2:=by
 obtain ⟨n,g,m⟩:=nS k;rw [zn] at g;cases ht:M[i]? with
 |none=>rw [ht] at g;cases g
 |some f=>
  rw [ht] at g;obtain rfl:f.2=n:=by simpa using g
  exact ⟨f,rfl,m,by unfold aG;simp [ht]⟩
theorem aD6(f:¬(aG (M.map zz)).named i):(aG (M.map zz)).ch i=[]:=(aCm (θ:=λ_ _=>default) f).1
theorem aIs{E:List (Int×Lt)}{τ:Int->Nd}(a8:D1 x)(a9:D1 y)(c2:∀k∈E,D1 k.2.2){M:List Tg}(I:aN o1 x++aN o2 y++aW E=M){H:Nat->Nat}{b0:List (List Nd)}(b9:jZ (aG (M.map zz)) (cZ M 0 x.length))(d5:∀u D,H u=H D↔cZ M 0 x.length u D)(d4:aP (λu l=>aX (aG (M.map zz)) (cZ M 0 x.length) H [u] l) (cS (aN o1 x++aN o2 y).length E) b0):∃r:Int->Int->Nd,(∀s n,(∃d9,r s n=τ d9)\/∃f∈M,aL f.2=false/\aY f.2=0/\r s n=f.2)/\bD (r o1) x=bD (r o2) y/\aP (λk l=>bD τ l=bD (r k.1) k.2.2) E b0:=by
 classical
 have b7:=aA4 x y o1 o2 E;have d2:=aA5 (o1:=o1) (o2:=o2) a8 a9 c2;rw [I] at b7;have a3:∀i,∀D∈(aG (M.map zz)).ch i,(aG (M.map zz)).ch D=[]:=by rw [b7];exact aA2 d2
 let C:Nat->Nat->Prop:=cZ M 0 x.length;have b3:∀i,C i i:=λi=>Cl.refl i
 have b4:∀i j,C i j->C j i:=λ_ _ g=>Cl.symm g
 have a2:∀i j m,C i j->C j m->C i m:=λ_ _ _ g m=>Cl.trans g m
 let V:Nat->Nd:=λi=>if g:∃j,C i j/\(aG (M.map zz)).named j then (aG (M.map zz)).lab (Classical.choose g) else τ (H i:Int)
 have X:∀i j,C i j->(aG (M.map zz)).named j->V i=(aG (M.map zz)).lab j:=λi j t B=>by
  have o:∃j,C i j/\(aG (M.map zz)).named j:=⟨j,t,B⟩;have e:V i=(aG (M.map zz)).lab (Classical.choose o):=dif_pos o;obtain ⟨z,G⟩:=Classical.choose_spec o;rw [e];exact b9 _ _ (a2 _ _ _ (b4 _ _ z) t) G B
 have Y:∀i,(∀j,C i j->¬(aG (M.map zz)).named j)->V i=τ (H i:Int):=λi q=>dif_neg λ⟨j,p,v⟩=>q j p v
 have a5:∀i j,C i j->V i=V j:=λi j t=>by
  by_cases o:∃m,C i m/\(aG (M.map zz)).named m
  ·obtain ⟨m,p,v⟩:=o;rw [X i m p v,X j m (a2 _ _ _ (b4 _ _ t) p) v]
  ·rw [Y i (λm p v=>o ⟨m,p,v⟩),Y j (λm p v=>o ⟨m,a2 _ _ _ t p,v⟩),(d5 i j).2 t]
 have S:M[0]?=some (o1,x.headD default)/\aL (x.headD default)=false:=by obtain ⟨a,b1,rfl,z,_⟩:=a8;rw [<-I];exact ⟨by simp [aN],z⟩
 have p:M[x.length]?=some (o2,y.headD default)/\aL (y.headD default)=false:=by obtain ⟨a,b1,rfl,z,_⟩:=a9;rw [<-I,zm,zl (by simp [aN])];exact ⟨by simp [aN],z⟩
 have L:∀{i:Nat} {f:Tg},M[i]?=some f->aL f.2=false->(aG (M.map zz)).named i:=λq F=>(fM (by rw [zn,q];rfl)).2 F
 have U:∀i j,C i j->((aG (M.map zz)).ch i).length=((aG (M.map zz)).ch j).length:=by
  intro i j g;induction g with
  |refl=>rfl
  |@base i j g=>
   rcases g with g|⟨rfl,rfl⟩
   ·have:=congrArg z1 (aCn (θ:=λ_ _=>default) g).2;simpa using this
   ·have e:=b9 0 x.length (Cl.base (zw ⟨rfl,rfl⟩)) (L S.1 S.2) (L p.1 p.2);obtain ⟨f,w,_,O⟩:=sZ (L S.1 S.2);obtain ⟨c7,R,_,a1⟩:=sZ (L p.1 p.2);rw [sY w,sY R,<-O,<-a1,e]
  |symm _ ih=>exact ih.symm
  |trans _ _ ih1 ih2=>exact ih1.trans ih2
  |@down i j m u D _ _ _ hp a7 _=>rw [a3 i u (zx hp),a3 j D (zx a7)]
 have b6:∀i j,C i j->uD (aG (M.map zz)) V i j:=λi j t=>by
  refine ⟨a5 i j t,?_⟩;by_cases q:(aG (M.map zz)).named i
  ·by_cases B:(aG (M.map zz)).named j
   ·refine List.ext_getElem (by simpa using U i j t) λm z G=>?_
    rw [zb,zb];exact a5 _ _ (Cl.down t q B (zp (by simpa using z)) (zp (by simpa using G)))
   ·have e:=U i j t;rw [aD6 B] at e ⊢;rw [zo.1 e]
  ·have e:=U i j t;rw [aD6 q] at e ⊢;rw [zo.1 e.symm]
 have b8:∀i,(aG (M.map zz)).named i->V i=(aG (M.map zz)).lab i:=λi q=>X i i (b3 i) q
 let r:Int->Int->Nd:=λs n=>if g:∃i:Nat,∃f:Tg,M[i]?=some f/\aL f.2=true/\f.1=s/\f.2.2=n then V (Classical.choose g) else τ 0
 have c4:∀i,i<M.length->V i=kI r M i:=λi q=>by
  have J:M[i]?=some M[i]:=zp q;rw [uE J];by_cases F:aL M[i].2=true
  ·rw [aH F];have o:∃m:Nat,∃f:Tg,M[m]?=some f/\aL f.2=true/\f.1=M[i].1/\f.2.2=M[i].2.2:=⟨i,M[i],J,F,rfl,rfl⟩;have e:r M[i].1 M[i].2.2=V (Classical.choose o):=dif_pos o;obtain ⟨f,w,a0,O,c8⟩:=Classical.choose_spec o;rw [e];refine a5 _ _ (Cl.base (zq ?_));rw [(kE J F).1,(kE w a0).1,O,c8]
  ·rw [aI F];have c3:aL M[i].2=false:=by simpa using F
   obtain ⟨f,w,_,O⟩:=sZ (L J c3);rw [b8 i (L J c3),O];rw [J] at w;rw [<-Option.some.inj w]
 have a6:∀(N:List Tg) (s:Int) (l:List Nd) (Z:List Tg),D1 l->M=N++aN s l++Z->gx (aG (M.map zz)) V N.length=bD (r s) l:=λN s l Z c1 e=>by
  have:=aA3 (θ:=r) (A:=N) (C:=Z) (o:=s) c1;rw [<-e] at this;rw [<-this];obtain ⟨a,b1,rfl,_,G,d6⟩:=c1;have e0:N.length+1+b1.length<=M.length:=by rw [e];simp [aN];omega
  unfold gx;rw [c4 _ (by omega)];congr 1
  refine List.map_congr_left λD a7=>c4 D ?_
  rw [e,aCl G d6,List.mem_range'_1] at a7;omega
 refine ⟨r,λs n=>?_,?_,?_⟩
 ·by_cases o:∃i:Nat,∃f:Tg,M[i]?=some f/\aL f.2=true/\f.1=s/\f.2.2=n
  ·have e:r s n=V (Classical.choose o):=dif_pos o;obtain ⟨f,w,a0,_,_⟩:=Classical.choose_spec o;rw [e];generalize Classical.choose o=i at w;by_cases B:∃j,C i j/\(aG (M.map zz)).named j
   ·obtain ⟨j,c5,c6⟩:=B;obtain ⟨c7,R,c9,a1⟩:=sZ c6;refine zw ⟨c7,zx R,c9,?_,by rw [X i j c5 c6,a1]⟩;rw [<-sY R,<-U i j c5,sY w];exact jN a0
   ·exact zq ⟨_,Y i λj p v=>B ⟨j,p,v⟩⟩
  ·have e:r s n=τ 0:=dif_neg o;exact zq ⟨0,e⟩
 ·have d0:=a6 [] o1 _ (aN o2 y++aW E) a8 (by rw [<-I];simp);have b2:=a6 (aN o1 x) o2 _ (aW E) a9 I.symm;rw [show (aN o1 x).length=x.length by simp [aN]] at b2;rw [<-d0,<-b2];have c0:=b6 0 x.length (Cl.base (zw ⟨rfl,rfl⟩));unfold gx;rw [List.length_nil,c0.1,c0.2]
 ·have d3:∀u l,aX (aG (M.map zz)) C H [u] l->bD τ l=gx (aG (M.map zz)) V u:=λu l g=>by
   have:=aH6 a3 b8 (λi q=>aD6 q) b3 b6 (λi q=>(Y i q).symm) g;simpa using this
  have d7:∀(A:List (Int×Lt)) (Q:List Tg) (W:List (List Nd)),M=Q++aW A->(∀k∈A,D1 k.2.2)->aP (λu l=>aX (aG (M.map zz)) C H [u] l) (cS Q.length A) W->aP (λk l=>bD τ l=bD (r k.1) k.2.2) A W:=by
   intro A;induction A with
   |nil=>
    intro Q W _ _ g;cases g;exact aP.nil
   |cons k A ih=>
    intro Q W a4 b5 g;rw [cS] at g;cases g with
    |cons z G=>
     have e:aW (k::A)=aN k.1 k.2.2++aW A:=by simp [aW,aN]
     rw [e,<-zm] at a4;refine aP.cons ?_ ?_
     ·rw [d3 _ _ z];exact a6 _ _ _ _ (b5 k (by simp)) a4
     ·refine ih (Q++aN k.1 k.2.2) _ a4 (λd8 d1=>b5 d8 (by simp [d1])) ?_;rw [zt,show (aN k.1 k.2.2).length=k.2.2.length by simp [aN]];exact G
  exact d7 E (aN o1 x++aN o2 y) b0 I.symm c2 d4
theorem aD7{k:List (Int×Lt)}{σ:Int->Nd}(A:D1 x)(B:D1 y)(v:∀f∈k,D1 f.2.2){out:List Lt}(h:dU (aN o1 x++aN o2 y) 0 x.length k out true 0):∃g:Int->Int->Nd,(∀o n,(∃q,g o n=σ q)\/∃p∈aN o1 x++aN o2 y++aW k,aL p.2=false/\aY p.2=0/\g o n=p.2)/\bD (g o1) x=bD (g o2) y/\∀f∈k,∃m∈out,m.1=f.2.1/\bD σ m.2=bD (g f.1) f.2.2:=by
 obtain ⟨M,r⟩ : ∃M,aN o1 x++aN o2 y++aW k=M:=⟨_,rfl⟩;unfold dU at h;rw [r] at h ⊢;rcases h with ⟨_,_,h,_⟩|⟨⟨t,_⟩,U,G,w,u,⟨_,_,h,_⟩|⟨_,rfl,_,_⟩⟩
 ·cases h
 ·cases h
 obtain ⟨τ,Q,R,-⟩:=aQp (bS k G) σ;obtain ⟨g,L,N,O⟩:=aIs (τ:=τ) A B v r t w u;refine ⟨g,λo n=>?_,N,λf z=>?_⟩
 ·rcases L o n with ⟨q,e⟩|h
  ·obtain ⟨S,s⟩:=Q q;exact zq ⟨S,e.trans s⟩
  ·exact zw h
 ·obtain ⟨m,H,I,J⟩:=(aHc O).1 f z;obtain ⟨C,D,E,F⟩:=R m H;exact ⟨C,D,E.trans I,F.trans J⟩
theorem aIt:∀(g:List (Int×Lt)) (n:Nat),(∀r∈g,r.2.2≠[])->∀f∈cS n g,f<n+(aW g).length
 |[],n,_,f,h=>by simp [cS] at h
 |r::rs,n,hne,f,h=>by
  have p:(aW (r::rs)).length=r.2.2.length+(aW rs).length:=by simp [aW]
  have o:0<r.2.2.length:=zi.2 (hne r (by simp));rw [cS] at h;rcases zy.1 h with rfl|h
  ·omega
  ·have:=aIt rs _ (λm k=>hne m (by simp [k])) f h;omega
theorem aIu{g q:Type}{R:g->q->Prop}:∀(l:List g),(∀x∈l,∃y,R x y)->∃f,aP R l f
 |[],_=>⟨[],aP.nil⟩
 |x::l,h=>by
  obtain ⟨y,m⟩:=h x (by simp);obtain ⟨f,k⟩:=aIu l λp o=>h p (by simp [o])
  exact ⟨y::f,aP.cons m k⟩
theorem aIv(M0:List Tg)(a b:Nat)(f:List (Int×Lt))(s:∀u∈f,u.2.2≠[]):∃x:List Lt×Bool×Int,dU M0 a b f x.1 x.2.1 x.2.2:=by
 by_cases g:xA (M0++aW f) a b
 ·obtain ⟨o,q⟩:=aH5 (M0++aW f) a b;obtain ⟨m,p⟩:=aIu (R:=λk l=>aX (aG ((M0++aW f).map zz)) (cZ (M0++aW f) a b) o [k] l) (cS M0.length f) (λk t=>(g.2 k (by have:=aIt f M0.length s k t;simpa using this)).exp);by_cases r:aR (aV (bS f m))<=500
  ·exact ⟨(_,true,0),zw ⟨g,o,m,q,p,zw ⟨r,rfl,rfl,rfl⟩⟩⟩
  ·exact ⟨([],false,4),zw ⟨g,o,m,q,p,zq ⟨by omega,rfl,rfl,rfl⟩⟩⟩
 ·exact ⟨([],false,0),zq ⟨g,rfl,rfl,rfl⟩⟩
theorem aIw{k:List (List Lt×Nat)}{r:Nat}(m:∀f∈k,∀l∈f.1,l.2≠[]):∀g∈aZ r k,g.2.2≠[]:=by intro g q;obtain ⟨f,p,o⟩:=sD _ _ g q;exact m f p _ o
theorem aD8(g:∀l∈c,l.2≠[])(i j:Nat):dU (aN 0 (c.getD i default).2++aN 0 (c.getD j default).2) 0 (c.getD i default).2.length (aZ 0 [(c,j)]) (kF c i j).1 (kF c i j).2.1 (kF c i j).2.2:=
 Classical.epsilon_spec (aIv _ _ _ _ (aIw λk f=>by simp at f;subst f;exact g))
theorem aD9(g:∀l∈c,l.2≠[])(k:∀l∈d,l.2≠[])(i j:Nat):dU (aN 0 (c.getD i default).2++aN 1 (d.getD j default).2) 0 (c.getD i default).2.length (aZ 0 [(c,i),(d,j)]) (kG c i d j).1 (kG c i d j).2.1 (kG c i d j).2.2:=
 Classical.epsilon_spec (aIv _ _ _ _ (aIw λm f=>by
  simp at f;rcases f with rfl|rfl
  ·exact g
  ·exact k))
theorem aIx{f:List Cd}(g:a<f.length)(k:b<f.length):(oC f a b g k).Perm f:=List.set_set_perm g k
theorem aIy:∀(f:Nat) (g:List Cd) (k:Nat),(iH f g k).Perm g
 |0,_,_=>List.Perm.refl _
 |f+1,g,k=>by
  unfold iH;split
  ·split
   ·exact (aIy f _ _).trans (aIx _ _)
   ·exact List.Perm.refl _
  ·exact List.Perm.refl _
theorem aIz:∀(f:Nat) (g:List Cd) (k:Nat),(kY f g k).Perm g
 |0,_,_=>List.Perm.refl _
 |f+1,g,k=>by
  unfold kY;split
  ·exact (aIz f _ _).trans (aIx _ _)
  ·exact List.Perm.refl _
theorem vW(x:Cd)(f:List Cd):(jU (x::f)).Perm f:=by
 unfold jU;cases hl:(x::f).getLast? with
 |none=>simp at hl
 |some y=>
  simp only;refine (aIz _ _ _).trans ?_;cases f with
  |nil=>simp
  |cons z s=>
   have g:(z::s).getLast?=some y:=by simpa [List.getLast?_cons_cons] using hl
   have k:(z::s).dropLast++[y]=z::s:=by rw [List.getLast?_eq_some_getLast (by simp)] at g;rw [<-Option.some.inj g];exact List.dropLast_concat_getLast (by simp)
   rw [List.set_cons_zero,show (x::z::s).length-1=s.length+1 by simp,List.take_succ_cons];rw [show (z::s).take s.length=(z::s).dropLast by rw [List.dropLast_eq_take];simp];exact ((List.perm_append_singleton y _).symm).trans (by rw [k])
theorem aJ0{o:List Lt->Bool}:∀(f:Nat) {m g:List Cd} {x:Cd},eH o f m=some (x,g)->∀k∈m,k=x\/k∈g\/o k.c=true
 |0,m,g,x,h,_,_=>by cases h
 |f+1,[],g,x,h,_,_=>by cases h
 |f+1,y::r,g,x,h,k,hz=>by
  unfold eH at h;simp only at h;split at h
  ·rename_i p;rcases zy.1 hz with rfl|hz
   ·exact zw (zw p)
   ·exact aJ0 f h k ((vW y r).mem_iff.2 hz)
  ·cases h;rcases zy.1 hz with rfl|hz
   ·exact zq rfl
   ·exact zw (zq ((vW _ r).mem_iff.2 hz))
theorem aJ1{m:List Lt->Bool}:∀(f:Nat) {g:List Cd},g.length<=f->eH m f g=none->∀k∈g,m k.c=true
 |0,g,hl,_,k,hz=>by
  obtain rfl:g=[]:=zo.1 (by omega);simp at hz
 |f+1,[],_,_,k,hz=>by simp at hz
 |f+1,y::r,hl,h,k,hz=>by
  unfold eH at h;simp only at h;split at h
  ·rename_i o;rcases zy.1 hz with rfl|hz
   ·exact o
   ·exact aJ1 f (by rw [(vW y r).length_eq];simp at hl;omega) h k ((vW y r).mem_iff.2 hz)
  ·cases h
theorem aDa{m:List Lt->Bool}:∀(f:Nat) {k g:List Cd} {x:Cd},eH m f k=some (x,g)->g.length+1<=k.length
 |0,k,g,x,h=>by cases h
 |f+1,[],g,x,h=>by cases h
 |f+1,y::r,g,x,h=>by
  unfold eH at h;simp only at h;split at h
  ·have:=aDa f h;rw [(vW y r).length_eq] at this;simp;omega
  ·cases h;rw [(vW _ r).length_eq];simp
theorem bI.all:∀(g:List (aK×Int)) {o m:List Cd} {n u:Nat} {b t:Bool},bI g o n b m u t->(∀y∈o,y∈m)/\(∀x∈g,(x.2≠0\/bL x.1.c=false)\/dP x.1.c=true\/∃y∈m,y.c=x.1.c)/\(t=true↔b=true\/∃x∈g,x.2≠0\/bL x.1.c=false)
 |[],o,m,n,u,b,t,f=>by
  obtain ⟨rfl,rfl,rfl⟩:=f;exact ⟨λy hy=>hy,λx B=>by simp at B,by simp⟩
 |x::g,o,m,n,u,b,t,f=>by
  unfold bI at f;split at f
  ·rename_i s;obtain ⟨p,q,r⟩:=bI.all g f;refine ⟨p,λy hy=>?_,?_⟩
   ·rcases zy.1 hy with rfl|hy
    ·exact zq s
    ·exact q y hy
   ·rw [r];simp [s]
  ·rename_i s;split at f
   ·rename_i A;obtain ⟨p,q,r⟩:=bI.all g f;refine ⟨p,λy hy=>?_,?_⟩
    ·rcases zy.1 hy with rfl|hy
     ·exact zw (zq A)
     ·exact q y hy
    ·rw [r];constructor
     ·rintro (k|⟨y,hy,k⟩)
      ·exact zq k
      ·exact zw ⟨y,zr _ hy,k⟩
     ·rintro (k|⟨y,hy,k⟩)
      ·exact zq k
      ·rcases zy.1 hy with rfl|hy
       ·exact absurd k s
       ·exact zw ⟨y,hy,k⟩
   ·obtain ⟨v,w,f⟩:=f;obtain ⟨p,q,r⟩:=bI.all g f;have z:∀y∈o++[eD x.1 v w n],y∈m:=λy hy=>p y ((aIy _ _ _).mem_iff.2 hy)
    refine ⟨λy hy=>z y (by simp [hy]),λy hy=>?_,?_⟩
    ·rcases zy.1 hy with rfl|hy
     ·exact zw (zw ⟨eD y.1 v w n,z _ (by simp),rfl⟩)
     ·exact q y hy
    ·rw [r];constructor
     ·rintro (k|⟨y,hy,k⟩)
      ·exact zq k
      ·exact zw ⟨y,zr _ hy,k⟩
     ·rintro (k|⟨y,hy,k⟩)
      ·exact zq k
      ·rcases zy.1 hy with rfl|hy
       ·exact absurd k s
       ·exact zw ⟨y,hy,k⟩
theorem bI.from:∀(F:List (aK×Int)) {o p:List Cd} {n r:Nat} {b q:Bool},bI F o n b p r q->∀y∈p,y∈o\/∃x∈F,x.2=0/\bL x.1.c=true/\dP x.1.c=false/\tU y x.1.r x.1.a x.1.b x.1.i x.1.j/\y.c=x.1.c
 |[],o,p,n,r,b,q,g,y,hy=>by
  obtain ⟨rfl,rfl,rfl⟩:=g;exact zq hy
 |x::F,o,p,n,r,b,q,g,y,hy=>by
  unfold bI at g;split at g
  ·rcases bI.from F g y hy with f|⟨m,f,k⟩
   ·exact zq f
   ·exact zw ⟨m,zr _ f,k⟩
  ·rename_i s;have t:x.2=0:=Classical.byContradiction λe=>s (zq e)
   have u:bL x.1.c=true:=by
    cases hf:bL x.1.c
    ·exact absurd (zw hf) s
    ·rfl
   split at g
   ·rcases bI.from F g y hy with f|⟨m,f,k⟩
    ·exact zq f
    ·exact zw ⟨m,zr _ f,k⟩
   ·rename_i v;obtain ⟨w,z,g⟩:=g;rcases bI.from F g y hy with f|⟨m,f,k⟩
    ·rcases zu.1 (aC5 _ _ _ _ f) with h3|h3
     ·exact zq h3
     ·simp at h3;subst h3;exact zw ⟨x,by simp,t,u,by simpa using v,⟨rfl,rfl,rfl,rfl,rfl⟩,rfl⟩
    ·exact zw ⟨m,zr _ f,k⟩
theorem aJ2{g:List (Int×Lt)}{f:List (List Nd)}:∀x∈bS g f,x.2∈f:=by
 intro x hx;unfold bS at hx;induction g generalizing f with
 |nil=>simp at hx
 |cons r g ih=>
  cases f with
  |nil=>simp at hx
  |cons l f=>
   simp only [List.zipWith_cons_cons,zy] at hx;rcases hx with rfl|hx
   ·simp
   ·exact zr _ (ih hx)
theorem aJ3{rest:List (Int×Lt)}{ls:List (List Nd)}:(bS rest ls).length<=rest.length:=by unfold bS;rw [List.length_zipWith];omega
theorem aJ4(c:List Lt):(aV c).length<=c.length:=by have f:=(pJ (bT c)).1;have g:=(jW c).1;show (cW (bT c)).1.length<=c.length;omega
theorem aTk{rest:List (Int×Lt)}(o:dU M0 a b rest out yes e)(v:∀k∈M0++aW rest,k.2.1.size<=80)(D:rest.length<=100):jH out:=by
 have m:jH []:=⟨by simp,λx f=>by simp at f⟩;rcases o with ⟨_,rfl,_⟩|⟨_,G,ls,_,t,⟨_,rfl,_⟩|⟨C,rfl,_,_⟩⟩
 ·exact m
 ·exact m
 ·refine ⟨by have:=aJ4 (bS rest ls);have:=aJ3 (rest:=rest) (ls:=ls);omega,λx f=>⟨by have:=vO _ x f;omega,λE q=>?_⟩⟩;obtain ⟨y,A,_,r⟩:=oI (sS (bS rest ls)).2 x f;obtain ⟨n,w,s⟩:=oI r _ (zv q);have B:=aJ2 y ((jW _).2.2 y A);obtain ⟨F,_,p⟩:=oI t y.2 B;rcases s with ⟨_,g,_⟩|⟨g,e⟩
  ·rw [wZ g];decide
  ·rw [<-e];have u:=(aMj p).2 n w g;obtain ⟨k,z,rfl⟩:=zs.1 u;exact v k z
theorem aTl(p:∀x∈c,mE x.2 1/\(∀n∈x.2,aL n=false->dC n=true)/\aL (x.2.headD (⟨#[]⟩,0))=false)(f:bL (aV c)=true):aS (aV c)=true:=by
 obtain ⟨D,m⟩:=sS c;have E:aR (aV c)<=60:=by unfold bL at f;simp at f;exact f.2
 have G:(cW (bT c)).2.length<=60:=by have:=(pJ (bT c)).2;rw [aH1 m] at this;omega
 unfold aS;rw [f,aGy,Bool.true_and,Bool.and_eq_true,z0];refine ⟨λy o=>?_,by simp⟩;obtain ⟨x,B,_,g⟩:=oI m y o;obtain ⟨z,v,q⟩:=p x ((jW c).2.2 x B);have w:∀k∈y.2,dC k=true:=by
  intro k t;obtain ⟨n,u,s⟩:=oI g k t;rcases s with ⟨_,b,_,H,C,I⟩|⟨a,rfl⟩
  ·unfold dC;rw [aH b];have:=(List.getElem?_eq_some_iff.1 C).1;simp;omega
  ·exact v n u a
 have A:=aFf _ 1 (aH0 g 1 z) w;have F:=vO (aV c) y o;unfold gF iZ;have r:aL (y.2.headD (⟨#[]⟩,0))=false:=by rw [<-aH2 g];exact q
 rw [A,r];simp;omega
theorem aTm{g:List (Int×Lt)}(p:dU M0 a b g out yes e)(s:∀m∈M0++aW g,dC m.2=true)(w:∀f∈cS M0.length g,(aG ((M0++aW g).map zz)).named f)(q:bL out=true):aS out=true:=by
 have o:aS []=true:=by kernel_rfl
 rcases p with ⟨_,rfl,_⟩|⟨F,H,G,_,r,⟨_,rfl,_⟩|⟨E,rfl,_,_⟩⟩
 ·exact o
 ·exact o
 ·refine aTl (λx B=>?_) q;obtain ⟨f,v,k⟩:=oI r x.2 (aJ2 x B);obtain ⟨C,D⟩:=aMj k;refine ⟨C,λn t A=>?_,?_⟩
  ·obtain ⟨m,z,rfl⟩:=zs.1 (D n t A);exact s m z
  ·have u:=w f v;generalize x.2=l at k;cases k with
   |var h1 _=>exact absurd u (h1 f (Cl.refl f))
   |name h1 h2 _=>exact h2
theorem aJ5:∀(g:List (Int×Lt)) (f:List Tg),(∀r∈g,r.2.2≠[])->∀k∈cS f.length g,∃r∈g,((f++aW g).map zz)[k]?=r.2.2[0]?
 |[],f,_,k,hp=>by simp [cS] at hp
 |r::g,f,h,k,hp=>by
  have e:f++aW (r::g)=(f++r.2.2.map λn=>(r.1,n))++aW g:=by simp [aW]
  simp only [cS,zy] at hp;rcases hp with rfl|hp
  ·refine ⟨r,by simp,?_⟩;have m:=h r (by simp);cases hr:r.2.2 with
   |nil=>exact absurd hr m
   |cons n l=>
    simp [aW,hr]
  ·have q:f.length+r.2.2.length=(f++r.2.2.map λn=>(r.1,n)).length:=by simp
   rw [q] at hp;obtain ⟨t,o,p⟩:=aJ5 g _ (λx s=>h x (by simp [s])) k hp;exact ⟨t,by simp [o],by rw [e];exact p⟩
theorem aJ6{k:List (Int×Lt)}(p:dU M0 a b k out yes e)(u:∀m∈M0,dC m.2=true)(B:∀f∈k,gF f.2.2=true)(v:k.length<=100):jH out/\(bL out=true->aS out=true):=by
 have o:∀f∈k,aQ f.2.2 1=true/\aL (f.2.2.headD (⟨#[]⟩,0))=false:=by intro f g;have:=B f g;unfold gF iZ at this;simp at this;exact ⟨this.1.1,by simpa using this.2⟩
 have t:∀m∈M0++aW k,dC m.2=true:=by
  intro m ht;rcases zu.1 ht with ht|ht
  ·exact u m ht
  ·obtain ⟨f,g,w⟩:=zk.1 ht;obtain ⟨n,z,rfl⟩:=zs.1 w;exact wY (o f g).1 n z
 have s:∀f∈k,f.2.2≠[]:=by intro f g e;have:=(o f g).1;rw [e] at this;simp [aQ] at this
 refine ⟨aTk p (λm ht=>aFh (t m ht)) v,aTm p t λC A=>?_⟩;obtain ⟨f,g,r⟩:=aJ5 k M0 s C A;have q:=(o f g).2;cases hr2:f.2.2 with
 |nil=>exact absurd hr2 (s f g)
 |cons n l=>
  rw [hr2] at r q;exact (fM (n:=n) (by simpa using r)).2 (by simpa using q)
theorem vX(f:aS c=true):c.length<=8/\∀l∈c,gF l.2=true:=by unfold aS bL at f;simp only [Bool.and_eq_true,z0,decide_eq_true_eq] at f;exact ⟨f.1.1.1,λl g=>f.1.2 l g⟩
theorem aTn(f:gF l=true):∀n∈l,dC n=true:=by unfold gF iZ at f;simp at f;exact wY f.1.1
theorem aAj{o:Int}(k:gF l=true):∀g∈aN o l,dC g.2=true:=by intro g f;unfold aN at f;obtain ⟨n,m,rfl⟩:=zs.1 f;exact aTn k n m
theorem aAk(f:a<c.length):c.getD a default∈c:=by rw [List.getD_eq_getElem?_getD,zp f];exact zv f
theorem jX.good{i:Int}(g:jX c d i j out yes e):jH out/\(bL out=true->aS out=true):=by
 have m:jH []/\(bL []=true->aS []=true):=⟨⟨by simp,λx w=>by simp at w⟩,λ_=>by kernel_rfl⟩;rcases g with ⟨_,rfl,_⟩|⟨r,s,⟨_,rfl,_⟩|⟨a,b,⟨t,u,_⟩,g⟩⟩
 ·exact m
 ·exact m
 ·obtain ⟨B,o⟩:=vX r;obtain ⟨C,p⟩:=vX s;refine aJ6 g (λq ht=>?_) (λA v=>?_) ?_
  ·rcases zu.1 ht with ht|ht
   ·exact aAj (o _ (aAk t)) q ht
   ·exact aAj (p _ (aAk u)) q ht
  ·obtain ⟨z,f,k⟩:=sD _ _ A v;simp at f;rcases f with rfl|rfl
   ·exact o _ k
   ·exact p _ k
  ·have:=aBr [(c,a),(d,b)] 0 (λz f=>by simp at f;rcases f with rfl|rfl<;>assumption);simp at this;omega
theorem uQ.good{i:Int}(g:uQ c i j out yes e):jH out/\(bL out=true->aS out=true):=by
 have m:jH []/\(bL []=true->aS []=true):=⟨⟨by simp,λx u=>by simp at u⟩,λ_=>by kernel_rfl⟩;rcases g with ⟨_,rfl,_⟩|⟨p,⟨_,rfl,_⟩|⟨a,b,⟨q,r,_⟩,g⟩⟩
 ·exact m
 ·exact m
 ·obtain ⟨z,k⟩:=vX p;refine aJ6 g (λo ht=>?_) (λw t=>?_) ?_
  ·rcases zu.1 ht with ht|ht
   ·exact aAj (k _ (aAk q)) o ht
   ·exact aAj (k _ (aAk r)) o ht
  ·obtain ⟨v,f,s⟩:=sD _ _ w t;simp at f;subst f;exact k _ s
  ·have:=aBr [(c,b)] 0 (λv f=>by simp at f;subst f;assumption);simp at this;omega
theorem vY{j:Nat}:(i,j)∈fH c d↔i<c.length/\j<d.length/\iW c i=iW d j:=by
 simp only [fH,lJ,kW,zk,zs,List.mem_filter,List.mem_range];constructor
 ·rintro ⟨a,g,b,⟨k,f⟩,e⟩;cases e;exact ⟨g,k,of_decide_eq_true f⟩
 ·rintro ⟨g,k,f⟩;exact ⟨i,g,j,⟨k,fC f⟩,rfl⟩
theorem aJ7(c d:List Lt):∀m,(lJ c d m).length<=m*d.length
 |0=>by simp [lJ]
 |m+1=>by
  rw [aBp,zt];have f:=aJ7 c d m;have g:(kW c d m d.length).length<=d.length:=by unfold kW;rw [List.length_map];exact zd (List.length_filter_le _ _) (by simp)
  rw [Nat.add_mul];omega
theorem aJ8(f:c.length<=8)(g:d.length<=8):(fH c d).length<=64:=by refine zd (aJ7 c d _) ?_;exact Nat.mul_le_mul f g
theorem rM(f:aS c=true):∀l∈c,l.2≠[]:=λl g e=>by
 have:=(vX f).2 l g;rw [e] at this;exact absurd this (by decide)
theorem tA(f:i<c.length):gJ c i=c[i].1:=by unfold gJ;rw [fZ f]
theorem aJ9(k:aS c=true){y:aK×Int}(p:y∈lM c a):∃i j yes,y.1=⟨3,a,0,i,j,y.1.c⟩/\uQ c (i:Nat) (j:Nat) y.1.c yes y.2/\(y.2=0->yes=true):=by
 obtain ⟨⟨i,j⟩,q,f⟩:=zc.1 p;obtain ⟨m,o,-⟩:=vY.1 q;unfold lL at f;split at f
 ·rename_i g;split at f
  ·rename_i h2;cases f;refine ⟨i,j,(kF c i j).2.1,rfl,zw ⟨k,zw ⟨i,j,⟨m,o,rfl,rfl,g.1,?_⟩,aD8 (rM k) i j⟩⟩,λe=>?_⟩
   ·have:=g.2;rwa [tA m,tA o] at this
   ·rcases h2 with h2|h2
    ·exact h2
    ·exact absurd e h2
  ·cases f
 ·cases f
theorem aJa(g:aS c=true)(k:aS d=true){y:aK×Int}(p:y∈gA c a d b):∃i j yes,y.1=⟨2,a,b,i,j,y.1.c⟩/\jX c d (i:Nat) (j:Nat) y.1.c yes y.2/\(y.2=0->yes=true):=by
 obtain ⟨⟨i,j⟩,s,f⟩:=zc.1 p;obtain ⟨m,o,-⟩:=vY.1 s;unfold mF at f;split at f
 ·rename_i q;split at f
  ·rename_i h2;cases f;refine ⟨i,j,(kG c i d j).2.1,rfl,zw ⟨g,k,zw ⟨i,j,⟨m,o,rfl,rfl,?_⟩,aD9 (rM g) (rM k) i j⟩⟩,λe=>?_⟩
   ·have r:gJ c i≠gJ d j:=q;rwa [tA m,tA o] at r
   ·rcases h2 with h2|h2
    ·exact h2
    ·exact absurd e h2
  ·cases f
 ·cases f
def lT(P:List (List Lt))(T:List (aK×Value))(n:Nat)(f:aK):Prop:=
 (f.r=1/\f.b=0/\f.i=0/\f.j=0/\P[f.a]?=some f.c)\/
 (f.r=2/\f.a<n/\f.b<n/\jX (aE T f.a) (aE T f.b) f.i f.j f.c true 0)\/
 (f.r=3/\f.b=0/\f.a<n/\uQ (aE T f.a) f.i f.j f.c true 0)
theorem uK{y:aK×Int}:y∈dV T a os↔y∈lM (aE T a) a\/∃b∈os,y∈gA (aE T a) a (aE T b) b:=by unfold dV;rw [zu,zk]
theorem aDb(k:aS (aE T a)=true)(o:∀b∈os,aS (aE T b)=true):∀y∈dV T a os,jH y.1.c/\(y.2=0->bL y.1.c=true->aS y.1.c=true):=λy p=>by
 rcases uK.1 p with g|⟨b,m,g⟩
 ·obtain ⟨i,j,yes,_,f,_⟩:=aJ9 k g;exact ⟨f.good.1,λ_=>f.good.2⟩
 ·obtain ⟨i,j,yes,_,f,_⟩:=aJa k (o b m) g;exact ⟨f.good.1,λ_=>f.good.2⟩
theorem aTo(o:aS (aE T a)=true)(r:∀b∈os,aS (aE T b)=true)(q:a<n)(t:∀b∈os,b<n):∀y∈dV T a os,y.2=0->lT P T n y.1:=λy s e=>by
 rcases uK.1 s with g|⟨b,p,g⟩
 ·obtain ⟨i,j,yes,k,f,m⟩:=aJ9 o g;rw [m e,e] at f;refine zw (zw ?_);rw [k];exact ⟨rfl,rfl,q,f⟩
 ·obtain ⟨i,j,yes,k,f,m⟩:=aJa o (r b p) g;rw [m e,e] at f;refine zw (zq ?_);rw [k];exact ⟨rfl,q,t b p,f⟩
theorem aJb(m:aS (aE T a)=true):∀(os:List Nat),(∀b∈os,aS (aE T b)=true)->(dV T a os).length<=64+os.length*64:=by
 intro os g;have f:=(vX m).1;have p:(lM (aE T a) a).length<=64:=zd (zg _ _) (aJ8 f f);have q:(os.flatMap λb=>gA (aE T a) a (aE T b) b).length<=os.length*64:=by
  induction os with
  |nil=>simp
  |cons b os ih=>
   rw [zh,zt,ze,Nat.add_mul];have r:(gA (aE T a) a (aE T b) b).length<=64:=zd (zg _ _) (aJ8 f (vX (g b (by simp))).1);have:=ih (λk o=>g k (by simp [o]));omega
 unfold dV;rw [zt];omega
theorem lD{k:aK×Value}{f:Nat}(g:f<T.length):aE (T++[k]) f=aE T f:=by rw [jS g,jS (by simp;omega),List.getElem_append_left g]
theorem uL(T:List (aK×Value))(f:aK×Value):aE (T++[f]) T.length=f.1.c:=by rw [jS (by simp)];simp
theorem lT.snoc{q:aK}(f:lT P T n q)(p:aK×Value)(t:n<=T.length){o:Nat}(s:n<=o):lT P (T++[p]) o q:=by
 rcases f with f|⟨g,m,r,k⟩|⟨g,m,r,k⟩
 ·exact zq f
 ·exact zw (zq ⟨g,by omega,by omega,by rw [lD (by omega),lD (by omega)];exact k⟩)
 ·exact zw (zw ⟨g,m,by omega,by rw [lD (by omega)];exact k⟩)
section
def fD(m:Nd->Prop)(l:List Nd):Prop:=∃f k,l=f::k/\aL f=false/\m f/\aY f=k.length/\∀g∈k,aL g=true\/(m g/\aL g=false/\aY g=0)
def cX(D:Nd->Prop)(c:List Lt):Prop:=∀l∈c,fD D l.2
variable {D:Nd->Prop}
theorem fD.d1(h:fD D l):D1 l:=by
 obtain ⟨a,q,f,g,_,k,m⟩:=h;refine ⟨a,q,f,g,k,λp o=>?_⟩;rcases m p o with h|h
 ·exact jN h
 ·exact h.2.2
theorem fD.mem(h:fD D l):∀f∈l,aL f=false->D f:=λf ht g=>by
 obtain ⟨a,o,rfl,_,k,_,m⟩:=h;rcases zy.1 ht with rfl|ht
 ·exact k
 ·rcases m f ht with h|h
  ·rw [h] at g;cases g
  ·exact h.1
theorem aTp{g k:Type}{m:g->k->Prop}{l:List g}{f:List k}(o:aP m l f):l.length=f.length:=by
 induction o with
 |nil=>rfl
 |cons _ _ ih=>simp [ih]
theorem fD.like{m:Int->Int->Prop}{k:List Nd}(o:fD D l)(s:aP (fL m) l k):fD D k:=by
 obtain ⟨a,A,rfl,g,p,q,r⟩:=o;cases s with
 |@cons _ b _ vs k1 k2=>
  have e:a=b:=by
   rcases k1 with ⟨f,_⟩|⟨_,f⟩
   ·rw [g] at f;cases f
   ·exact f
  subst e;refine ⟨a,vs,rfl,g,p,by rw [q,aTp k2],λw u=>?_⟩;obtain ⟨z,v,t⟩:=oI k2 w u;rcases t with ⟨_,f,_⟩|⟨_,rfl⟩
  ·exact zq f
  ·exact r z v
theorem cX.ord(f:cX D c):cX D (aV c):=λo m=>by
 obtain ⟨l,k,_,g⟩:=oI (sS c).2 o m;exact (f l ((jW c).2.2 l k)).like g
theorem aTq{f:Gr}{t:Nat->Nat->Prop}{v:Nat->Nat}(u:∀i j,t i j->(f.ch i).length=(f.ch j).length){s:List Nat}{l:List Nd}(k:aX f t v s l):(∀m∈s,f.ch m=[])->l.length=s.length/\∀g∈l,aL g=true\/∃j,f.named j/\f.ch j=[]/\g=f.lab j:=by
 induction k with
 |nil=>exact λ_=>⟨rfl,λg ht=>by simp at ht⟩
 |@var i r l h1 _ ih=>
  intro o;obtain ⟨p,q⟩:=ih λm k=>o m (by simp [k])
  refine ⟨by simp [p],λg ht=>?_⟩;rcases zy.1 ht with rfl|ht
  ·exact zq (by rw [pP])
  ·exact q g ht
 |@name i j r l h1 h2 _ ih=>
  intro o;have e:f.ch j=[]:=by have:=u i j h1;rw [o i (by simp)] at this;exact zo.1 this.symm
  rw [e,List.nil_append] at ih;obtain ⟨p,q⟩:=ih λm k=>o m (by simp [k])
  refine ⟨by simp [p],λg ht=>?_⟩;rcases zy.1 ht with rfl|ht
  ·exact zw ⟨j,h2,e,rfl⟩
  ·exact q g ht
theorem aTr{t:List (Int×Lt)}(q:aN o1 x++aN o2 y++aW t=M)(z:D1 x)(A:D1 y)(J:∀N∈t,D1 N.2.2)(H:jZ (aG (M.map zz)) (cZ M 0 x.length)):∀i j,cZ M 0 x.length i j->((aG (M.map zz)).ch i).length=((aG (M.map zz)).ch j).length:=by
 have w:=aA4 x y o1 o2 t;have G:=aA5 (o1:=o1) (o2:=o2) z A J;rw [q] at w;have v:∀i,∀s∈(aG (M.map zz)).ch i,(aG (M.map zz)).ch s=[]:=by rw [w];exact aA2 G
 have o:∀{i:Nat} {u:Tg},M[i]?=some u->aL u.2=false->(aG (M.map zz)).named i:=λI L=>(fM (by rw [zn,I];rfl)).2 L
 have g:M[0]?=some (o1,x.headD default)/\aL (x.headD default)=false:=by obtain ⟨a,O,rfl,r,_⟩:=z;rw [<-q];exact ⟨by simp [aN],r⟩
 have m:M[x.length]?=some (o2,y.headD default)/\aL (y.headD default)=false:=by obtain ⟨a,O,rfl,r,_⟩:=A;rw [<-q,zm,zl (by simp [aN])];exact ⟨by simp [aN],r⟩
 intro i j f;induction f with
 |refl=>rfl
 |@base i j f=>
  rcases f with f|⟨rfl,rfl⟩
  ·have:=congrArg z1 (aCn (θ:=λ_ _=>default) f).2;simpa using this
  ·have e:=H 0 x.length (Cl.base (zw ⟨rfl,rfl⟩)) (o g.1 g.2) (o m.1 m.2);obtain ⟨u,B,_,C⟩:=sZ (o g.1 g.2);obtain ⟨Q,E,_,F⟩:=sZ (o m.1 m.2);rw [sY B,sY E,<-C,<-F,e]
 |symm _ ih=>exact ih.symm
 |trans _ _ ih1 ih2=>exact ih1.trans ih2
 |@down i j k p s _ _ _ hp hq _=>rw [v i p (zx hp),v j s (zx hq)]
theorem vZ{s:List (Int×Lt)}(B:fD D x)(C:fD D y)(u:∀f∈s,fD D f.2.2){out:List Lt}{yes:Bool}{e:Int}(g:dU (aN o1 x++aN o2 y) 0 x.length s out yes e):cX D out:=by
 obtain ⟨M,r⟩ : ∃M,aN o1 x++aN o2 y++aW s=M:=⟨_,rfl⟩;have L:=aA4 x y o1 o2 s;have a0:=aA5 (o1:=o1) (o2:=o2) B.d1 C.d1 (λf g=>(u f g).d1);rw [r] at L;have a1:∀i,∀E∈(aG (M.map zz)).ch i,(aG (M.map zz)).ch E=[]:=by rw [L];exact aA2 a0
 have N:∀p∈M,aL p.2=false->D p.2:=by
  rw [<-r];intro p ht;have A:∀(O:Int) (l:List Nd),fD D l->p∈aN O l->aL p.2=false->D p.2:=λO l hl a5=>by
   obtain ⟨n,a6,rfl⟩:=zs.1 a5;exact hl.mem n a6
  rcases zu.1 ht with ht|ht
  ·rcases zu.1 ht with ht|ht
   ·exact A _ _ B ht
   ·exact A _ _ C ht
  ·obtain ⟨f,t,w⟩:=zk.1 ht;exact A f.1 f.2.2 (u f t) w
 unfold dU at g;rw [r] at g;rcases g with ⟨_,rfl,_⟩|⟨⟨a2,_⟩,b6,b3,c0,a4,⟨_,rfl,_⟩|⟨_,rfl,_,_⟩⟩
 ·exact λl hl=>by simp at hl
 ·exact λl hl=>by simp at hl
 have a3:=aTr r B.d1 C.d1 (λf g=>(u f g).d1) a2;refine cX.ord λl hl=>?_
 have b2:∀(k:List (Int×Lt)) (q:List Tg) (o:List (List Nd)),M=q++aW k->(∀f∈k,fD D f.2.2)->aP (λb4 l=>aX (aG (M.map zz)) (cZ M 0 x.length) b6 [b4] l) (cS q.length k) o->∀l∈bS k o,fD D l.2:=by
  intro k;induction k with
  |nil=>intro q o _ _ _ l hl;simp [bS] at hl
  |cons f k ih=>
   intro q o z J g;rw [cS] at g;cases g with
   |@cons _ m _ o k1 k2=>
    have e:aW (f::k)=aN f.1 f.2.2++aW k:=by simp [aW,aN]
    rw [e,<-zm] at z;intro l hl;rw [show bS (f::k) (m::o)=(f.2.1,m)::bS k o from rfl] at hl;rcases zy.1 hl with rfl|hl
    ·show fD D m;obtain ⟨a,c2,X,R,b8,b9⟩:=(J f (by simp)).d1;have a8:M[q.length]?=some (f.1,a):=by
      rw [z,X,zm,zl (Nat.le_refl _)];simp [aN]
     have a7:(aG (M.map zz)).named q.length:=(fM (by rw [zn,a8];rfl)).2 R;cases k1 with
     |var t _=>exact absurd a7 (t _ (Cl.refl _))
     |@name _ j _ m' t w h3=>
      obtain ⟨p,F,G,v⟩:=sZ w;rw [List.append_nil] at h3;obtain ⟨S,U⟩:=aTq a3 h3 λE a9=>a1 j E a9
      refine ⟨_,m',rfl,by rw [v];exact G,by rw [v];exact N p (zx F) G,?_,λb7 b0=>?_⟩
      ·rw [S,sY F,v]
      ·rcases U b7 b0 with g|⟨c1,V,W,rfl⟩
       ·exact zq g
       ·obtain ⟨Q,H,I,Y⟩:=sZ V;have b1:aY Q.2=0:=by rw [<-sY H,W];rfl
        rw [Y];exact zw ⟨N Q (zx H) I,I,b1⟩
    ·refine ih (q++aN f.1 f.2.2) o z (λb5 Z=>J b5 (by simp [Z])) ?_ l hl;rw [zt,show (aN f.1 f.2.2).length=f.2.2.length by simp [aN]];exact k2
 exact b2 s (aN o1 x++aN o2 y) b3 r.symm u a4 l hl
variable {D:Nd->Prop}{v:List Nd->Bool}
def eT(D:Nd->Prop)(f:Nd):Prop:=D f/\aL f=false/\aY f=0
def kJ(D:Nd->Prop)(v:List Nd->Bool)(c:List Lt):Prop:=∀σ:Int->Nd,(∀f,eT D (σ f))->∃l∈c,v (bD σ l.2)≠l.1
theorem aJc{r:List (Int×Lt)}{s:Int->Nd}{p:Int->Int->Nd}(B:fD D x)(C:fD D y)(A:∀k∈r,fD D k.2.2)(F:∀m,eT D (s m))(E:∀f n,(∃m,p f n=s m)\/∃g∈aN o1 x++aN o2 y++aW r,aL g.2=false/\aY g.2=0/\p f n=g.2):∀f n,eT D (p f n):=λf n=>by
 rcases E f n with ⟨m,e⟩|⟨g,ht,q,t,e⟩
 ·rw [e];exact F m
 ·rw [e];refine ⟨?_,q,t⟩;have o:∀(f:Int) (l:List Nd),fD D l->g∈aN f l->D g.2:=λf l u w=>by
   obtain ⟨n,z,rfl⟩:=zs.1 w;exact u.mem n z q
  rcases zu.1 ht with ht|ht
  ·rcases zu.1 ht with ht|ht
   ·exact o _ _ B ht
   ·exact o _ _ C ht
  ·obtain ⟨k,G,H⟩:=zk.1 ht;exact o k.1 k.2.2 (A k G) H
theorem aJd(c d:List Lt)(a b:Nat):aZ 0 [(c,a),(d,b)]=(c.eraseIdx a).map (λl=>((0:Int),l))++(d.eraseIdx b).map (λl=>((1:Int),l)):=by simp [aZ]
theorem aDc(c:List Lt)(b:Nat):aZ 0 [(c,b)]=(c.eraseIdx b).map (λl=>((0:Int),l)):=by simp [aZ]
theorem cX.rest{g:List (List Lt×Nat)}{o:Nat}(k:∀p∈g,cX D p.1):∀f∈aZ o g,fD D f.2.2:=λf r=>by
 obtain ⟨p,q,m⟩:=sD _ _ f r;exact k p q _ m
theorem aDd{l:Lt}(f:l∈c)(a:Nat):l∈c.eraseIdx a\/∃f:a<c.length,l=c[a]:=by
 obtain ⟨m,k,e⟩:=List.getElem_of_mem f;by_cases g:m=a
 ·subst g;exact zw ⟨k,e.symm⟩
 ·exact zq (zj.2 ⟨m,k,g,e⟩)
theorem aTs{i:Int}(B:cX D c)(C:cX D d)(R:kJ D v c)(S:kJ D v d)(f:jX c d i j out true 0):kJ D v out/\cX D out:=by
 rcases f with ⟨_,_,f,_⟩|⟨_,_,⟨_,_,f,_⟩|⟨a,b,⟨z,A,_,_,U⟩,f⟩⟩
 ·cases f
 ·cases f
 rw [fZ z,fZ A] at f;have m:=B _ (zv z);have o:=C _ (zv A);have k:∀t∈aZ 0 [(c,a),(d,b)],fD D t.2.2:=cX.rest λV E=>by
  simp at E;rcases E with rfl|rfl
  ·exact B
  ·exact C
 refine ⟨λσ I=>?_,vZ m o k f⟩;obtain ⟨w,O,Q,u⟩:=aD7 (σ:=σ) m.d1 o.d1 (λt f=>(k t f).d1) f;have F:=aJc m o k I O;rw [aJd] at u;obtain ⟨l,N,H⟩:=R (w 0) (F 0);rcases aDd N a with g|⟨_,rfl⟩
 ·obtain ⟨p,q,r,s⟩:=u (0,l) (List.mem_append_left _ (zs.2 ⟨l,g,rfl⟩));exact ⟨p,q,by rw [r,s];exact H⟩
 ·obtain ⟨G,J,L⟩:=S (w 1) (F 1);rcases aDd J b with g|⟨_,rfl⟩
  ·obtain ⟨p,q,r,s⟩:=u (1,G) (List.mem_append_right _ (zs.2 ⟨G,g,rfl⟩));exact ⟨p,q,by rw [r,s];exact L⟩
  ·rw [Q] at H;exfalso;cases g:c[a].1<;>cases h2:d[b].1<;>cases h3:v (bD (w 1) d[b].2)<;>simp_all
theorem aTt{i:Int}(k:cX D c)(N:kJ D v c)(f:uQ c i j out true 0):kJ D v out/\cX D out:=by
 rcases f with ⟨_,_,f,_⟩|⟨_,⟨_,_,f,_⟩|⟨a,b,⟨g,z,_,_,O,F⟩,f⟩⟩
 ·cases f
 ·cases f
 rw [fZ g,fZ z] at f;have o:=k _ (zv g);have p:=k _ (zv z);have m:∀u∈aZ 0 [(c,b)],fD D u.2.2:=cX.rest λQ A=>by
  simp at A;subst A;exact k
 refine ⟨λσ H=>?_,vZ o p m f⟩;obtain ⟨C,J,L,w⟩:=aD7 (σ:=σ) o.d1 p.d1 (λu f=>(m u f).d1) f;have G:=aJc o p m H J;rw [aDc] at w;obtain ⟨l,I,B⟩:=N (C 0) (G 0);rcases aDd I b with E|⟨_,rfl⟩
 ·obtain ⟨q,r,s,t⟩:=w (0,l) (zs.2 ⟨l,E,rfl⟩);exact ⟨q,r,by rw [s,t];exact B⟩
 ·obtain ⟨q,r,s,t⟩:=w (0,c[a]) (zs.2 ⟨c[a],zj.2 ⟨a,g,by omega,rfl⟩,rfl⟩);exact ⟨q,r,by rw [s,t];show v (bD (C 0) c[a].2)≠c[a].1;rw [L,F];exact B⟩
theorem aJe{o:aK}(q:∀c∈P,cX D c/\kJ D v c)(g:∀m,m<n->cX D (aE T m)/\kJ D v (aE T m))(f:lT P T n o):cX D o.c/\kJ D v o.c:=by
 rcases f with ⟨_,_,_,_,f⟩|⟨_,k,p,f⟩|⟨_,_,k,f⟩
 ·exact q _ (zx f)
 ·exact (aTs (g _ k).1 (g _ p).1 (g _ k).2 (g _ p).2 f).symm
 ·exact (aTt (g _ k).1 (g _ k).2 f).symm
theorem aTu(k:∀c∈P,cX D c/\kJ D v c)(m:∀f (q:f<T.length),lT P T f T[f].1):∀f,f<T.length->cX D (aE T f)/\kJ D v (aE T f):=by
 intro f;induction f using Nat.strongRecOn with
 |ind f ih=>
  intro g;rw [jS g];exact aJe k (λp o=>ih p o (by omega)) (m f g)
theorem aTv{s:aK}(t:∀c∈P,cX D c)(g:∀r,r<n->cX D (aE T r))(f:lT P T n s):cX D s.c:=by
 rcases f with ⟨_,_,_,_,f⟩|⟨_,k,q,f⟩|⟨_,_,k,f⟩
 ·exact t _ (zx f)
 ·rcases f with ⟨_,_,f,_⟩|⟨_,_,⟨_,_,f,_⟩|⟨a,b,⟨m,o,_,_,u⟩,f⟩⟩
  ·cases f
  ·cases f
  rw [fZ m,fZ o] at f;exact vZ (g _ k _ (zv m)) (g _ q _ (zv o)) (cX.rest λw p=>by
   simp at p;rcases p with rfl|rfl
   ·exact g _ k
   ·exact g _ q) f
 ·rcases f with ⟨_,_,f,_⟩|⟨_,⟨_,_,f,_⟩|⟨a,b,⟨m,o,_,_,z,u⟩,f⟩⟩
  ·cases f
  ·cases f
  rw [fZ m,fZ o] at f;exact vZ (g _ k _ (zv m)) (g _ k _ (zv o)) (cX.rest λw p=>by
   simp at p;subst p;exact g _ k) f
theorem aTw(k:∀c∈P,cX D c)(m:∀f (q:f<T.length),lT P T f T[f].1):∀f,f<T.length->cX D (aE T f):=by
 intro f;induction f using Nat.strongRecOn with
 |ind f ih=>
  intro g;rw [jS g];exact aTv k (λp o=>ih p o (by omega)) (m f g)
variable {D:Nd->Prop}
theorem aJf{k p:Type}{g:k->List p}:∀(f:List k),(∀t∈f,g t≠[])->f.length<=(f.flatMap g).length
 |[],_=>by simp
 |t::f,h=>by
  have q:=aJf f λo m=>h o (by simp [m])
  have r:0<(g t).length:=zi.2 (h t (by simp));rw [zh,zt,ze];omega
theorem aJg{s u:Type}{g:s->List u}:∀(f:List s) (k:List u),f.flatMap g=k->k.length=f.length->(∀t∈f,g t≠[])->aP (λt m=>g t=[m]) f k
 |[],k,e,_,_=>by
  rw [<-e];exact aP.nil
 |t::f,k,e,hl,h=>by
  rw [zh] at e;have w:=aJf f λq o=>h q (by simp [o])
  have z:0<(g t).length:=zi.2 (h t (by simp));have r:=congrArg z1 e;rw [zt] at r;rw [ze] at hl;obtain ⟨m,p⟩ : ∃m,g t=[m]:=List.length_eq_one_iff.1 (by omega);rw [p,List.singleton_append] at e;rw [<-e];refine aP.cons p (aJg f _ rfl ?_ λq o=>h q (by simp [o]));rw [p,List.length_singleton] at r;omega
theorem aTx(f:aQ l 1=true):l≠[]:=λe=>by
 rw [e] at f;exact absurd f (by decide)
open Classical in
theorem yD:bC c d=true↔c.length<=d.length/\gN d c []:=by unfold bC;exact decide_eq_true_iff
theorem aTy{e E:List Lt}(t:bC e E=true)(Z:cX D e)(a0:cX D E){s:Int->Nd}(R:∀k,eT D (s k)):∃r:Int->Nd,(∀k,eT D (r k))/\∀l∈e,∃S∈E,S.1=l.1/\bD s S.2=bD r l.2:=by
 classical
 obtain ⟨_,p,a3,_,a4⟩:=yD.1 t;let g:Nd->List Nd:=λn=>if aL n then p n.2 else [n]
 have X:∀n,g n≠[]:=λn=>by
  show (if aL n then p n.2 else [n])≠[];split
  ·exact aTx (a3 _)
  ·simp
 let r:Int->Nd:=λk=>if t:∃f,p k=[f]/\(aL f=true\/eT D f) then (if aL (Classical.choose t)=true then s (Classical.choose t).2 else Classical.choose t) else s 0
 have Q:∀k f,p k=[f]->(aL f=true\/eT D f)->r k=if aL f=true then s f.2 else f:=λk f z A=>by
  have q:∃f,p k=[f]/\(aL f=true\/eT D f):=⟨f,z,A⟩;have e:r k=if aL (Classical.choose q)=true then s (Classical.choose q).2 else Classical.choose q:=dif_pos q
  have o:=z.symm.trans (Classical.choose_spec q).1;injection o with o;rw [e,<-o]
 refine ⟨r,λk=>?_,λl O=>?_⟩
 ·by_cases q:∃f,p k=[f]/\(aL f=true\/eT D f)
  ·obtain ⟨f,z,A⟩:=q;rw [Q k f z A];by_cases m:aL f=true
   ·rw [aH m];exact R _
   ·rw [aI m];exact A.resolve_left m
  ·have e:r k=s 0:=dif_neg q;rw [e];exact R 0
 ·have F:=a4 l O;refine ⟨_,F,rfl,?_⟩;obtain ⟨a,H,C,B,_,I,V⟩:=Z l O;obtain ⟨b,U,w,a5,_,J,L⟩:=a0 _ F;simp only at w ⊢;have N:subst p l.2=a::H.flatMap g:=by
   rw [C,nR,B];rfl
  have W:=N.symm.trans w;injection W with e5 e6;have Y:=aJg H U e6 (by rw [<-I,<-J,e5]) λf _=>X f
  rw [w,C,<-e5];unfold bD;rw [zf,zf,aI (by simp [B]),aI (by simp [B])];congr 1
  clear C w N e6 I J F;induction Y with
  |nil=>rfl
  |@cons f u H U o _ ih=>
   rw [zf,zf,ih (λf G=>V f (by simp [G])) (λf G=>L f (by simp [G]))];congr 1
   have a1:aL u=true\/eT D u:=L u (by simp);by_cases m:aL f=true
   ·rw [aH m];have a2:p f.2=[u]:=by
     have:g f=p f.2:=aH m;rw [<-this];exact o
    rw [Q _ u a2 a1]
   ·rw [aI m];have:g f=[f]:=aI m;rw [this] at o;injection o with o;subst o;rw [aI m]
end
