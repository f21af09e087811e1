import Derived.Test.YtmelidkanelpbaaGreatDoorGnR0T
open List renaming mem_map→zy,getElem_mem→zx,mem_of_getElem?→zw,append_assoc→zv,length_eq_zero_iff→zu,mem_eraseIdx_iff_getElem→zt,length_append→zs,mem_append→zr,getElem?_map→zo,getElem?_append_right→zn,mem_cons→zm,getElem?_eq_getElem→zl,map_cons→zk,getElem_of_mem→zj,mem_of_mem_eraseIdx→zi,mem_append_right→zh,mem_append_left→zf,length_pos_iff→ze,mem_filterMap→zd,flatMap_cons→zc,getElem_map→zb,mem_flatMap→za,length_cons→z0,length→z1
open Nat renaming le_refl→zg
open Or renaming inl→zq,inr→zp
open Prod renaming snd→zz
namespace Go.Proofs.YtmelidkanelpbaaGreatDoor
open Go.RowKit Go.Shelf Go.WideMaps
set_option maxRecDepth 100000
variable{b:Bool}{o1 o2:Int}{P:List (List Lt)}{L:List Cd}{c out:List Lt}{ks:List Nat}{l x y:List Nd}{M:List Tg}{i n:Nat}
section
theorem aT4(a b:List (Int×List Nd)):jU (a++b)=jU a++jU b:=by simp [jU]
theorem aT5(d:List (Int×Lt)):aU d=jU (d.map λa=>(a.1,a.2.2)):=by unfold aU jU aN;rw [List.flatMap_map]
theorem aA9(x y:List Nd)(o1 o2:Int)(d:List (Int×Lt)):aN o1 x++aN o2 y++aU d=jU ([(o1,x),(o2,y)]++d.map λa=>(a.1,a.2.2)):=by rw [aT4,<-aT5];simp [jU]
theorem aAa{d:List (Int×Lt)}(j:D1 x)(k:D1 y)(g:∀a∈d,D1 a.2.2):∀b∈[(o1,x),(o2,y)]++d.map λa=>(a.1,a.2.2),D1 b.2:=λb f=>by
 rcases zr.1 f with h|h
 ·simp at h;rcases h with rfl|rfl
  ·exact j
  ·exact k
 ·obtain ⟨a,e,rfl⟩:=zy.1 h;exact g a e
theorem aHt{M:List Tg}{g:Nat->Nat->Prop}{k:Nat->Nat}{o:Int->Nd}{m:Int->Int->Nd}(j:∀e l,aW (aG (M.map zz)) g k [e] l->bK o l=gx (aG (M.map zz)) (kV m M) e):∀(f:List (Int×Lt)) (a:List Tg) (d:List (List Nd)),M=a++aU f->(∀r∈f,D1 r.2.2)->aP (λe l=>aW (aG (M.map zz)) g k [e] l) (cU a.length f) d->aP (λr l=>bK o l=bK (m r.1) r.2.2) f d
 |[],a,d,_,_,h=>by
  cases h;exact aP.nil
 |r::rs,a,d,hM,hD,h=>by
  rw [cU] at h;cases h with
  |cons h1 h2=>
   have p:aU (r::rs)=aN r.1 r.2.2++aU rs:=by simp [aU,aN]
   rw [p] at hM;refine aP.cons ?_ ?_
   ·rw [j _ _ h1,hM,<-zv];exact aC2 (hD r (by simp))
   ·refine aHt j rs (a++aN r.1 r.2.2) _ (by rw [hM,zv]) (λs q=>hD s (by simp [q])) ?_;rw [zs,show (aN r.1 r.2.2).length=r.2.2.length by simp [aN]];exact h2
theorem aHu{p:Int->Nd}{o:Int->Int->Nd}{f:List (Int×Lt)}{e:List (List Nd)}(g:aP (λ(a:Int×Lt) l=>bK p l=bK (o a.1) a.2.2) f e):(∀a∈f,∃d∈bX f e,d.1=a.2.1/\bK p d.2=bK (o a.1) a.2.2)/\∀d∈bX f e,∃a∈f,d.1=a.2.1/\bK p d.2=bK (o a.1) a.2.2:=by
 induction g with
 |nil=>exact ⟨λa hr=>by simp at hr,λd hm=>by simp [bX] at hm⟩
 |@cons a l rs e g _ ih=>
  have q:bX (a::rs) (l::e)=(a.2.1,l)::bX rs e:=rfl;rw [q];refine ⟨λj hr=>?_,λd hm=>?_⟩
  ·rcases zm.1 hr with rfl|hr
   ·exact ⟨(j.2.1,l),by simp,rfl,g⟩
   ·obtain ⟨d,k,m⟩:=ih.1 j hr;exact ⟨d,by simp [k],m⟩
  ·rcases zm.1 hm with rfl|hm
   ·exact ⟨a,by simp,rfl,g⟩
   ·obtain ⟨j,k,m⟩:=ih.2 d hm;exact ⟨j,by simp [k],m⟩
theorem aHv{e:List (Int×Lt)}{θ:Int->Int->Nd}(I:D1 x)(J:D1 y)(H:∀d∈e,D1 d.2.2)(X:bK (θ o1) x=bK (θ o2) y){out:List Lt}{O:Bool}{F:Int}(f:eG (aN o1 x++aN o2 y) 0 x.length e out O F):F≠0\/(O=true/\∃t:Int->Nd,(∀j,∃o n,t j=θ o n)/\(∀d∈e,∃g∈out,g.1=d.2.1/\bK t g.2=bK (θ d.1) d.2.2)/\∀g∈out,∃d∈e,g.1=d.2.1/\bK t g.2=bK (θ d.1) d.2.2):=by
 obtain ⟨M,r⟩ : ∃M,aN o1 x++aN o2 y++aU e=M:=⟨_,rfl⟩;have G:=aA9 x y o1 o2 e;have U:=aAa (o1:=o1) (o2:=o2) I J H;rw [r] at G;have w:∀i,∀a9∈(aG (M.map zz)).ch i,(aG (M.map zz)).ch a9=[]:=by rw [G];exact aC1 U
 have Q:gx (aG (M.map zz)) (kV θ M) 0=bK (θ o1) x:=by have:=aC2 (θ:=θ) (A:=[]) (C:=aN o2 y++aU e) (o:=o1) I;rw [List.nil_append,<-zv,r] at this;exact this
 have R:gx (aG (M.map zz)) (kV θ M) x.length=bK (θ o2) y:=by have:=aC2 (θ:=θ) (A:=aN o1 x) (C:=aU e) (o:=o2) J;rw [r,show (aN o1 x).length=x.length by simp [aN]] at this;exact this
 have z:∀i a,dE M 0 x.length i a->uV (aG (M.map zz)) (kV θ M) i a:=bDp w λi a f=>by
  rcases f with f|⟨rfl,rfl⟩
  ·exact aFv f
  ·have v:gx (aG (M.map zz)) (kV θ M) 0=gx (aG (M.map zz)) (kV θ M) x.length:=by rw [Q,R,X]
   unfold gx at v;injection v with h3 h4;exact ⟨h3,h4⟩
 obtain ⟨W,V⟩:=bDq w (λi m=>aOl (θ:=θ) m) z;unfold eG at f;rw [r] at f;rcases f with ⟨S,_⟩|⟨_,q,N,a1,Z,v⟩
 ·exact absurd ⟨W,λs _=>V s⟩ S
 ·rcases v with ⟨_,_,_,rfl⟩|⟨_,rfl,rfl,rfl⟩
  ·exact zq (by decide)
  ·refine zp ⟨rfl,?_⟩;obtain ⟨u,b6,b7⟩ : ∃u:Int->Nd,(∀j,∃o n,u j=θ o n)/\∀i,(∀a,dE M 0 x.length i a->¬(aG (M.map zz)).named a)->u (q i:Int)=kV θ M i:=by
    classical
    refine ⟨λj=>if k:∃i:Nat,(q i:Int)=j/\∀a,dE M 0 x.length i a->¬(aG (M.map zz)).named a then kV θ M (Classical.choose k) else θ 0 0,λj=>?_,λi m=>?_⟩
    ·by_cases k:∃i:Nat,(q i:Int)=j/\∀a,dE M 0 x.length i a->¬(aG (M.map zz)).named a
     ·simp only [dif_pos k];have:=Classical.choose_spec k;exact (aFu (θ:=θ) (this.2 _ (Cl.refl _))).2
     ·simp only [dif_neg k];exact ⟨0,0,rfl⟩
    ·have k:∃p:Nat,(q p:Int)=(q i:Int)/\∀a,dE M 0 x.length p a->¬(aG (M.map zz)).named a:=⟨i,rfl,m⟩;simp only [dif_pos k];have:=Classical.choose_spec k;exact (z _ _ ((a1 _ _).1 (by have:=this.1;omega))).1
   have Y:∀s l,aW (aG (M.map zz)) (dE M 0 x.length) q [s] l->bK u l=gx (aG (M.map zz)) (kV θ M) s:=λs l f=>by
    have:=aOh w (λi m=>aOl (θ:=θ) m) (λi m=>(aFu (θ:=θ) m).1) (λi=>Cl.refl i) z b7 f;simpa using this
   have T:=aHt Y e (aN o1 x++aN o2 y) N r.symm H Z;obtain ⟨a4,a5⟩:=aHu T;obtain ⟨t,b3,b4,b5⟩:=bDo (bX e N) u;refine ⟨t,λj=>?_,λd a2=>?_,λg a0=>?_⟩
   ·obtain ⟨b8,a3⟩:=b3 j;rw [a3];exact b6 b8
   ·obtain ⟨g,a6,a7,a8⟩:=a4 d a2;obtain ⟨p,B,D,E⟩:=b4 g a6;exact ⟨p,B,D.trans a7,E.trans a8⟩
   ·obtain ⟨p,B,D,E⟩:=b5 g a0;obtain ⟨d,b0,b1,b2⟩:=a5 p B;exact ⟨d,b0,D.trans b1,E.trans b2⟩
theorem sO{a:Tg}(d:M[i]?=some a):((aG (M.map zz)).ch i).length=aX a.2:=by unfold aG;simp only [zo,d,Option.map_some,yE]
theorem sP(e:(aG (M.map zz)).named i):∃a,M[i]?=some a/\aL a.2=false/\(aG (M.map zz)).lab i=a.2:=by
 obtain ⟨n,d,f⟩:=nJ e;rw [zo] at d;cases ht:M[i]? with
 |none=>rw [ht] at d;cases d
 |some a=>
  rw [ht] at d;obtain rfl:a.2=n:=by simpa using d
  exact ⟨a,rfl,f,by unfold aG;simp [ht]⟩
theorem aCy(a:¬(aG (M.map zz)).named i):(aG (M.map zz)).ch i=[]:=(aFu (θ:=λ_ _=>default) a).1
theorem aHw{u:List (Int×Lt)}{σ:Int->Nd}(a8:D1 x)(a9:D1 y)(c4:∀f∈u,D1 f.2.2){out:List Lt}(d:eG (aN o1 x++aN o2 y) 0 x.length u out true 0):∃p:Int->Int->Nd,(∀q n,(∃b2,p q n=σ b2)\/∃e∈aN o1 x++aN o2 y++aU u,aL e.2=false/\aX e.2=0/\p q n=e.2)/\bK (p o1) x=bK (p o2) y/\∀f∈u,∃T∈out,T.1=f.2.1/\bK σ T.2=bK (p f.1) f.2.2:=by
 classical
 obtain ⟨M,B⟩ : ∃M,aN o1 x++aN o2 y++aU u=M:=⟨_,rfl⟩;have b9:=aA9 x y o1 o2 u;have d5:=aAa (o1:=o1) (o2:=o2) a8 a9 c4;rw [B] at b9;have a3:∀i,∀N∈(aG (M.map zz)).ch i,(aG (M.map zz)).ch N=[]:=by rw [b9];exact aC1 d5
 unfold eG at d;rw [B] at d ⊢;rcases d with ⟨_,_,d,_⟩|⟨⟨c1,e8⟩,O,c9,d8,d7,⟨_,_,d,_⟩|⟨_,rfl,_,_⟩⟩
 ·cases d
 ·cases d
 obtain ⟨Y,e6,e7,-⟩:=bDn (bX u c9) σ;let C:Nat->Nat->Prop:=dE M 0 x.length;have b5:∀i,C i i:=λi=>Cl.refl i
 have b6:∀i a,C i a->C a i:=λ_ _ d=>Cl.symm d
 have a2:∀i a j,C i a->C a j->C i j:=λ_ _ _ d j=>Cl.trans d j
 let V:Nat->Nd:=λi=>if d:∃a,C i a/\(aG (M.map zz)).named a then (aG (M.map zz)).lab (Classical.choose d) else Y (O i:Int)
 have W:∀i a,C i a->(aG (M.map zz)).named a->V i=(aG (M.map zz)).lab a:=λi a r A=>by
  have k:∃a,C i a/\(aG (M.map zz)).named a:=⟨a,r,A⟩;have g:V i=(aG (M.map zz)).lab (Classical.choose k):=dif_pos k;obtain ⟨s,w⟩:=Classical.choose_spec k;rw [g];exact c1 _ _ (a2 _ _ _ (b6 _ _ s) r) w A
 have X:∀i,(∀a,C i a->¬(aG (M.map zz)).named a)->V i=Y (O i:Int):=λi o=>dif_neg λ⟨a,m,t⟩=>o a m t
 have a5:∀i a,C i a->V i=V a:=λi a r=>by
  by_cases k:∃j,C i j/\(aG (M.map zz)).named j
  ·obtain ⟨j,m,t⟩:=k;rw [W i j m t,W a j (a2 _ _ _ (b6 _ _ r) m) t]
  ·rw [X i (λj m t=>k ⟨j,m,t⟩),X a (λj m t=>k ⟨j,a2 _ _ _ r m,t⟩),(d8 i a).2 r]
 have R:M[0]?=some (o1,x.headD default)/\aL (x.headD default)=false:=by obtain ⟨b3,b1,rfl,s,_⟩:=a8;rw [<-B];exact ⟨by simp [aN],s⟩
 have m:M[x.length]?=some (o2,y.headD default)/\aL (y.headD default)=false:=by obtain ⟨b3,b1,rfl,s,_⟩:=a9;rw [<-B,zv,zn (by simp [aN])];exact ⟨by simp [aN],s⟩
 have G:∀{i:Nat} {e:Tg},M[i]?=some e->aL e.2=false->(aG (M.map zz)).named i:=λo D=>(fL (by rw [zo,o];rfl)).2 D
 have S:∀i a,C i a->((aG (M.map zz)).ch i).length=((aG (M.map zz)).ch a).length:=by
  intro i a d;induction d with
  |refl=>rfl
  |@base i a d=>
   rcases d with d|⟨rfl,rfl⟩
   ·have:=congrArg z1 (aFv (θ:=λ_ _=>default) d).2;simpa using this
   ·have g:=c1 0 x.length (Cl.base (zp ⟨rfl,rfl⟩)) (G R.1 R.2) (G m.1 m.2);obtain ⟨e,v,_,I⟩:=sP (G R.1 R.2);obtain ⟨d0,Q,_,a1⟩:=sP (G m.1 m.2);rw [sO v,sO Q,<-I,<-a1,g]
  |symm _ ih=>exact ih.symm
  |trans _ _ ih1 ih2=>exact ih1.trans ih2
  |@down i a j E N _ _ _ hp a7 _=>rw [a3 i E (zw hp),a3 a N (zw a7)]
 have b8:∀i a,C i a->uV (aG (M.map zz)) V i a:=λi a r=>by
  refine ⟨a5 i a r,?_⟩;by_cases o:(aG (M.map zz)).named i
  ·by_cases A:(aG (M.map zz)).named a
   ·refine List.ext_getElem (by simpa using S i a r) λj s w=>?_
    rw [zb,zb];exact a5 _ _ (Cl.down r o A (zl (by simpa using s)) (zl (by simpa using w)))
   ·have g:=S i a r;rw [aCy A] at g ⊢;rw [zu.1 g]
  ·have g:=S i a r;rw [aCy o] at g ⊢;rw [zu.1 g.symm]
 have c0:∀i,(aG (M.map zz)).named i->V i=(aG (M.map zz)).lab i:=λi o=>W i i (b5 i) o
 let p:Int->Int->Nd:=λq n=>if d:∃i:Nat,∃e:Tg,M[i]?=some e/\aL e.2=true/\e.1=q/\e.2.2=n then V (Classical.choose d) else σ 0
 have c6:∀i,i<M.length->V i=kV p M i:=λi o=>by
  have F:M[i]?=some M[i]:=zl o;rw [uW F];by_cases D:aL M[i].2=true
  ·rw [aI D];have k:∃j:Nat,∃e:Tg,M[j]?=some e/\aL e.2=true/\e.1=M[i].1/\e.2.2=M[i].2.2:=⟨i,M[i],F,D,rfl,rfl⟩;have g:p M[i].1 M[i].2.2=V (Classical.choose k):=dif_pos k;obtain ⟨e,v,a0,I,d1⟩:=Classical.choose_spec k;rw [g];refine a5 _ _ (Cl.base (zq ?_));rw [(kA F D).1,(kA v a0).1,I,d1]
  ·rw [aH D];have c5:aL M[i].2=false:=by simpa using D
   obtain ⟨e,v,_,I⟩:=sP (G F c5);rw [c0 i (G F c5),I];rw [F] at v;rw [<-Option.some.inj v]
 have a6:∀(H:List Tg) (q:Int) (l:List Nd) (Z:List Tg),D1 l->M=H++aN q l++Z->gx (aG (M.map zz)) V H.length=bK (p q) l:=λH q l Z c3 g=>by
  have:=aC2 (θ:=p) (A:=H) (C:=Z) (o:=q) c3;rw [<-g] at this;rw [<-this];obtain ⟨b3,b1,rfl,_,w,b0⟩:=c3;have e9:H.length+1+b1.length<=M.length:=by rw [g];simp [aN];omega
  unfold gx;rw [c6 _ (by omega)];congr 1
  refine List.map_congr_left λN a7=>c6 N ?_
  rw [g,aFt w b0,List.mem_range'_1] at a7;omega
 refine ⟨p,λq n=>?_,?_,λf d9=>?_⟩
 ·by_cases k:∃i:Nat,∃e:Tg,M[i]?=some e/\aL e.2=true/\e.1=q/\e.2.2=n
  ·have g:p q n=V (Classical.choose k):=dif_pos k;obtain ⟨e,v,a0,_,_⟩:=Classical.choose_spec k;rw [g];generalize Classical.choose k=i at v;by_cases A:∃a,C i a/\(aG (M.map zz)).named a
   ·obtain ⟨a,c7,c8⟩:=A;obtain ⟨d0,Q,d2,a1⟩:=sP c8;refine zp ⟨d0,zw Q,d2,?_,by rw [W i a c7 c8,a1]⟩;rw [<-sO Q,<-S i a c7,sO v];exact jK a0
   ·obtain ⟨b2,e0⟩:=e6 (O i:Int);exact zq ⟨b2,by rw [X i λa m t=>A ⟨a,m,t⟩,e0]⟩
  ·have g:p q n=σ 0:=dif_neg k;exact zq ⟨0,g⟩
 ·have d3:=a6 [] o1 _ (aN o2 y++aU u) a8 (by rw [<-B];simp);have b4:=a6 (aN o1 x) o2 _ (aU u) a9 B.symm;rw [show (aN o1 x).length=x.length by simp [aN]] at b4;rw [<-d3,<-b4];have c2:=b8 0 x.length (Cl.base (zp ⟨rfl,rfl⟩));unfold gx;rw [List.length_nil,c2.1,c2.2]
 ·have d6:∀E l,aW (aG (M.map zz)) C O [E] l->bK Y l=gx (aG (M.map zz)) V E:=λE l d=>by
   have:=aOh a3 c0 (λi o=>aCy o) b5 b8 (λi o=>(X i o).symm) d;simpa using this
  have e1:∀(z:List (Int×Lt)) (J:List Tg) (U:List (List Nd)),M=J++aU z->(∀f∈z,D1 f.2.2)->aP (λE l=>aW (aG (M.map zz)) C O [E] l) (cU J.length z) U->aP (λf l=>bK Y l=bK (p f.1) f.2.2) z U:=by
   intro z;induction z with
   |nil=>
    intro J U _ _ d;cases d;exact aP.nil
   |cons f z ih=>
    intro J U a4 b7 d;rw [cU] at d;cases d with
    |cons s w=>
     have g:aU (f::z)=aN f.1 f.2.2++aU z:=by simp [aU,aN]
     rw [g,<-zv] at a4;refine aP.cons ?_ ?_
     ·rw [d6 _ _ s];exact a6 _ _ _ _ (b7 f (by simp)) a4
     ·refine ih (J++aN f.1 f.2.2) _ a4 (λe5 d4=>b7 e5 (by simp [d4])) ?_;rw [zs,show (aN f.1 f.2.2).length=f.2.2.length by simp [aN]];exact w
  obtain ⟨T,e2,e3,e4⟩:=(aHu (e1 u (aN o1 x++aN o2 y) c9 B.symm c4 d7)).1 f d9;obtain ⟨j,s,w,b0⟩:=e7 T e2;exact ⟨j,s,w.trans e3,b0.trans e4⟩
def fC(f:Nd->Prop)(l:List Nd):Prop:=∃a e,l=a::e/\aL a=false/\f a/\aX a=e.length/\∀d∈e,aL d=true\/(f d/\aL d=false/\aX d=0)
def cS(D:Nd->Prop)(c:List Lt):Prop:=∀l∈c,fC D l.2
variable {D:Nd->Prop}
theorem fC.d1(h:fC D l):D1 l:=by
 obtain ⟨a,m,d,e,_,f,g⟩:=h;refine ⟨a,m,d,e,f,λk j=>?_⟩;rcases g k j with h|h
 ·exact jK h
 ·exact h.2.2
theorem fC.mem(h:fC D l):∀a∈l,aL a=false->D a:=λa ht d=>by
 obtain ⟨g,j,rfl,_,e,_,f⟩:=h;rcases zm.1 ht with rfl|ht
 ·exact e
 ·rcases f a ht with h|h
  ·rw [h] at d;cases d
  ·exact h.1
theorem aT6{d e:Type}{f:d->e->Prop}{l:List d}{a:List e}(g:aP f l a):l.length=a.length:=by
 induction g with
 |nil=>rfl
 |cons _ _ ih=>simp [ih]
theorem fC.like{g:Int->Int->Prop}{f:List Nd}(k:fC D l)(q:aP (fS g) l f):fC D f:=by
 obtain ⟨d,w,rfl,e,m,o,p⟩:=k;cases q with
 |@cons _ b _ vs k1 k2=>
  have j:d=b:=by
   rcases k1 with ⟨a,_⟩|⟨_,a⟩
   ·rw [e] at a;cases a
   ·exact a
  subst j;refine ⟨d,vs,rfl,e,m,by rw [o,aT6 k2],λu s=>?_⟩;obtain ⟨v,t,r⟩:=oY k2 u s;rcases r with ⟨_,a,_⟩|⟨_,rfl⟩
  ·exact zq a
  ·exact p v t
theorem cS.ord(a:cS D c):cS D (aV c):=λg f=>by
 obtain ⟨l,e,_,d⟩:=oY (uU c).2 g f;exact (a l ((mD c).2.2 l e)).like d
theorem aT7{d:Gr}{p:Nat->Nat->Prop}{t:Nat->Nat}(s:∀i a,p i a->(d.ch i).length=(d.ch a).length){o:List Nat}{l:List Nd}(f:aW d p t o l):(∀g∈o,d.ch g=[])->l.length=o.length/\∀e∈l,aL e=true\/∃a,d.named a/\d.ch a=[]/\e=d.lab a:=by
 induction f with
 |nil=>exact λ_=>⟨rfl,λe ht=>by simp at ht⟩
 |@var i r l h1 _ ih=>
  intro j;obtain ⟨k,m⟩:=ih λg f=>j g (by simp [f])
  refine ⟨by simp [k],λe ht=>?_⟩;rcases zm.1 ht with rfl|ht
  ·exact zq (by rw [pG])
  ·exact m e ht
 |@name i a r l h1 h2 _ ih=>
  intro j;have q:d.ch a=[]:=by have:=s i a h1;rw [j i (by simp)] at this;exact zu.1 this.symm
  rw [q,List.nil_append] at ih;obtain ⟨k,m⟩:=ih λg f=>j g (by simp [f])
  refine ⟨by simp [k],λe ht=>?_⟩;rcases zm.1 ht with rfl|ht
  ·exact zp ⟨a,h2,q,rfl⟩
  ·exact m e ht
theorem aT8{q:List (Int×Lt)}(j:aN o1 x++aN o2 y++aU q=M)(u:D1 x)(v:D1 y)(I:∀N∈q,D1 N.2.2)(G:kJ (aG (M.map zz)) (dE M 0 x.length)):∀i a,dE M 0 x.length i a->((aG (M.map zz)).ch i).length=((aG (M.map zz)).ch a).length:=by
 have t:=aA9 x y o1 o2 q;have F:=aAa (o1:=o1) (o2:=o2) u v I;rw [j] at t;have s:∀i,∀o∈(aG (M.map zz)).ch i,(aG (M.map zz)).ch o=[]:=by rw [t];exact aC1 F
 have g:∀{i:Nat} {r:Tg},M[i]?=some r->aL r.2=false->(aG (M.map zz)).named i:=λH J=>(fL (by rw [zo,H];rfl)).2 J
 have e:M[0]?=some (o1,x.headD default)/\aL (x.headD default)=false:=by obtain ⟨w,O,rfl,m,_⟩:=u;rw [<-j];exact ⟨by simp [aN],m⟩
 have f:M[x.length]?=some (o2,y.headD default)/\aL (y.headD default)=false:=by obtain ⟨w,O,rfl,m,_⟩:=v;rw [<-j,zv,zn (by simp [aN])];exact ⟨by simp [aN],m⟩
 intro i a d;induction d with
 |refl=>rfl
 |@base i a d=>
  rcases d with d|⟨rfl,rfl⟩
  ·have:=congrArg z1 (aFv (θ:=λ_ _=>default) d).2;simpa using this
  ·have E:=G 0 x.length (Cl.base (zp ⟨rfl,rfl⟩)) (g e.1 e.2) (g f.1 f.2);obtain ⟨r,z,_,A⟩:=sP (g e.1 e.2);obtain ⟨Q,B,_,C⟩:=sP (g f.1 f.2);rw [sO z,sO B,<-A,<-C,E]
 |symm _ ih=>exact ih.symm
 |trans _ _ ih1 ih2=>exact ih1.trans ih2
 |@down i a k p o _ _ _ hp hq _=>rw [s i p (zw hp),s a o (zw hq)]
theorem vI{p:List (Int×Lt)}(z:fC D x)(A:fC D y)(r:∀a∈p,fC D a.2.2){out:List Lt}{b7:Bool}{t:Int}(d:eG (aN o1 x++aN o2 y) 0 x.length p out b7 t):cS D out:=by
 obtain ⟨M,o⟩ : ∃M,aN o1 x++aN o2 y++aU p=M:=⟨_,rfl⟩;have I:=aA9 x y o1 o2 p;have Z:=aAa (o1:=o1) (o2:=o2) z.d1 A.d1 (λa d=>(r a d).d1);rw [o] at I;have a0:∀i,∀B∈(aG (M.map zz)).ch i,(aG (M.map zz)).ch B=[]:=by rw [I];exact aC1 Z
 have J:∀g∈M,aL g.2=false->D g.2:=by
  rw [<-o];intro g ht;have w:∀(N:Int) (l:List Nd),fC D l->g∈aN N l->aL g.2=false->D g.2:=λN l hl a4=>by
   obtain ⟨n,a5,rfl⟩:=zy.1 a4;exact hl.mem n a5
  rcases zr.1 ht with ht|ht
  ·rcases zr.1 ht with ht|ht
   ·exact w _ _ z ht
   ·exact w _ _ A ht
  ·obtain ⟨a,q,u⟩:=za.1 ht;exact w a.1 a.2.2 (r a q) u
 unfold eG at d;rw [o] at d;rcases d with ⟨_,rfl,_⟩|⟨⟨a1,_⟩,b5,b2,c0,a3,⟨_,rfl,_⟩|⟨_,rfl,_,_⟩⟩
 ·exact λl hl=>by simp at hl
 ·exact λl hl=>by simp at hl
 have a2:=aT8 o z.d1 A.d1 (λa d=>(r a d).d1) a1;refine cS.ord λl hl=>?_
 have b1:∀(e:List (Int×Lt)) (k:List Tg) (f:List (List Nd)),M=k++aU e->(∀a∈e,fC D a.2.2)->aP (λb3 l=>aW (aG (M.map zz)) (dE M 0 x.length) b5 [b3] l) (cU k.length e) f->∀l∈bX e f,fC D l.2:=by
  intro e;induction e with
  |nil=>intro k f _ _ _ l hl;simp [bX] at hl
  |cons a e ih=>
   intro k f v H d;rw [cU] at d;cases d with
   |@cons _ m _ f k1 k2=>
    have t:aU (a::e)=aN a.1 a.2.2++aU e:=by simp [aU,aN]
    rw [t,<-zv] at v;intro l hl;rw [show bX (a::e) (m::f)=(a.2.1,m)::bX e f from rfl] at hl;rcases zm.1 hl with rfl|hl
    ·show fC D m;obtain ⟨Q,c2,W,R,b8,b9⟩:=(H a (by simp)).d1;have a7:M[k.length]?=some (a.1,Q):=by
      rw [v,W,zv,zn (zg _)];simp [aN]
     have a6:(aG (M.map zz)).named k.length:=(fL (by rw [zo,a7];rfl)).2 R;cases k1 with
     |var q _=>exact absurd a6 (q _ (Cl.refl _))
     |@name _ j _ m' q u h3=>
      obtain ⟨g,C,E,s⟩:=sP u;rw [List.append_nil] at h3;obtain ⟨S,T⟩:=aT7 a2 h3 λB a8=>a0 j B a8
      refine ⟨_,m',rfl,by rw [s];exact E,by rw [s];exact J g (zw C) E,?_,λb6 a9=>?_⟩
      ·rw [S,sO C,s]
      ·rcases T b6 a9 with d|⟨c1,U,V,rfl⟩
       ·exact zq d
       ·obtain ⟨O,F,G,X⟩:=sP U;have b0:aX O.2=0:=by rw [<-sO F,V];rfl
        rw [X];exact zp ⟨J O (zw F) G,G,b0⟩
    ·refine ih (k++aN a.1 a.2.2) f v (λb4 Y=>H b4 (by simp [Y])) ?_ l hl;rw [zs,show (aN a.1 a.2.2).length=a.2.2.length by simp [aN]];exact k2
 exact b1 p (aN o1 x++aN o2 y) b2 o.symm r a3 l hl
variable {D:Nd->Prop}{v:List Nd->Bool}
def eI(D:Nd->Prop)(a:Nd):Prop:=D a/\aL a=false/\aX a=0
def jH(D:Nd->Prop)(v:List Nd->Bool)(c:List Lt):Prop:=∀σ:Int->Nd,(∀a,eI D (σ a))->∃l∈c,v (bK σ l.2)≠l.1
theorem aHx{o:List (Int×Lt)}{p:Int->Nd}{k:Int->Int->Nd}(w:fC D x)(z:fC D y)(u:∀e∈o,fC D e.2.2)(B:∀f,eI D (p f))(A:∀a n,(∃f,k a n=p f)\/∃d∈aN o1 x++aN o2 y++aU o,aL d.2=false/\aX d.2=0/\k a n=d.2):∀a n,eI D (k a n):=λa n=>by
 rcases A a n with ⟨f,g⟩|⟨d,ht,m,q,g⟩
 ·rw [g];exact B f
 ·rw [g];refine ⟨?_,m,q⟩;have j:∀(a:Int) (l:List Nd),fC D l->d∈aN a l->D d.2:=λa l r s=>by
   obtain ⟨n,t,rfl⟩:=zy.1 s;exact r.mem n t m
  rcases zr.1 ht with ht|ht
  ·rcases zr.1 ht with ht|ht
   ·exact j _ _ w ht
   ·exact j _ _ z ht
  ·obtain ⟨e,C,E⟩:=za.1 ht;exact j e.1 e.2.2 (u e C) E
theorem aHy(c d:List Lt)(a b:Nat):bB 0 [(c,a),(d,b)]=(c.eraseIdx a).map (λl=>((0:Int),l))++(d.eraseIdx b).map (λl=>((1:Int),l)):=by simp [bB]
theorem aCz(c:List Lt)(b:Nat):bB 0 [(c,b)]=(c.eraseIdx b).map (λl=>((0:Int),l)):=by simp [bB]
theorem cS.rest{d:List (List Lt×Nat)}{o:Nat}(e:∀p∈d,cS D p.1):∀a∈bB o d,fC D a.2.2:=λa j=>by
 obtain ⟨p,g,f⟩:=rU _ _ a j;exact e p g _ f
theorem aD0{l:Lt}(e:l∈c)(a:Nat):l∈c.eraseIdx a\/∃e:a<c.length,l=c[a]:=by
 obtain ⟨j,g,d⟩:=zj e;by_cases f:j=a
 ·subst f;exact zp ⟨g,d.symm⟩
 ·exact zq (zt.2 ⟨j,g,f,d⟩)
theorem aT9{d:List Lt}{i H:Int}(z:cS D c)(A:cS D d)(R:jH D v c)(S:jH D v d)(a:kH c d i H out true 0):jH D v out/\cS D out:=by
 rcases a with ⟨_,_,a,_⟩|⟨_,_,⟨_,_,a,_⟩|⟨f,b,⟨u,w,_,_,T⟩,a⟩⟩
 ·cases a
 ·cases a
 rw [fY u,fY w] at a;have j:=z _ (zx u);have k:=A _ (zx w);have g:∀r∈bB 0 [(c,f),(d,b)],fC D r.2.2:=cS.rest λU B=>by
  simp at B;rcases B with rfl|rfl
  ·exact z
  ·exact A
 refine ⟨λσ G=>?_,vI j k g a⟩;obtain ⟨t,O,Q,s⟩:=aHw (σ:=σ) j.d1 k.d1 (λr a=>(g r a).d1) a;have C:=aHx j k g G O;rw [aHy] at s;obtain ⟨l,N,F⟩:=R (t 0) (C 0);rcases aD0 N f with e|⟨_,rfl⟩
 ·obtain ⟨m,o,p,q⟩:=s (0,l) (zf _ (zy.2 ⟨l,e,rfl⟩));exact ⟨m,o,by rw [p,q];exact F⟩
 ·obtain ⟨E,I,J⟩:=S (t 1) (C 1);rcases aD0 I b with e|⟨_,rfl⟩
  ·obtain ⟨m,o,p,q⟩:=s (1,E) (zh _ (zy.2 ⟨E,e,rfl⟩));exact ⟨m,o,by rw [p,q];exact J⟩
  ·rw [Q] at F;exfalso;cases e:c[f].1<;>cases h2:d[b].1<;>cases h3:v (bK (t 1) d[b].2)<;>simp_all
theorem aTa{i F:Int}(f:cS D c)(J:jH D v c)(a:yC c i F out true 0):jH D v out/\cS D out:=by
 rcases a with ⟨_,_,a,_⟩|⟨_,⟨_,_,a,_⟩|⟨d,b,⟨e,t,_,_,N,B⟩,a⟩⟩
 ·cases a
 ·cases a
 rw [fY e,fY t] at a;have j:=f _ (zx e);have k:=f _ (zx t);have g:∀r∈bB 0 [(c,b)],fC D r.2.2:=cS.rest λO u=>by
  simp at u;subst u;exact f
 refine ⟨λσ E=>?_,vI j k g a⟩;obtain ⟨z,H,I,s⟩:=aHw (σ:=σ) j.d1 k.d1 (λr a=>(g r a).d1) a;have C:=aHx j k g E H;rw [aCz] at s;obtain ⟨l,G,w⟩:=J (z 0) (C 0);rcases aD0 G b with A|⟨_,rfl⟩
 ·obtain ⟨m,o,p,q⟩:=s (0,l) (zy.2 ⟨l,A,rfl⟩);exact ⟨m,o,by rw [p,q];exact w⟩
 ·obtain ⟨m,o,p,q⟩:=s (0,c[d]) (zy.2 ⟨c[d],zt.2 ⟨d,e,by omega,rfl⟩,rfl⟩);exact ⟨m,o,by rw [p,q];show v (bK (z 0) c[d].2)≠c[d].1;rw [I,B];exact w⟩
theorem aHz{f:List (aK×Value)}{j:aK}(m:∀c∈P,cS D c/\jH D v c)(d:∀g,g<n->cS D (aF f g)/\jH D v (aF f g))(a:nF P f n j):cS D j.c/\jH D v j.c:=by
 rcases a with ⟨_,_,_,_,a⟩|⟨_,e,k,a⟩|⟨_,_,e,a⟩
 ·exact m _ (zw a)
 ·exact (aT9 (d _ e).1 (d _ k).1 (d _ e).2 (d _ k).2 a).symm
 ·exact (aTa (d _ e).1 (d _ e).2 a).symm
theorem aTb{d:List (aK×Value)}(f:∀c∈P,cS D c/\jH D v c)(g:∀a (m:a<d.length),nF P d a d[a].1):∀a,a<d.length->cS D (aF d a)/\jH D v (aF d a):=by
 intro a;induction a using Nat.strongRecOn with
 |ind a ih=>
  intro e;rw [lI e];exact aHz f (λk j=>ih k j (by omega)) (g a e)
theorem aTc{k:List (aK×Value)}{p:aK}(r:∀c∈P,cS D c)(d:∀o,o<n->cS D (aF k o))(a:nF P k n p):cS D p.c:=by
 rcases a with ⟨_,_,_,_,a⟩|⟨_,e,m,a⟩|⟨_,_,e,a⟩
 ·exact r _ (zw a)
 ·rcases a with ⟨_,_,a,_⟩|⟨_,_,⟨_,_,a,_⟩|⟨q,b,⟨f,g,_,_,s⟩,a⟩⟩
  ·cases a
  ·cases a
  rw [fY f,fY g] at a;exact vI (d _ e _ (zx f)) (d _ m _ (zx g)) (cS.rest λt j=>by
   simp at j;rcases j with rfl|rfl
   ·exact d _ e
   ·exact d _ m) a
 ·rcases a with ⟨_,_,a,_⟩|⟨_,⟨_,_,a,_⟩|⟨q,b,⟨f,g,_,_,u,s⟩,a⟩⟩
  ·cases a
  ·cases a
  rw [fY f,fY g] at a;exact vI (d _ e _ (zx f)) (d _ e _ (zx g)) (cS.rest λt j=>by
   simp at j;subst j;exact d _ e) a
theorem aTd{d:List (aK×Value)}(f:∀c∈P,cS D c)(g:∀a (m:a<d.length),nF P d a d[a].1):∀a,a<d.length->cS D (aF d a):=by
 intro a;induction a using Nat.strongRecOn with
 |ind a ih=>
  intro e;rw [lI e];exact aTc f (λk j=>ih k j (by omega)) (g a e)
variable {D:Nd->Prop}
theorem aI0{e j:Type}{d:e->List j}:∀(a:List e),(∀t∈a,d t≠[])->a.length<=(a.flatMap d).length
 |[],_=>by simp
 |t::a,h=>by
  have k:=aI0 a λg f=>h g (by simp [f])
  have m:0<(d t).length:=ze.2 (h t (by simp));rw [zc,zs,z0];omega
theorem aI1{p q:Type}{d:p->List q}:∀(a:List p) (f:List q),a.flatMap d=f->f.length=a.length->(∀t∈a,d t≠[])->aP (λt g=>d t=[g]) a f
 |[],f,e,_,_=>by
  rw [<-e];exact aP.nil
 |t::a,f,e,hl,h=>by
  rw [zc] at e;have r:=aI0 a λm j=>h m (by simp [j])
  have s:0<(d t).length:=ze.2 (h t (by simp));have o:=congrArg z1 e;rw [zs] at o;rw [z0] at hl;obtain ⟨g,k⟩ : ∃g,d t=[g]:=List.length_eq_one_iff.1 (by omega);rw [k,List.singleton_append] at e;rw [<-e];refine aP.cons k (aI1 a _ rfl ?_ λm j=>h m (by simp [j]));rw [k,List.length_singleton] at o;omega
theorem aTe(a:aQ l 1=true):l≠[]:=λd=>by
 rw [d] at a;exact absurd a (by decide)
open Classical in
theorem aAb{a:List Lt}:bD c a=true↔c.length<=a.length/\gN a c []:=by unfold bD;exact decide_eq_true_iff
theorem aTf{m A:List Lt}(q:bD m A=true)(X:cS D m)(Y:cS D A){p:Int->Nd}(O:∀d,eI D (p d)):∃o:Int->Nd,(∀d,eI D (o d))/\∀l∈m,∃Q∈A,Q.1=l.1/\bK p Q.2=bK o l.2:=by
 classical
 obtain ⟨_,j,a1,_,a2⟩:=aAb.1 q;let g:Nd->List Nd:=λn=>if aL n then j n.2 else [n]
 have V:∀n,g n≠[]:=λn=>by
  show (if aL n then j n.2 else [n])≠[];split
  ·exact aTe (a1 _)
  ·simp
 let o:Int->Nd:=λd=>if q:∃a,j d=[a]/\(aL a=true\/eI D a) then (if aL (Classical.choose q)=true then p (Classical.choose q).2 else Classical.choose q) else p 0
 have N:∀d a,j d=[a]->(aL a=true\/eI D a)->o d=if aL a=true then p a.2 else a:=λd a s t=>by
  have k:∃a,j d=[a]/\(aL a=true\/eI D a):=⟨a,s,t⟩;have m:o d=if aL (Classical.choose k)=true then p (Classical.choose k).2 else Classical.choose k:=dif_pos k
  have f:=s.symm.trans (Classical.choose_spec k).1;injection f with f;rw [m,<-f]
 refine ⟨o,λd=>?_,λl J=>?_⟩
 ·by_cases k:∃a,j d=[a]/\(aL a=true\/eI D a)
  ·obtain ⟨a,s,t⟩:=k;rw [N d a s t];by_cases e:aL a=true
   ·rw [aI e];exact O _
   ·rw [aH e];exact t.resolve_left e
  ·have m:o d=p 0:=dif_neg k;rw [m];exact O 0
 ·have B:=a2 l J;refine ⟨_,B,rfl,?_⟩;obtain ⟨S,E,z,w,_,F,T⟩:=X l J;obtain ⟨b,R,r,a3,_,G,H⟩:=Y _ B;simp only at r ⊢;have I:subst j l.2=S::E.flatMap g:=by
   rw [z,nH,w];rfl
  have U:=I.symm.trans r;injection U with e5 e6;have W:=aI1 E R e6 (by rw [<-F,<-G,e5]) λa _=>V a
  rw [r,z,<-e5];unfold bK;rw [zk,zk,aH (by simp [w]),aH (by simp [w])];congr 1
  clear z r I e6 F G B;induction W with
  |nil=>rfl
  |@cons a u E R f _ ih=>
   rw [zk,zk,ih (λa C=>T a (by simp [C])) (λa C=>H a (by simp [C]))];congr 1
   have Z:aL u=true\/eI D u:=H u (by simp);by_cases e:aL a=true
   ·rw [aI e];have a0:j a.2=[u]:=by
     have:g a=j a.2:=aI e;rw [<-this];exact f
    rw [N _ u a0 Z]
   ·rw [aH e];have:g a=[a]:=aH e;rw [this] at f;injection f with f;subst f;rw [aH e]
variable {D:Nd->Prop}{T:List (aK×Value)}{ks:List Nat}
theorem aI2{c:List Lt}:∀(k:Nat),k<=c.length->pK c k=true->∃d a,((d,a):Lt)∈c/\((!d,a):Lt)∈c
 |0,_,h=>by simp [pK] at h
 |k+1,hk,h=>by
  rw [aK2 c k (by omega),Bool.or_eq_true] at h;rcases h with h|h
  ·exact aI2 k (by omega) h
  ·exact ⟨c[k].1,c[k].2,zx (by omega),List.mem_of_mem_take ((xM _ _).1 h)⟩
theorem aTg(e:eO c=true):∃d a,((d,a):Lt)∈c/\((!d,a):Lt)∈c:=aI2 c.length (zg _) e
def fK(a:Int->Nd)(c:List Lt):List (Bool×List Nd):=c.map λl=>(l.1,bK a l.2)
def rC(T:List (aK×Value))(ks:List Nat)(c:List Lt):Prop:=eO c=true\/∃a∈ks,bD (aF T a) c=true
structure vJ(D:Nd->Prop)(T:List (aK×Value))(ks:List Nat):Prop where
 cl:∀k∈ks,aY (aF T k)=true/\cS D (aF T k)/\aF T k≠[]
 fac:∀k∈ks,∀y∈mA (aF T k) k,y.2=0/\rC T ks y.1.c
 res:∀k∈ks,∀m∈ks,m<=k->∀y∈gI (aF T k) k (aF T m) m,y.2=0/\rC T ks y.1.c
def sQ(d:List (Bool×List Nd)):Prop:=∃a,(true,a)∈d/\(false,a)∈d
theorem sQ.sub{a d:List (Bool×List Nd)}(g:sQ a)(e:∀l∈a,l∈d):sQ d:=by obtain ⟨f,j,k⟩:=g;exact ⟨f,e _ j,e _ k⟩
theorem aTh(j:eO c=true)(a:Int->Nd):sQ (fK a c):=by
 obtain ⟨d,e,k,m⟩:=aTg j;have f:(d,bK a e)∈fK a c:=zy.2 ⟨_,k,rfl⟩;have g:(!d,bK a e)∈fK a c:=zy.2 ⟨_,m,rfl⟩;cases d with
 |true=>exact ⟨_,f,g⟩
 |false=>exact ⟨_,g,f⟩
theorem aI3{d:List Nd}{k m:Int->Nd}(g:fC D l)(j:fC D d)(a:bK k l=bK m d):l[0]?=d[0]?:=by obtain ⟨o,p,rfl,e,_⟩:=g;obtain ⟨b,q,rfl,f,_⟩:=j;unfold bK at a;rw [zk,zk,aH (by simp [e]),aH (by simp [f])] at a;injection a with a _;simp [a]
theorem aAc(a:i<c.length):iW c i=c[i].2[0]?:=by simp [iW,a]
theorem rC.ins(k:vJ D T ks)(a:rC T ks c)(m:cS D c){f:Int->Nd}(q:∀g,eI D (f g)):sQ (fK f c)\/∃d∈ks,(aF T d).length<=c.length/\∃e:Int->Nd,(∀g,eI D (e g))/\∀l∈fK e (aF T d),l∈fK f c:=by
 rcases a with a|⟨d,j,a⟩
 ·exact zq (aTh a f)
 ·obtain ⟨e,w,z⟩:=aTf a (k.cl d j).2.1 m q;refine zp ⟨d,j,(aAb.1 a).1,e,w,λl o=>?_⟩;obtain ⟨x,p,rfl⟩:=zy.1 o;obtain ⟨r,s,t,u⟩:=z x p;exact zy.2 ⟨r,s,by rw [t,u]⟩
theorem aTi{d:List Tg}{e b:Nat}{a:List (Int×Lt)}{j:Bool}{f:Int}(g:eG d e b a out j f):out.length<=a.length:=by
 rcases g with ⟨_,rfl,_⟩|⟨_,m,k,_,_,⟨_,rfl,_⟩|⟨_,rfl,_⟩⟩
 ·simp
 ·simp
 ·exact Nat.le_trans (aIt _) aIs
theorem aI4(r:vJ D T ks)(s:Bool×List Nd):∀(n a:Nat),a∈ks->(aF T a).length<=n->∀k:Int->Nd,(∀o,eI D (k o))->sQ (fK k (aF T a))\/∃j∈ks,∃q:Int->Nd,(∀o,eI D (q o))/\(∀l∈fK q (aF T j),l∈fK k (aF T a))/\∀i d (g:i<(aF T j).length) (f:d<(aF T j).length),i<d->((aF T j)[i].1,bK q (aF T j)[i].2)=s->((aF T j)[d].1,bK q (aF T j)[d].2)=s->False:=by
 intro n;induction n with
 |zero=>
  intro a p J;exact absurd (zu.1 (Nat.le_zero.1 J)) (r.cl a p).2.2
 |succ n ih=>
  intro a p J k R;obtain ⟨Y,E,_⟩:=r.cl a p;by_cases O:∃i d,∃(g:i<(aF T a).length) (f:d<(aF T a).length),i<d/\((aF T a)[i].1,bK k (aF T a)[i].2)=s/\((aF T a)[d].1,bK k (aF T a)[d].2)=s
  ·obtain ⟨i,d,g,f,F,B,C⟩:=O;have V:=B.trans C.symm;injection V with e4 e5;have H:=E _ (zx g);have I:=E _ (zx f);have N:∀w∈bB 0 [(aF T a,d)],fC D w.2.2:=cS.rest λb7 u=>by
    simp at u;subst u;exact E
   have t:=aIk (vT Y) i d;rw [fY g,fY f] at t;have u:(i,d)∈fI (aF T a) (aF T a):=aAh.2 ⟨g,f,by rw [aAc g,aAc f];exact aI3 H I e5⟩;have a4:i<d/\gH (aF T a) i=gH (aF T a) d:=⟨F,by rw [sS g,sS f];exact e4⟩;have Q:(kC (aF T a) i d).2.1=true\/(kC (aF T a) i d).2.2≠0->((⟨3,a,0,i,d,(kC (aF T a) i d).1⟩,(kC (aF T a) i d).2.2):aK×Int)∈mA (aF T a) a:=λe=>zd.2 ⟨(i,d),u,by unfold lZ;rw [aI a4,aI e]⟩
   rcases aHv (θ:=λ_=>k) H.d1 I.d1 (λw e=>(N w e).d1) e5 t with e|⟨W,S,b2,b8,b3⟩
   ·exact absurd (r.fac a p _ (Q (zp e))).1 e
   ·have Z:rC T ks (kC (aF T a) i d).1:=(r.fac a p _ (Q (zq W))).2;have X:cS D (kC (aF T a) i d).1:=vI H I N t;have a5:∀o,eI D (S o):=λo=>by
     obtain ⟨_,n,U⟩:=b2 o;rw [U];exact R n
    have G:∀l∈fK S (kC (aF T a) i d).1,l∈fK k (aF T a):=λl m=>by
     obtain ⟨a7,a3,rfl⟩:=zy.1 m;obtain ⟨w,z,A,b1⟩:=b3 a7 a3;rw [aCz] at z;obtain ⟨x,b4,rfl⟩:=zy.1 z;exact zy.2 ⟨x,zi b4,by rw [A,b1]⟩
    rcases Z.ins r X a5 with e|⟨j,a0,b6,q,z,A⟩
    ·exact zq (e.sub G)
    ·have a2:=aTi t;rw [aCz,List.length_map,List.length_eraseIdx,aI f] at a2;rcases ih j a0 (by omega) q z with e|⟨a6,a1,b5,a8,a9,b0⟩
     ·exact zq (e.sub λl m=>G l (A l m))
     ·exact zp ⟨a6,a1,b5,a8,λl m=>G l (A l (a9 l m)),b0⟩
  ·exact zp ⟨a,p,k,R,λl m=>m,λi d g f F B C=>O ⟨i,d,g,f,F,B,C⟩⟩
theorem aI5(k:vJ D T ks){a d:Nat}(z:a∈ks)(B:d∈ks)(Q:d<=a){t u:Int->Nd}(a9:∀f,eI D (t f))(b0:∀f,eI D (u f)){i e:Nat}(m:i<(aF T a).length)(o:e<(aF T d).length)(N:bK t (aF T a)[i].2=bK u (aF T d)[e].2)(a6:(aF T a)[i].1≠(aF T d)[e].1){j:List (Bool×List Nd)}(O:(∀l∈fK t ((aF T a).eraseIdx i),l∈j)/\∀l∈fK u ((aF T d).eraseIdx e),l∈j):sQ j\/∃F∈ks,∃s:Int->Nd,(∀f,eI D (s f))/\∀l∈fK s (aF T F),l∈j:=by
 obtain ⟨a1,I,_⟩:=k.cl a z;obtain ⟨a2,J,_⟩:=k.cl d B;have C:=I _ (zx m);have E:=J _ (zx o);have S:∀q∈bB 0 [(aF T a,i),(aF T d,e)],fC D q.2.2:=cS.rest λb4 p=>by
  simp at p;rcases p with rfl|rfl
  ·exact I
  ·exact J
 have w:=aIl (vT a1) (vT a2) i e;rw [fY m,fY o] at w;have p:(i,e)∈fI (aF T a) (aF T d):=aAh.2 ⟨m,o,by rw [aAc m,aAc o];exact aI3 C E N⟩;have a7:gH (aF T a) i≠gH (aF T d) e:=by rw [sS m,sS o];exact a6
 have V:(kD (aF T a) i (aF T d) e).2.1=true\/(kD (aF T a) i (aF T d) e).2.2≠0->((⟨2,a,d,i,e,(kD (aF T a) i (aF T d) e).1⟩,(kD (aF T a) i (aF T d) e).2.2):aK×Int)∈gI (aF T a) a (aF T d) d:=λg=>zd.2 ⟨(i,e),p,by unfold mV;rw [aI a7,aI g]⟩
 rcases aHv (θ:=λG=>if G=0 then t else u) C.d1 E.d1 (λq g=>(S q g).d1) (by simpa using N) w with g|⟨Z,X,b2,b5,b3⟩
 ·exact absurd (k.res a z d B Q _ (V (zp g))).1 g
 ·have a3:rC T ks (kD (aF T a) i (aF T d) e).1:=(k.res a z d B Q _ (V (zq Z))).2;have a0:cS D (kD (aF T a) i (aF T d) e).1:=vI C E S w;have a8:∀f,eI D (X f):=λf=>by
   obtain ⟨G,n,Y⟩:=b2 f;rw [Y];by_cases R:G=0
   ·simp only [R,if_true];exact a9 n
   ·simp only [aH R];exact b0 n
  have U:∀l∈fK X (kD (aF T a) i (aF T d) e).1,l∈j:=λl A=>by
   obtain ⟨b1,a5,rfl⟩:=zy.1 A;obtain ⟨q,r1,r,W⟩:=b3 b1 a5;rw [aHy] at r1;rcases zr.1 r1 with r1|r1
   ·obtain ⟨x,H,rfl⟩:=zy.1 r1;refine O.1 _ (zy.2 ⟨x,H,?_⟩);rw [r,W];simp
   ·obtain ⟨x,H,rfl⟩:=zy.1 r1;refine O.2 _ (zy.2 ⟨x,H,?_⟩);rw [r,W];simp
  rcases a3.ins k a0 a8 with g|⟨F,a4,_,s,r1,r⟩
  ·exact zq (g.sub U)
  ·exact zp ⟨F,a4,s,r1,λl A=>U l (r l A)⟩
variable {D:Nd->Prop}{T:List (aK×Value)}{ks:List Nat}
def aD1(D:Nd->Prop)(T:List (aK×Value))(ks:List Nat)(d:List (Bool×List Nd)):Prop:=∃e∈ks,∃a:Int->Nd,(∀f,eI D (a f))/\d=fK a (aF T e)
theorem vK{c d:List (Bool×List Nd)}{a:List Nd}{l:Bool×List Nd}(e:l∈c)(f:l≠(false,a)):l∈nT c d a:=zf _ (List.mem_filter.2 ⟨e,by simpa using f⟩)
theorem vL{c a:List (Bool×List Nd)}{d:List Nd}{l:Bool×List Nd}(e:l∈a)(f:l≠(true,d)):l∈nT c a d:=zh _ (List.mem_filter.2 ⟨e,by simpa using f⟩)
theorem aI6{d:Int->Nd}{e:Bool×List Nd}(g:i<c.length)(k:(c[i].1,bK d c[i].2)=e)(m:∀i a (g:i<c.length) (j:a<c.length),i<a->(c[i].1,bK d c[i].2)=e->(c[a].1,bK d c[a].2)=e->False):∀l∈fK d (c.eraseIdx i),l∈fK d c/\l≠e:=λl r=>by
 obtain ⟨x,o,rfl⟩:=zy.1 r;obtain ⟨a,j,q,p⟩:=zt.1 o;refine ⟨zy.2 ⟨x,zi o,rfl⟩,λf=>?_⟩;rw [<-p] at f;rcases Nat.lt_or_gt_of_ne q with h|h
 ·exact m a i j g h f k
 ·exact m i a g j h k f
theorem aTj(u:vJ D T ks):aBa (aD1 D T ks):=by
 rintro c b0 e ⟨w,Y,B,a0,rfl⟩ ⟨z,Z,C,a1,rfl⟩ b1 b2;have done:∀{t:List (Bool×List Nd)},(sQ t\/∃O∈ks,∃A:Int->Nd,(∀a9,eI D (A a9))/\∀l∈fK A (aF T O),l∈t)->aLk t\/∃d,aD1 D T ks d/\aLj d t:=λh=>by
  rcases h with h|⟨O,a4,A,a5,a6⟩
  ·exact zq h
  ·exact zp ⟨_,⟨O,a4,A,a5,rfl⟩,a6⟩
 rcases aI4 u (false,e) _ w Y (zg _) B a0 with ⟨f,r,s⟩|⟨k,G,Q,J,a2,a7⟩
 ·by_cases o:f=e
  ·subst o;refine zp ⟨_,⟨z,Z,C,a1,rfl⟩,λl a=>?_⟩;by_cases d:l=(true,f)
   ·rw [d];exact vK r (by simp)
   ·exact vL a d
  ·exact zq ⟨f,vK r (by simp),vK s (by simp [o])⟩
 ·rcases aI4 u (true,e) _ z Z (zg _) C a1 with ⟨f,r,s⟩|⟨m,H,R,N,a3,a8⟩
  ·by_cases o:f=e
   ·subst o;refine zp ⟨_,⟨w,Y,B,a0,rfl⟩,λl a=>?_⟩;by_cases d:l=(false,f)
    ·rw [d];exact vL s (by simp)
    ·exact vK a d
   ·exact zq ⟨f,vL r (by simp [o]),vL s (by simp)⟩
  ·by_cases E:∃i,∃E:i<(aF T k).length,((aF T k)[i].1,bK Q (aF T k)[i].2)=(false,e)
   ·by_cases F:∃g,∃F:g<(aF T m).length,((aF T m)[g].1,bK R (aF T m)[g].2)=(true,e)
    ·obtain ⟨i,p,U⟩:=E;obtain ⟨g,q,V⟩:=F;have S:=aI6 p U a7;have j:=aI6 q V a8;have W:∀l∈fK Q ((aF T k).eraseIdx i),l∈nT (fK B (aF T w)) (fK C (aF T z)) e:=λl a=>vK (a2 l (S l a).1) (S l a).2
     have X:∀l∈fK R ((aF T m).eraseIdx g),l∈nT (fK B (aF T w)) (fK C (aF T z)) e:=λl a=>vL (a3 l (j l a).1) (j l a).2
     injection U with i1 i2;injection V with j1 j2;rcases Nat.le_total m k with h|h
     ·exact done (aI5 u G H h J N p q (i2.trans j2.symm) (by rw [i1,j1];simp) ⟨W,X⟩)
     ·exact done (aI5 u H G h N J q p (j2.trans i2.symm) (by rw [i1,j1];simp) ⟨X,W⟩)
    ·refine zp ⟨_,⟨m,H,R,N,rfl⟩,λl a=>vL (a3 l a) λd=>F ?_⟩;obtain ⟨x,I,j⟩:=zy.1 a;obtain ⟨g,q,rfl⟩:=zj I;exact ⟨g,q,j.trans d⟩
   ·refine zp ⟨_,⟨k,G,Q,J,rfl⟩,λl a=>vK (a2 l a) λd=>E ?_⟩;obtain ⟨x,I,j⟩:=zy.1 a;obtain ⟨i,p,rfl⟩:=zj I;exact ⟨i,p,j.trans d⟩
theorem aTk(j:vJ D T ks)(o:List (List Nd))(z:∀d∈ks,∀a:Int->Nd,(∀N,eI D (a N))->∀l∈aF T d,bK a l.2∈o){P:List (List Lt)}(w:∀c∈P,cS D c/\rC T ks c):∃v:List Nd->Bool,∀c∈P,jH D v c:=by
 obtain ⟨v,F⟩:=aZd o (aD1 D T ks) (by
  rintro e ⟨d,f,a,g,rfl⟩ l C;obtain ⟨x,k,rfl⟩:=zy.1 C;exact z d f a g x k) (aTj j) (by
  rintro ⟨d,f,a,g,s⟩;exact (j.cl d f).2.2 (List.map_eq_nil_iff.1 s.symm))
 refine ⟨v,λc A a g=>?_⟩;obtain ⟨t,u⟩:=w c A;have m:∀e:Bool×List Nd,e∈fK a c->v e.2≠e.1->∃l∈c,v (bK a l.2)≠l.1:=λe B E=>by
  obtain ⟨x,k,rfl⟩:=zy.1 B;exact ⟨x,k,E⟩
 rcases u.ins j t g with ⟨p,q,r⟩|⟨d,f,_,O,I,J⟩
 ·cases hb:v p with
  |true=>exact m _ r (by simp [hb])
  |false=>exact m _ q (by simp [hb])
 ·obtain ⟨l,G,H⟩:=F _ ⟨d,f,O,I,rfl⟩;exact m l (J l G) H
end
def aD2(d:List (aK×Value))(ks:List Nat):Prop:=∀a∈ks,(∀y∈mA (aF d a) a,y.2=0/\(bP y.1.c=true\/eO y.1.c=true))/\∀e∈ks,e<=a->∀y∈gI (aF d a) a (aF d e) e,y.2=0/\(bP y.1.c=true\/eO y.1.c=true)
theorem uA.fine{d:List (aK×Value)}{y:aK×Int}(k:eH (λc=>ks.any λm=>bD (aF d m) c) L.length L=none)(g:uA L d ks b y)(j:b=true->y.2=0/\(bP y.1.c=true\/eO y.1.c=true)):y.2=0/\rC d ks y.1.c:=by
 rcases g with ⟨h1,e⟩|⟨h1,e⟩
 ·obtain ⟨a,h4⟩:=j e;rcases h1 with h1|h1
  ·exact absurd a h1
  ·rcases h4 with h4|h4
   ·rw [h1] at h4;cases h4
   ·exact ⟨a,zq h4⟩
 ·have a:y.2=0:=Classical.byContradiction λf=>h1 (zq f)
  exact ⟨a,e.end k⟩
theorem jI.shut{D:Nd->Prop}{f:List (aK×Value)}(e:jI P L n f ks b)(m:∀c∈P,cS D c)(k:eH (λc=>ks.any λa=>bD (aF f a) c) L.length L=none)(o:b=true->aD2 f ks):vJ D f ks/\∀c∈P,cS D c/\rC f ks c:=by have t:=aTd m e.step;refine ⟨⟨λa d=>⟨e.clause d,t a (e.ok.k a d),?_⟩,λa d y g=>(e.fac a d y g).fine k λj=>(o j a d).1 y g,λa d s r q y g=>(e.res a d s r q y g).fine k λj=>(o j a d).2 s r q y g⟩,λc p=>⟨m c p,(e.giv c p).end k⟩⟩;rw [lI (e.ok.k a d)];exact (e.good a (e.ok.k a d)).1
theorem jI.sat{D:Nd->Prop}{d:List (aK×Value)}(j:jI P L n d ks b)(m:∀c∈P,cS D c)(s:eH (λc=>ks.any λe=>bD (aF d e) c) L.length L=none)(p:b=true->aD2 d ks)(f:List (List Nd))(o:∀c,cS D c->∀a:Int->Nd,(∀u,eI D (a u))->∀l∈c,bK a l.2∈f):∃v:List Nd->Bool,∀c∈P,jH D v c:=by obtain ⟨g,k⟩:=j.shut m s p;exact aTk g f (λe q a t l r=>o _ (g.cl e q).2.1 a t l r) k
theorem jI.unsat{D:Nd->Prop}{d:List (aK×Value)}{j:aK}(m:jI P L n d ks b)(e:∀c∈P,cS D c)(q:nF P d d.length j)(o:j.c=[]){k:Nd}(r:eI D k):¬∃v:List Nd->Bool,∀c∈P,jH D v c:=by rintro ⟨v,g⟩;have p:=aTb (D:=D) (v:=v) (λc a=>⟨e c a,g c a⟩) m.step;obtain ⟨l,f,_⟩:=(aHz (λc a=>⟨e c a,g c a⟩) p q).2 (λ_=>k) (λ_=>r);rw [o] at f;simp at f
