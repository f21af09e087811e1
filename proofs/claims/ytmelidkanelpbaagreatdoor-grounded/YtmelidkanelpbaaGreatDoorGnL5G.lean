import Derived.Test.YtmelidkanelpbaaGreatDoorGnR0G
open List renaming mem_map→zz,getElem_mem→zx,mem_of_getElem?→zw,mem_filter→zv,mem_append→zu,length_eq_zero_iff→zt,mem_eraseIdx_iff_getElem→zs,getElem?_map→zp,append_assoc→zo,getElem?_append_right→zn,getElem?_eq_getElem→zm,map_cons→zl,length_append→zk,mem_cons→zj,getElem_of_mem→zi,mem_of_mem_eraseIdx→zh,filter_eq_nil_iff→zg,mem_append_right→zf,mem_append_left→zd,length_pos_iff→zc,mem_filterMap→zb,flatMap_cons→za,getElem_map→z0,mem_flatMap→z1,length_cons→z2,length→z3
open Nat renaming le_refl→ze
open Or renaming inr→zr,inl→zq
open Prod renaming snd→zy
namespace Go.Proofs.YtmelidkanelpbaaGreatDoor
open Go.RowKit Go.Shelf Go.WideMaps
set_option maxRecDepth 100000
variable{b:Bool}{o1 o2:Int}{P:List (List Lt)}{L:List Cd}{c out:List Lt}{ks:List Nat}{l x y:List Nd}{M:List Tg}{i n:Nat}
section
theorem sS{a:Tg}(d:M[i]?=some a):((aG (M.map zy)).ch i).length=aX a.2:=by unfold aG;simp only [zp,d,Option.map_some,yG]
theorem sT(e:(aG (M.map zy)).named i):∃a,M[i]?=some a/\aK a.2=false/\(aG (M.map zy)).lab i=a.2:=by
 obtain ⟨n,d,f⟩:=nS e;rw [zp] at d;cases ht:M[i]? with
 |none=>rw [ht] at d;cases d
 |some a=>
  rw [ht] at d;obtain rfl:a.2=n:=by simpa using d
  exact ⟨a,rfl,f,by unfold aG;simp [ht]⟩
theorem aD3(a:¬(aG (M.map zy)).named i):(aG (M.map zy)).ch i=[]:=(aFy (θ:=λ_ _=>default) a).1
theorem aI8{u:List (Int×Lt)}{σ:Int->Nd}(a8:D1 x)(a9:D1 y)(c4:∀f∈u,D1 f.2.2){out:List Lt}(d:eH (aN o1 x++aN o2 y) 0 x.length u out true 0):∃p:Int->Int->Nd,(∀q n,(∃b2,p q n=σ b2)\/∃e∈aN o1 x++aN o2 y++aU u,aK e.2=false/\aX e.2=0/\p q n=e.2)/\bJ (p o1) x=bJ (p o2) y/\∀f∈u,∃T∈out,T.1=f.2.1/\bJ σ T.2=bJ (p f.1) f.2.2:=by
 classical
 obtain ⟨M,B⟩ : ∃M,aN o1 x++aN o2 y++aU u=M:=⟨_,rfl⟩;have b9:=aC1 x y o1 o2 u;have d5:=aC2 (o1:=o1) (o2:=o2) a8 a9 c4;rw [B] at b9;have a3:∀i,∀N∈(aG (M.map zy)).ch i,(aG (M.map zy)).ch N=[]:=by rw [b9];exact aBz d5
 unfold eH at d;rw [B] at d ⊢;rcases d with ⟨_,_,d,_⟩|⟨⟨c1,e8⟩,O,c9,d8,d7,⟨_,_,d,_⟩|⟨_,rfl,_,_⟩⟩
 ·cases d
 ·cases d
 obtain ⟨Y,e6,e7,-⟩:=aO7 (bX u c9) σ;let C:Nat->Nat->Prop:=dE M 0 x.length;have b5:∀i,C i i:=λi=>Cl.refl i
 have b6:∀i a,C i a->C a i:=λ_ _ d=>Cl.symm d
 have a2:∀i a j,C i a->C a j->C i j:=λ_ _ _ d j=>Cl.trans d j
 let V:Nat->Nd:=λi=>if d:∃a,C i a/\(aG (M.map zy)).named a then (aG (M.map zy)).lab (Classical.choose d) else Y (O i:Int)
 have W:∀i a,C i a->(aG (M.map zy)).named a->V i=(aG (M.map zy)).lab a:=λi a r A=>by
  have k:∃a,C i a/\(aG (M.map zy)).named a:=⟨a,r,A⟩;have g:V i=(aG (M.map zy)).lab (Classical.choose k):=dif_pos k;obtain ⟨s,w⟩:=Classical.choose_spec k;rw [g];exact c1 _ _ (a2 _ _ _ (b6 _ _ s) r) w A
 have X:∀i,(∀a,C i a->¬(aG (M.map zy)).named a)->V i=Y (O i:Int):=λi o=>dif_neg λ⟨a,m,t⟩=>o a m t
 have a5:∀i a,C i a->V i=V a:=λi a r=>by
  by_cases k:∃j,C i j/\(aG (M.map zy)).named j
  ·obtain ⟨j,m,t⟩:=k;rw [W i j m t,W a j (a2 _ _ _ (b6 _ _ r) m) t]
  ·rw [X i (λj m t=>k ⟨j,m,t⟩),X a (λj m t=>k ⟨j,a2 _ _ _ r m,t⟩),(d8 i a).2 r]
 have R:M[0]?=some (o1,x.headD default)/\aK (x.headD default)=false:=by obtain ⟨b3,b1,rfl,s,_⟩:=a8;rw [<-B];exact ⟨by simp [aN],s⟩
 have m:M[x.length]?=some (o2,y.headD default)/\aK (y.headD default)=false:=by obtain ⟨b3,b1,rfl,s,_⟩:=a9;rw [<-B,zo,zn (by simp [aN])];exact ⟨by simp [aN],s⟩
 have G:∀{i:Nat} {e:Tg},M[i]?=some e->aK e.2=false->(aG (M.map zy)).named i:=λo D=>(fO (by rw [zp,o];rfl)).2 D
 have S:∀i a,C i a->((aG (M.map zy)).ch i).length=((aG (M.map zy)).ch a).length:=by
  intro i a d;induction d with
  |refl=>rfl
  |@base i a d=>
   rcases d with d|⟨rfl,rfl⟩
   ·have:=congrArg z3 (aFz (θ:=λ_ _=>default) d).2;simpa using this
   ·have g:=c1 0 x.length (Cl.base (zr ⟨rfl,rfl⟩)) (G R.1 R.2) (G m.1 m.2);obtain ⟨e,v,_,I⟩:=sT (G R.1 R.2);obtain ⟨d0,Q,_,a1⟩:=sT (G m.1 m.2);rw [sS v,sS Q,<-I,<-a1,g]
  |symm _ ih=>exact ih.symm
  |trans _ _ ih1 ih2=>exact ih1.trans ih2
  |@down i a j E N _ _ _ hp a7 _=>rw [a3 i E (zw hp),a3 a N (zw a7)]
 have b8:∀i a,C i a->vD (aG (M.map zy)) V i a:=λi a r=>by
  refine ⟨a5 i a r,?_⟩;by_cases o:(aG (M.map zy)).named i
  ·by_cases A:(aG (M.map zy)).named a
   ·refine List.ext_getElem (by simpa using S i a r) λj s w=>?_
    rw [z0,z0];exact a5 _ _ (Cl.down r o A (zm (by simpa using s)) (zm (by simpa using w)))
   ·have g:=S i a r;rw [aD3 A] at g ⊢;rw [zt.1 g]
  ·have g:=S i a r;rw [aD3 o] at g ⊢;rw [zt.1 g.symm]
 have c0:∀i,(aG (M.map zy)).named i->V i=(aG (M.map zy)).lab i:=λi o=>W i i (b5 i) o
 let p:Int->Int->Nd:=λq n=>if d:∃i:Nat,∃e:Tg,M[i]?=some e/\aK e.2=true/\e.1=q/\e.2.2=n then V (Classical.choose d) else σ 0
 have c6:∀i,i<M.length->V i=kY p M i:=λi o=>by
  have F:M[i]?=some M[i]:=zm o;rw [vE F];by_cases D:aK M[i].2=true
  ·rw [aI D];have k:∃j:Nat,∃e:Tg,M[j]?=some e/\aK e.2=true/\e.1=M[i].1/\e.2.2=M[i].2.2:=⟨i,M[i],F,D,rfl,rfl⟩;have g:p M[i].1 M[i].2.2=V (Classical.choose k):=dif_pos k;obtain ⟨e,v,a0,I,d1⟩:=Classical.choose_spec k;rw [g];refine a5 _ _ (Cl.base (zq ?_));rw [(kC F D).1,(kC v a0).1,I,d1]
  ·rw [aH D];have c5:aK M[i].2=false:=by simpa using D
   obtain ⟨e,v,_,I⟩:=sT (G F c5);rw [c0 i (G F c5),I];rw [F] at v;rw [<-Option.some.inj v]
 have a6:∀(H:List Tg) (q:Int) (l:List Nd) (Z:List Tg),D1 l->M=H++aN q l++Z->gx (aG (M.map zy)) V H.length=bJ (p q) l:=λH q l Z c3 g=>by
  have:=aC0 (θ:=p) (A:=H) (C:=Z) (o:=q) c3;rw [<-g] at this;rw [<-this];obtain ⟨b3,b1,rfl,_,w,b0⟩:=c3;have e9:H.length+1+b1.length<=M.length:=by rw [g];simp [aN];omega
  unfold gx;rw [c6 _ (by omega)];congr 1
  refine List.map_congr_left λN a7=>c6 N ?_
  rw [g,aFx w b0,List.mem_range'_1] at a7;omega
 refine ⟨p,λq n=>?_,?_,λf d9=>?_⟩
 ·by_cases k:∃i:Nat,∃e:Tg,M[i]?=some e/\aK e.2=true/\e.1=q/\e.2.2=n
  ·have g:p q n=V (Classical.choose k):=dif_pos k;obtain ⟨e,v,a0,_,_⟩:=Classical.choose_spec k;rw [g];generalize Classical.choose k=i at v;by_cases A:∃a,C i a/\(aG (M.map zy)).named a
   ·obtain ⟨a,c7,c8⟩:=A;obtain ⟨d0,Q,d2,a1⟩:=sT c8;refine zr ⟨d0,zw Q,d2,?_,by rw [W i a c7 c8,a1]⟩;rw [<-sS Q,<-S i a c7,sS v];exact jS a0
   ·obtain ⟨b2,e0⟩:=e6 (O i:Int);exact zq ⟨b2,by rw [X i λa m t=>A ⟨a,m,t⟩,e0]⟩
  ·have g:p q n=σ 0:=dif_neg k;exact zq ⟨0,g⟩
 ·have d3:=a6 [] o1 _ (aN o2 y++aU u) a8 (by rw [<-B];simp);have b4:=a6 (aN o1 x) o2 _ (aU u) a9 B.symm;rw [show (aN o1 x).length=x.length by simp [aN]] at b4;rw [<-d3,<-b4];have c2:=b8 0 x.length (Cl.base (zr ⟨rfl,rfl⟩));unfold gx;rw [List.length_nil,c2.1,c2.2]
 ·have d6:∀E l,aW (aG (M.map zy)) C O [E] l->bJ Y l=gx (aG (M.map zy)) V E:=λE l d=>by
   have:=aO9 a3 c0 (λi o=>aD3 o) b5 b8 (λi o=>(X i o).symm) d;simpa using this
  have e1:∀(z:List (Int×Lt)) (J:List Tg) (U:List (List Nd)),M=J++aU z->(∀f∈z,D1 f.2.2)->aP (λE l=>aW (aG (M.map zy)) C O [E] l) (cU J.length z) U->aP (λf l=>bJ Y l=bJ (p f.1) f.2.2) z U:=by
   intro z;induction z with
   |nil=>
    intro J U _ _ d;cases d;exact aP.nil
   |cons f z ih=>
    intro J U a4 b7 d;rw [cU] at d;cases d with
    |cons s w=>
     have g:aU (f::z)=aN f.1 f.2.2++aU z:=by simp [aU,aN]
     rw [g,<-zo] at a4;refine aP.cons ?_ ?_
     ·rw [d6 _ _ s];exact a6 _ _ _ _ (b7 f (by simp)) a4
     ·refine ih (J++aN f.1 f.2.2) _ a4 (λe5 d4=>b7 e5 (by simp [d4])) ?_;rw [zk,show (aN f.1 f.2.2).length=f.2.2.length by simp [aN]];exact w
  obtain ⟨T,e2,e3,e4⟩:=(aOf (e1 u (aN o1 x++aN o2 y) c9 B.symm c4 d7)).1 f d9;obtain ⟨j,s,w,b0⟩:=e7 T e2;exact ⟨j,s,w.trans e3,b0.trans e4⟩
def fC(f:Nd->Prop)(l:List Nd):Prop:=∃a e,l=a::e/\aK a=false/\f a/\aX a=e.length/\∀d∈e,aK d=true\/(f d/\aK d=false/\aX d=0)
def cS(D:Nd->Prop)(c:List Lt):Prop:=∀l∈c,fC D l.2
variable {D:Nd->Prop}
theorem fC.d1(h:fC D l):D1 l:=by
 obtain ⟨a,m,d,e,_,f,g⟩:=h;refine ⟨a,m,d,e,f,λk j=>?_⟩;rcases g k j with h|h
 ·exact jS h
 ·exact h.2.2
theorem fC.mem(h:fC D l):∀a∈l,aK a=false->D a:=λa ht d=>by
 obtain ⟨g,j,rfl,_,e,_,f⟩:=h;rcases zj.1 ht with rfl|ht
 ·exact e
 ·rcases f a ht with h|h
  ·rw [h] at d;cases d
  ·exact h.1
theorem aS2{d e:Type}{f:d->e->Prop}{l:List d}{a:List e}(g:aP f l a):l.length=a.length:=by
 induction g with
 |nil=>rfl
 |cons _ _ ih=>simp [ih]
theorem fC.like{g:Int->Int->Prop}{f:List Nd}(k:fC D l)(q:aP (fX g) l f):fC D f:=by
 obtain ⟨d,w,rfl,e,m,o,p⟩:=k;cases q with
 |@cons _ b _ vs k1 k2=>
  have j:d=b:=by
   rcases k1 with ⟨a,_⟩|⟨_,a⟩
   ·rw [e] at a;cases a
   ·exact a
  subst j;refine ⟨d,vs,rfl,e,m,by rw [o,aS2 k2],λu s=>?_⟩;obtain ⟨v,t,r⟩:=pC k2 u s;rcases r with ⟨_,a,_⟩|⟨_,rfl⟩
  ·exact zq a
  ·exact p v t
theorem cS.ord(a:cS D c):cS D (aV c):=λg f=>by
 obtain ⟨l,e,_,d⟩:=pC (vB c).2 g f;exact (a l ((mH c).2.2 l e)).like d
theorem aS3{d:Gr}{p:Nat->Nat->Prop}{t:Nat->Nat}(s:∀i a,p i a->(d.ch i).length=(d.ch a).length){o:List Nat}{l:List Nd}(f:aW d p t o l):(∀g∈o,d.ch g=[])->l.length=o.length/\∀e∈l,aK e=true\/∃a,d.named a/\d.ch a=[]/\e=d.lab a:=by
 induction f with
 |nil=>exact λ_=>⟨rfl,λe ht=>by simp at ht⟩
 |@var i r l h1 _ ih=>
  intro j;obtain ⟨k,m⟩:=ih λg f=>j g (by simp [f])
  refine ⟨by simp [k],λe ht=>?_⟩;rcases zj.1 ht with rfl|ht
  ·exact zq (by rw [pW])
  ·exact m e ht
 |@name i a r l h1 h2 _ ih=>
  intro j;have q:d.ch a=[]:=by have:=s i a h1;rw [j i (by simp)] at this;exact zt.1 this.symm
  rw [q,List.nil_append] at ih;obtain ⟨k,m⟩:=ih λg f=>j g (by simp [f])
  refine ⟨by simp [k],λe ht=>?_⟩;rcases zj.1 ht with rfl|ht
  ·exact zr ⟨a,h2,q,rfl⟩
  ·exact m e ht
theorem aS4{q:List (Int×Lt)}(j:aN o1 x++aN o2 y++aU q=M)(u:D1 x)(v:D1 y)(I:∀N∈q,D1 N.2.2)(G:kV (aG (M.map zy)) (dE M 0 x.length)):∀i a,dE M 0 x.length i a->((aG (M.map zy)).ch i).length=((aG (M.map zy)).ch a).length:=by
 have t:=aC1 x y o1 o2 q;have F:=aC2 (o1:=o1) (o2:=o2) u v I;rw [j] at t;have s:∀i,∀o∈(aG (M.map zy)).ch i,(aG (M.map zy)).ch o=[]:=by rw [t];exact aBz F
 have g:∀{i:Nat} {r:Tg},M[i]?=some r->aK r.2=false->(aG (M.map zy)).named i:=λH J=>(fO (by rw [zp,H];rfl)).2 J
 have e:M[0]?=some (o1,x.headD default)/\aK (x.headD default)=false:=by obtain ⟨w,O,rfl,m,_⟩:=u;rw [<-j];exact ⟨by simp [aN],m⟩
 have f:M[x.length]?=some (o2,y.headD default)/\aK (y.headD default)=false:=by obtain ⟨w,O,rfl,m,_⟩:=v;rw [<-j,zo,zn (by simp [aN])];exact ⟨by simp [aN],m⟩
 intro i a d;induction d with
 |refl=>rfl
 |@base i a d=>
  rcases d with d|⟨rfl,rfl⟩
  ·have:=congrArg z3 (aFz (θ:=λ_ _=>default) d).2;simpa using this
  ·have E:=G 0 x.length (Cl.base (zr ⟨rfl,rfl⟩)) (g e.1 e.2) (g f.1 f.2);obtain ⟨r,z,_,A⟩:=sT (g e.1 e.2);obtain ⟨Q,B,_,C⟩:=sT (g f.1 f.2);rw [sS z,sS B,<-A,<-C,E]
 |symm _ ih=>exact ih.symm
 |trans _ _ ih1 ih2=>exact ih1.trans ih2
 |@down i a k p o _ _ _ hp hq _=>rw [s i p (zw hp),s a o (zw hq)]
theorem vN{p:List (Int×Lt)}(z:fC D x)(A:fC D y)(r:∀a∈p,fC D a.2.2){out:List Lt}{b7:Bool}{t:Int}(d:eH (aN o1 x++aN o2 y) 0 x.length p out b7 t):cS D out:=by
 obtain ⟨M,o⟩ : ∃M,aN o1 x++aN o2 y++aU p=M:=⟨_,rfl⟩;have I:=aC1 x y o1 o2 p;have Z:=aC2 (o1:=o1) (o2:=o2) z.d1 A.d1 (λa d=>(r a d).d1);rw [o] at I;have a0:∀i,∀B∈(aG (M.map zy)).ch i,(aG (M.map zy)).ch B=[]:=by rw [I];exact aBz Z
 have J:∀g∈M,aK g.2=false->D g.2:=by
  rw [<-o];intro g ht;have w:∀(N:Int) (l:List Nd),fC D l->g∈aN N l->aK g.2=false->D g.2:=λN l hl a4=>by
   obtain ⟨n,a5,rfl⟩:=zz.1 a4;exact hl.mem n a5
  rcases zu.1 ht with ht|ht
  ·rcases zu.1 ht with ht|ht
   ·exact w _ _ z ht
   ·exact w _ _ A ht
  ·obtain ⟨a,q,u⟩:=z1.1 ht;exact w a.1 a.2.2 (r a q) u
 unfold eH at d;rw [o] at d;rcases d with ⟨_,rfl,_⟩|⟨⟨a1,_⟩,b5,b2,c0,a3,⟨_,rfl,_⟩|⟨_,rfl,_,_⟩⟩
 ·exact λl hl=>by simp at hl
 ·exact λl hl=>by simp at hl
 have a2:=aS4 o z.d1 A.d1 (λa d=>(r a d).d1) a1;refine cS.ord λl hl=>?_
 have b1:∀(e:List (Int×Lt)) (k:List Tg) (f:List (List Nd)),M=k++aU e->(∀a∈e,fC D a.2.2)->aP (λb3 l=>aW (aG (M.map zy)) (dE M 0 x.length) b5 [b3] l) (cU k.length e) f->∀l∈bX e f,fC D l.2:=by
  intro e;induction e with
  |nil=>intro k f _ _ _ l hl;simp [bX] at hl
  |cons a e ih=>
   intro k f v H d;rw [cU] at d;cases d with
   |@cons _ m _ f k1 k2=>
    have t:aU (a::e)=aN a.1 a.2.2++aU e:=by simp [aU,aN]
    rw [t,<-zo] at v;intro l hl;rw [show bX (a::e) (m::f)=(a.2.1,m)::bX e f from rfl] at hl;rcases zj.1 hl with rfl|hl
    ·show fC D m;obtain ⟨Q,c2,W,R,b8,b9⟩:=(H a (by simp)).d1;have a7:M[k.length]?=some (a.1,Q):=by
      rw [v,W,zo,zn (ze _)];simp [aN]
     have a6:(aG (M.map zy)).named k.length:=(fO (by rw [zp,a7];rfl)).2 R;cases k1 with
     |var q _=>exact absurd a6 (q _ (Cl.refl _))
     |@name _ j _ m' q u h3=>
      obtain ⟨g,C,E,s⟩:=sT u;rw [List.append_nil] at h3;obtain ⟨S,T⟩:=aS3 a2 h3 λB a8=>a0 j B a8
      refine ⟨_,m',rfl,by rw [s];exact E,by rw [s];exact J g (zw C) E,?_,λb6 a9=>?_⟩
      ·rw [S,sS C,s]
      ·rcases T b6 a9 with d|⟨c1,U,V,rfl⟩
       ·exact zq d
       ·obtain ⟨O,F,G,X⟩:=sT U;have b0:aX O.2=0:=by rw [<-sS F,V];rfl
        rw [X];exact zr ⟨J O (zw F) G,G,b0⟩
    ·refine ih (k++aN a.1 a.2.2) f v (λb4 Y=>H b4 (by simp [Y])) ?_ l hl;rw [zk,show (aN a.1 a.2.2).length=a.2.2.length by simp [aN]];exact k2
 exact b1 p (aN o1 x++aN o2 y) b2 o.symm r a3 l hl
variable {D:Nd->Prop}{v:List Nd->Bool}
def dY(D:Nd->Prop)(a:Nd):Prop:=D a/\aK a=false/\aX a=0
def jL(D:Nd->Prop)(v:List Nd->Bool)(c:List Lt):Prop:=∀σ:Int->Nd,(∀a,dY D (σ a))->∃l∈c,v (bJ σ l.2)≠l.1
theorem aI9{o:List (Int×Lt)}{p:Int->Nd}{k:Int->Int->Nd}(w:fC D x)(z:fC D y)(u:∀e∈o,fC D e.2.2)(B:∀f,dY D (p f))(A:∀a n,(∃f,k a n=p f)\/∃d∈aN o1 x++aN o2 y++aU o,aK d.2=false/\aX d.2=0/\k a n=d.2):∀a n,dY D (k a n):=λa n=>by
 rcases A a n with ⟨f,g⟩|⟨d,ht,m,q,g⟩
 ·rw [g];exact B f
 ·rw [g];refine ⟨?_,m,q⟩;have j:∀(a:Int) (l:List Nd),fC D l->d∈aN a l->D d.2:=λa l r s=>by
   obtain ⟨n,t,rfl⟩:=zz.1 s;exact r.mem n t m
  rcases zu.1 ht with ht|ht
  ·rcases zu.1 ht with ht|ht
   ·exact j _ _ w ht
   ·exact j _ _ z ht
  ·obtain ⟨e,C,E⟩:=z1.1 ht;exact j e.1 e.2.2 (u e C) E
theorem aIa(c d:List Lt)(a b:Nat):bB 0 [(c,a),(d,b)]=(c.eraseIdx a).map (λl=>((0:Int),l))++(d.eraseIdx b).map (λl=>((1:Int),l)):=by simp [bB]
theorem aD4(c:List Lt)(b:Nat):bB 0 [(c,b)]=(c.eraseIdx b).map (λl=>((0:Int),l)):=by simp [bB]
theorem cS.rest{d:List (List Lt×Nat)}{o:Nat}(e:∀p∈d,cS D p.1):∀a∈bB o d,fC D a.2.2:=λa j=>by
 obtain ⟨p,g,f⟩:=sB _ _ a j;exact e p g _ f
theorem aD5{l:Lt}(e:l∈c)(a:Nat):l∈c.eraseIdx a\/∃e:a<c.length,l=c[a]:=by
 obtain ⟨j,g,d⟩:=zi e;by_cases f:j=a
 ·subst f;exact zr ⟨g,d.symm⟩
 ·exact zq (zs.2 ⟨j,g,f,d⟩)
theorem aS5{d:List Lt}{i H:Int}(z:cS D c)(A:cS D d)(R:jL D v c)(S:jL D v d)(a:kK c d i H out true 0):jL D v out/\cS D out:=by
 rcases a with ⟨_,_,a,_⟩|⟨_,_,⟨_,_,a,_⟩|⟨f,b,⟨u,w,_,_,T⟩,a⟩⟩
 ·cases a
 ·cases a
 rw [fZ u,fZ w] at a;have j:=z _ (zx u);have k:=A _ (zx w);have g:∀r∈bB 0 [(c,f),(d,b)],fC D r.2.2:=cS.rest λU B=>by
  simp at B;rcases B with rfl|rfl
  ·exact z
  ·exact A
 refine ⟨λσ G=>?_,vN j k g a⟩;obtain ⟨t,O,Q,s⟩:=aI8 (σ:=σ) j.d1 k.d1 (λr a=>(g r a).d1) a;have C:=aI9 j k g G O;rw [aIa] at s;obtain ⟨l,N,F⟩:=R (t 0) (C 0);rcases aD5 N f with e|⟨_,rfl⟩
 ·obtain ⟨m,o,p,q⟩:=s (0,l) (zd _ (zz.2 ⟨l,e,rfl⟩));exact ⟨m,o,by rw [p,q];exact F⟩
 ·obtain ⟨E,I,J⟩:=S (t 1) (C 1);rcases aD5 I b with e|⟨_,rfl⟩
  ·obtain ⟨m,o,p,q⟩:=s (1,E) (zf _ (zz.2 ⟨E,e,rfl⟩));exact ⟨m,o,by rw [p,q];exact J⟩
  ·rw [Q] at F;exfalso;cases e:c[f].1<;>cases h2:d[b].1<;>cases h3:v (bJ (t 1) d[b].2)<;>simp_all
theorem aS6{i F:Int}(f:cS D c)(J:jL D v c)(a:yF c i F out true 0):jL D v out/\cS D out:=by
 rcases a with ⟨_,_,a,_⟩|⟨_,⟨_,_,a,_⟩|⟨d,b,⟨e,t,_,_,N,B⟩,a⟩⟩
 ·cases a
 ·cases a
 rw [fZ e,fZ t] at a;have j:=f _ (zx e);have k:=f _ (zx t);have g:∀r∈bB 0 [(c,b)],fC D r.2.2:=cS.rest λO u=>by
  simp at u;subst u;exact f
 refine ⟨λσ E=>?_,vN j k g a⟩;obtain ⟨z,H,I,s⟩:=aI8 (σ:=σ) j.d1 k.d1 (λr a=>(g r a).d1) a;have C:=aI9 j k g E H;rw [aD4] at s;obtain ⟨l,G,w⟩:=J (z 0) (C 0);rcases aD5 G b with A|⟨_,rfl⟩
 ·obtain ⟨m,o,p,q⟩:=s (0,l) (zz.2 ⟨l,A,rfl⟩);exact ⟨m,o,by rw [p,q];exact w⟩
 ·obtain ⟨m,o,p,q⟩:=s (0,c[d]) (zz.2 ⟨c[d],zs.2 ⟨d,e,by omega,rfl⟩,rfl⟩);exact ⟨m,o,by rw [p,q];show v (bJ (z 0) c[d].2)≠c[d].1;rw [I,B];exact w⟩
theorem aIb{f:List (aL×Value)}{j:aL}(m:∀c∈P,cS D c/\jL D v c)(d:∀g,g<n->cS D (aF f g)/\jL D v (aF f g))(a:nO P f n j):cS D j.c/\jL D v j.c:=by
 rcases a with ⟨_,_,_,_,a⟩|⟨_,e,k,a⟩|⟨_,_,e,a⟩
 ·exact m _ (zw a)
 ·exact (aS5 (d _ e).1 (d _ k).1 (d _ e).2 (d _ k).2 a).symm
 ·exact (aS6 (d _ e).1 (d _ e).2 a).symm
theorem aS7{d:List (aL×Value)}(f:∀c∈P,cS D c/\jL D v c)(g:∀a (m:a<d.length),nO P d a d[a].1):∀a,a<d.length->cS D (aF d a)/\jL D v (aF d a):=by
 intro a;induction a using Nat.strongRecOn with
 |ind a ih=>
  intro e;rw [lO e];exact aIb f (λk j=>ih k j (by omega)) (g a e)
theorem aS8{k:List (aL×Value)}{p:aL}(r:∀c∈P,cS D c)(d:∀o,o<n->cS D (aF k o))(a:nO P k n p):cS D p.c:=by
 rcases a with ⟨_,_,_,_,a⟩|⟨_,e,m,a⟩|⟨_,_,e,a⟩
 ·exact r _ (zw a)
 ·rcases a with ⟨_,_,a,_⟩|⟨_,_,⟨_,_,a,_⟩|⟨q,b,⟨f,g,_,_,s⟩,a⟩⟩
  ·cases a
  ·cases a
  rw [fZ f,fZ g] at a;exact vN (d _ e _ (zx f)) (d _ m _ (zx g)) (cS.rest λt j=>by
   simp at j;rcases j with rfl|rfl
   ·exact d _ e
   ·exact d _ m) a
 ·rcases a with ⟨_,_,a,_⟩|⟨_,⟨_,_,a,_⟩|⟨q,b,⟨f,g,_,_,u,s⟩,a⟩⟩
  ·cases a
  ·cases a
  rw [fZ f,fZ g] at a;exact vN (d _ e _ (zx f)) (d _ e _ (zx g)) (cS.rest λt j=>by
   simp at j;subst j;exact d _ e) a
theorem aS9{d:List (aL×Value)}(f:∀c∈P,cS D c)(g:∀a (m:a<d.length),nO P d a d[a].1):∀a,a<d.length->cS D (aF d a):=by
 intro a;induction a using Nat.strongRecOn with
 |ind a ih=>
  intro e;rw [lO e];exact aS8 f (λk j=>ih k j (by omega)) (g a e)
variable {D:Nd->Prop}
theorem aIc{e j:Type}{d:e->List j}:∀(a:List e),(∀t∈a,d t≠[])->a.length<=(a.flatMap d).length
 |[],_=>by simp
 |t::a,h=>by
  have k:=aIc a λg f=>h g (by simp [f])
  have m:0<(d t).length:=zc.2 (h t (by simp));rw [za,zk,z2];omega
theorem aId{p q:Type}{d:p->List q}:∀(a:List p) (f:List q),a.flatMap d=f->f.length=a.length->(∀t∈a,d t≠[])->aP (λt g=>d t=[g]) a f
 |[],f,e,_,_=>by
  rw [<-e];exact aP.nil
 |t::a,f,e,hl,h=>by
  rw [za] at e;have r:=aIc a λm j=>h m (by simp [j])
  have s:0<(d t).length:=zc.2 (h t (by simp));have o:=congrArg z3 e;rw [zk] at o;rw [z2] at hl;obtain ⟨g,k⟩ : ∃g,d t=[g]:=List.length_eq_one_iff.1 (by omega);rw [k,List.singleton_append] at e;rw [<-e];refine aP.cons k (aId a _ rfl ?_ λm j=>h m (by simp [j]));rw [k,List.length_singleton] at o;omega
theorem aSa(a:aQ l 1=true):l≠[]:=λd=>by
 rw [d] at a;exact absurd a (by decide)
open Classical in
theorem aAb{a:List Lt}:bE c a=true↔c.length<=a.length/\gR a c []:=by unfold bE;exact decide_eq_true_iff
theorem aSb{m A:List Lt}(q:bE m A=true)(X:cS D m)(Y:cS D A){p:Int->Nd}(O:∀d,dY D (p d)):∃o:Int->Nd,(∀d,dY D (o d))/\∀l∈m,∃Q∈A,Q.1=l.1/\bJ p Q.2=bJ o l.2:=by
 classical
 obtain ⟨_,j,a1,_,a2⟩:=aAb.1 q;let g:Nd->List Nd:=λn=>if aK n then j n.2 else [n]
 have V:∀n,g n≠[]:=λn=>by
  show (if aK n then j n.2 else [n])≠[];split
  ·exact aSa (a1 _)
  ·simp
 let o:Int->Nd:=λd=>if q:∃a,j d=[a]/\(aK a=true\/dY D a) then (if aK (Classical.choose q)=true then p (Classical.choose q).2 else Classical.choose q) else p 0
 have N:∀d a,j d=[a]->(aK a=true\/dY D a)->o d=if aK a=true then p a.2 else a:=λd a s t=>by
  have k:∃a,j d=[a]/\(aK a=true\/dY D a):=⟨a,s,t⟩;have m:o d=if aK (Classical.choose k)=true then p (Classical.choose k).2 else Classical.choose k:=dif_pos k
  have f:=s.symm.trans (Classical.choose_spec k).1;injection f with f;rw [m,<-f]
 refine ⟨o,λd=>?_,λl J=>?_⟩
 ·by_cases k:∃a,j d=[a]/\(aK a=true\/dY D a)
  ·obtain ⟨a,s,t⟩:=k;rw [N d a s t];by_cases e:aK a=true
   ·rw [aI e];exact O _
   ·rw [aH e];exact t.resolve_left e
  ·have m:o d=p 0:=dif_neg k;rw [m];exact O 0
 ·have B:=a2 l J;refine ⟨_,B,rfl,?_⟩;obtain ⟨S,E,z,w,_,F,T⟩:=X l J;obtain ⟨b,R,r,a3,_,G,H⟩:=Y _ B;simp only at r ⊢;have I:subst j l.2=S::E.flatMap g:=by
   rw [z,oB,w];rfl
  have U:=I.symm.trans r;injection U with e5 e6;have W:=aId E R e6 (by rw [<-F,<-G,e5]) λa _=>V a
  rw [r,z,<-e5];unfold bJ;rw [zl,zl,aH (by simp [w]),aH (by simp [w])];congr 1
  clear z r I e6 F G B;induction W with
  |nil=>rfl
  |@cons a u E R f _ ih=>
   rw [zl,zl,ih (λa C=>T a (by simp [C])) (λa C=>H a (by simp [C]))];congr 1
   have Z:aK u=true\/dY D u:=H u (by simp);by_cases e:aK a=true
   ·rw [aI e];have a0:j a.2=[u]:=by
     have:g a=j a.2:=aI e;rw [<-this];exact f
    rw [N _ u a0 Z]
   ·rw [aH e];have:g a=[a]:=aH e;rw [this] at f;injection f with f;subst f;rw [aH e]
end
section
variable {α:Type}[DecidableEq α]
def aIe(a c:List (Bool×α)):Prop:=∀l∈a,l∈c
def aIf(c:List (Bool×α)):Prop:=∃a,(true,a)∈c/\(false,a)∈c
def nN(c d:List (Bool×α))(a:α):List (Bool×α):=c.filter (λl=>decide (l≠(false,a)))++d.filter (λl=>decide (l≠(true,a)))
def aAc(e:List (Bool×α)->Prop):Prop:=∀c a d,e c->e a->(false,d)∈c->(true,d)∈a->aIf (nN c a d)\/∃f,e f/\aIe f (nN c a d)
def uD(d:List (Bool×α)->Prop)(b:Bool)(a:α)(e:List (Bool×α)):Prop:=∃c,d c/\(!b,a)∉c/\e=c.filter λl=>decide (l≠(b,a))
theorem aIg{d:List (Bool×α)->Prop}{a:α}{j:List α}(k:∀c,d c->∀l∈c,l.2∈a::j):∀c,uD d b a c->∀l∈c,l.2∈j/\l.2≠a:=by
 rintro p ⟨c,m,q,rfl⟩ l f;rw [zv,decide_eq_true_eq] at f;have g:l.2≠a:=by intro e;obtain ⟨x,o⟩:=l;simp only at e;subst e;cases x<;>cases b<;>simp_all
 rcases zj.1 (k c m l f.1) with e|e
 ·exact absurd e g
 ·exact ⟨e,g⟩
theorem aSc{o:List (Bool×α)->Prop}{d:α}(u:aAc o):aAc (uD o b d):=by
 rintro C D e ⟨c,v,w,rfl⟩ ⟨f,z,A,rfl⟩ g j;rw [zv,decide_eq_true_eq] at g j;have E:e≠d:=by
  rintro rfl;cases b
  ·exact g.2 rfl
  ·exact j.2 rfl
 have k:∀l,l∈nN c f e->l≠(b,d)->l∈nN (c.filter λl=>decide (l≠(b,d))) (f.filter λl=>decide (l≠(b,d))) e:=by
  intro l hl r;unfold nN at hl ⊢;simp only [zu,zv,decide_eq_true_eq] at hl ⊢;rcases hl with hl|hl
  ·exact zq ⟨⟨hl.1,r⟩,hl.2⟩
  ·exact zr ⟨⟨hl.1,r⟩,hl.2⟩
 have m:(!b,d)∉nN c f e:=by
  intro hm;unfold nN at hm;simp only [zu,zv] at hm;rcases hm with hm|hm
  ·exact w hm.1
  ·exact A hm.1
 rcases u c f e v z g.1 j.1 with ⟨t,p,q⟩|⟨a,B,s⟩
 ·refine zq ⟨t,k _ p ?_,k _ q ?_⟩
  ·intro a;rw [Prod.mk.injEq] at a;obtain ⟨rfl,rfl⟩:=a;exact m q
  ·intro a;rw [Prod.mk.injEq] at a;obtain ⟨rfl,rfl⟩:=a;exact m p
 ·refine zr ⟨_,⟨a,B,λhm=>m (s _ hm),rfl⟩,λl hl=>?_⟩;rw [zv,decide_eq_true_eq] at hl;exact k l (s l hl.1) hl.2
theorem aSd:∀(o:List α) (a:List (Bool×α)->Prop),(∀c,a c->∀l∈c,l.2∈o)->aAc a->¬a []->∃j:α->Bool,∀c,a c->∃l∈c,j l.2≠l.1:=by
 intro o;induction o with
 |nil=>
  intro a k _ g;refine ⟨λ_=>true,λc d=>?_⟩;cases c with
  |nil=>exact absurd d g
  |cons l c=>exact absurd (k _ d l (by simp)) (by simp)
 |cons p r ih=>
  intro a k v g;have F:∀b,¬uD a b p []->∃j:α->Bool,∀c,a c->∃l∈c,j l.2≠l.1:=by
   intro b G;obtain ⟨j,R⟩:=ih (uD a b p) (λc d l e=>(aIg k c d l e).1) (aSc v) G;refine ⟨λm=>if m=p then b else j m,λc d=>?_⟩;by_cases B:(!b,p)∈c
   ·exact ⟨_,B,by simp⟩
   ·have w:uD a b p (c.filter λl=>decide (l≠(b,p))):=⟨c,d,B,rfl⟩;obtain ⟨l,e,S⟩:=R _ w;have Q:=(aIg k _ w l e).2;refine ⟨l,(zv.1 e).1,?_⟩;simp only;rw [aH Q];exact S
  by_cases E:uD a true p []
  ·by_cases A:uD a false p []
   ·exfalso;obtain ⟨c,d,_,t⟩:=E;obtain ⟨f,z,_,u⟩:=A;have H:∀l∈c,l=(true,p):=by
     intro l e;have:=zg.1 t.symm l e;simpa using this
    have J:∀l∈f,l=(false,p):=by intro l e;have:=zg.1 u.symm l e;simpa using this
    have I:(true,p)∈c:=by
     cases c with
     |nil=>exact absurd d g
     |cons l c=>rw [<-H l (by simp)];simp
    have N:(false,p)∈f:=by
     cases f with
     |nil=>exact absurd z g
     |cons l f=>rw [<-J l (by simp)];simp
    have C:nN f c p=[]:=by unfold nN;rw [<-t,<-u];rfl
    rcases v f c p z d N I with ⟨m,q,_⟩|⟨s,O,D⟩
    ·rw [C] at q;simp at q
    ·rw [C] at D;cases s with
     |nil=>exact g O
     |cons l s=>exact absurd (D l (by simp)) (by simp)
   ·exact F false A
  ·exact F true E
end
section
variable {D:Nd->Prop}{T:List (aL×Value)}{ks:List Nat}
theorem aIh{c:List Lt}:∀(k:Nat),k<=c.length->qF c k=true->∃d a,((d,a):Lt)∈c/\((!d,a):Lt)∈c
 |0,_,h=>by simp [qF] at h
 |k+1,hk,h=>by
  rw [aNt c k (by omega),Bool.or_eq_true] at h;rcases h with h|h
  ·exact aIh k (by omega) h
  ·exact ⟨c[k].1,c[k].2,zx (by omega),List.mem_of_mem_take ((xT _ _).1 h)⟩
theorem aSe(e:eR c=true):∃d a,((d,a):Lt)∈c/\((!d,a):Lt)∈c:=aIh c.length (ze _) e
def fN(a:Int->Nd)(c:List Lt):List (Bool×List Nd):=c.map λl=>(l.1,bJ a l.2)
def rG(T:List (aL×Value))(ks:List Nat)(c:List Lt):Prop:=eR c=true\/∃a∈ks,bE (aF T a) c=true
structure vO(D:Nd->Prop)(T:List (aL×Value))(ks:List Nat):Prop where
 cl:∀k∈ks,aY (aF T k)=true/\cS D (aF T k)/\aF T k≠[]
 fac:∀k∈ks,∀y∈mD (aF T k) k,y.2=0/\rG T ks y.1.c
 res:∀k∈ks,∀m∈ks,m<=k->∀y∈gM (aF T k) k (aF T m) m,y.2=0/\rG T ks y.1.c
def sU(d:List (Bool×List Nd)):Prop:=∃a,(true,a)∈d/\(false,a)∈d
theorem sU.sub{a d:List (Bool×List Nd)}(g:sU a)(e:∀l∈a,l∈d):sU d:=by obtain ⟨f,j,k⟩:=g;exact ⟨f,e _ j,e _ k⟩
theorem aSf(j:eR c=true)(a:Int->Nd):sU (fN a c):=by
 obtain ⟨d,e,k,m⟩:=aSe j;have f:(d,bJ a e)∈fN a c:=zz.2 ⟨_,k,rfl⟩;have g:(!d,bJ a e)∈fN a c:=zz.2 ⟨_,m,rfl⟩;cases d with
 |true=>exact ⟨_,f,g⟩
 |false=>exact ⟨_,g,f⟩
theorem aIi{d:List Nd}{k m:Int->Nd}(g:fC D l)(j:fC D d)(a:bJ k l=bJ m d):l[0]?=d[0]?:=by obtain ⟨o,p,rfl,e,_⟩:=g;obtain ⟨b,q,rfl,f,_⟩:=j;unfold bJ at a;rw [zl,zl,aH (by simp [e]),aH (by simp [f])] at a;injection a with a _;simp [a]
theorem aAd(a:i<c.length):iZ c i=c[i].2[0]?:=by simp [iZ,a]
theorem rG.ins(k:vO D T ks)(a:rG T ks c)(m:cS D c){f:Int->Nd}(q:∀g,dY D (f g)):sU (fN f c)\/∃d∈ks,(aF T d).length<=c.length/\∃e:Int->Nd,(∀g,dY D (e g))/\∀l∈fN e (aF T d),l∈fN f c:=by
 rcases a with a|⟨d,j,a⟩
 ·exact zq (aSf a f)
 ·obtain ⟨e,v,w⟩:=aSb a (k.cl d j).2.1 m q;refine zr ⟨d,j,(aAb.1 a).1,e,v,λl o=>?_⟩;obtain ⟨x,p,rfl⟩:=zz.1 o;obtain ⟨r,s,t,u⟩:=w x p;exact zz.2 ⟨r,s,by rw [t,u]⟩
theorem aSg{d:List Tg}{e b:Nat}{a:List (Int×Lt)}{j:Bool}{f:Int}(g:eH d e b a out j f):out.length<=a.length:=by
 rcases g with ⟨_,rfl,_⟩|⟨_,m,k,_,_,⟨_,rfl,_⟩|⟨_,rfl,_⟩⟩
 ·simp
 ·simp
 ·exact Nat.le_trans (aJ8 _) aJ7
theorem aIj(r:vO D T ks)(s:Bool×List Nd):∀(n a:Nat),a∈ks->(aF T a).length<=n->∀k:Int->Nd,(∀o,dY D (k o))->sU (fN k (aF T a))\/∃j∈ks,∃q:Int->Nd,(∀o,dY D (q o))/\(∀l∈fN q (aF T j),l∈fN k (aF T a))/\∀i d (g:i<(aF T j).length) (f:d<(aF T j).length),i<d->((aF T j)[i].1,bJ q (aF T j)[i].2)=s->((aF T j)[d].1,bJ q (aF T j)[d].2)=s->False:=by
 intro n;induction n with
 |zero=>
  intro a p I;exact absurd (zt.1 (Nat.le_zero.1 I)) (r.cl a p).2.2
 |succ n ih=>
  intro a p I k Q;obtain ⟨X,C,_⟩:=r.cl a p;by_cases N:∃i d,∃(g:i<(aF T a).length) (f:d<(aF T a).length),i<d/\((aF T a)[i].1,bJ k (aF T a)[i].2)=s/\((aF T a)[d].1,bJ k (aF T a)[d].2)=s
  ·obtain ⟨i,d,g,f,E,A,B⟩:=N;have U:=A.trans B.symm;injection U with e4 e5;have G:=C _ (zx g);have H:=C _ (zx f);have J:∀v∈bB 0 [(aF T a,d)],fC D v.2.2:=cS.rest λb6 u=>by
    simp at u;subst u;exact C
   have t:=aIz (vW X) i d;rw [fZ g,fZ f] at t;have u:(i,d)∈fJ (aF T a) (aF T a):=aAj.2 ⟨g,f,by rw [aAd g,aAd f];exact aIi G H e5⟩;have a3:i<d/\gL (aF T a) i=gL (aF T a) d:=⟨E,by rw [sX g,sX f];exact e4⟩;have O:(kD (aF T a) i d).2.1=true\/(kD (aF T a) i d).2.2≠0->((⟨3,a,0,i,d,(kD (aF T a) i d).1⟩,(kD (aF T a) i d).2.2):aL×Int)∈mD (aF T a) a:=λe=>zb.2 ⟨(i,d),u,by unfold mC;rw [aI a3,aI e]⟩
   rcases aOg (θ:=λ_=>k) G.d1 H.d1 (λv e=>(J v e).d1) e5 t with e|⟨V,R,b1,b7,b2⟩
   ·exact absurd (r.fac a p _ (O (zr e))).1 e
   ·have Y:rG T ks (kD (aF T a) i d).1:=(r.fac a p _ (O (zq V))).2;have W:cS D (kD (aF T a) i d).1:=vN G H J t;have a4:∀o,dY D (R o):=λo=>by
     obtain ⟨_,n,S⟩:=b1 o;rw [S];exact Q n
    have F:∀l∈fN R (kD (aF T a) i d).1,l∈fN k (aF T a):=λl m=>by
     obtain ⟨a6,a2,rfl⟩:=zz.1 m;obtain ⟨v,w,z,b0⟩:=b2 a6 a2;rw [aD4] at w;obtain ⟨x,b3,rfl⟩:=zz.1 w;exact zz.2 ⟨x,zh b3,by rw [z,b0]⟩
    rcases Y.ins r W a4 with e|⟨j,Z,b5,q,w,z⟩
    ·exact zq (e.sub F)
    ·have a1:=aSg t;rw [aD4,List.length_map,List.length_eraseIdx,aI f] at a1;rcases ih j Z (by omega) q w with e|⟨a5,a0,b4,a7,a8,a9⟩
     ·exact zq (e.sub λl m=>F l (z l m))
     ·exact zr ⟨a5,a0,b4,a7,λl m=>F l (z l (a8 l m)),a9⟩
  ·exact zr ⟨a,p,k,Q,λl m=>m,λi d g f E A B=>N ⟨i,d,g,f,E,A,B⟩⟩
theorem aIk(k:vO D T ks){a d:Nat}(w:a∈ks)(A:d∈ks)(O:d<=a){t u:Int->Nd}(a8:∀f,dY D (t f))(a9:∀f,dY D (u f)){i e:Nat}(m:i<(aF T a).length)(o:e<(aF T d).length)(J:bJ t (aF T a)[i].2=bJ u (aF T d)[e].2)(a5:(aF T a)[i].1≠(aF T d)[e].1){j:List (Bool×List Nd)}(N:(∀l∈fN t ((aF T a).eraseIdx i),l∈j)/\∀l∈fN u ((aF T d).eraseIdx e),l∈j):sU j\/∃E∈ks,∃s:Int->Nd,(∀f,dY D (s f))/\∀l∈fN s (aF T E),l∈j:=by
 obtain ⟨a0,H,_⟩:=k.cl a w;obtain ⟨a1,I,_⟩:=k.cl d A;have B:=H _ (zx m);have C:=I _ (zx o);have R:∀q∈bB 0 [(aF T a,i),(aF T d,e)],fC D q.2.2:=cS.rest λb3 p=>by
  simp at p;rcases p with rfl|rfl
  ·exact H
  ·exact I
 have v:=aJ0 (vW a0) (vW a1) i e;rw [fZ m,fZ o] at v;have p:(i,e)∈fJ (aF T a) (aF T d):=aAj.2 ⟨m,o,by rw [aAd m,aAd o];exact aIi B C J⟩;have a6:gL (aF T a) i≠gL (aF T d) e:=by rw [sX m,sX o];exact a5
 have U:(kE (aF T a) i (aF T d) e).2.1=true\/(kE (aF T a) i (aF T d) e).2.2≠0->((⟨2,a,d,i,e,(kE (aF T a) i (aF T d) e).1⟩,(kE (aF T a) i (aF T d) e).2.2):aL×Int)∈gM (aF T a) a (aF T d) d:=λg=>zb.2 ⟨(i,e),p,by unfold mZ;rw [aI a6,aI g]⟩
 rcases aOg (θ:=λF=>if F=0 then t else u) B.d1 C.d1 (λq g=>(R q g).d1) (by simpa using J) v with g|⟨Y,W,b1,b4,b2⟩
 ·exact absurd (k.res a w d A O _ (U (zr g))).1 g
 ·have a2:rG T ks (kE (aF T a) i (aF T d) e).1:=(k.res a w d A O _ (U (zq Y))).2;have Z:cS D (kE (aF T a) i (aF T d) e).1:=vN B C R v;have a7:∀f,dY D (W f):=λf=>by
   obtain ⟨F,n,X⟩:=b1 f;rw [X];by_cases Q:F=0
   ·simp only [Q,if_true];exact a8 n
   ·simp only [aH Q];exact a9 n
  have S:∀l∈fN W (kE (aF T a) i (aF T d) e).1,l∈j:=λl z=>by
   obtain ⟨b0,a4,rfl⟩:=zz.1 z;obtain ⟨q,r1,r,V⟩:=b2 b0 a4;rw [aIa] at r1;rcases zu.1 r1 with r1|r1
   ·obtain ⟨x,G,rfl⟩:=zz.1 r1;refine N.1 _ (zz.2 ⟨x,G,?_⟩);rw [r,V];simp
   ·obtain ⟨x,G,rfl⟩:=zz.1 r1;refine N.2 _ (zz.2 ⟨x,G,?_⟩);rw [r,V];simp
  rcases a2.ins k Z a7 with g|⟨E,a3,_,s,r1,r⟩
  ·exact zq (g.sub S)
  ·exact zr ⟨E,a3,s,r1,λl z=>S l (r l z)⟩
variable {D:Nd->Prop}{T:List (aL×Value)}{ks:List Nat}
def aD6(D:Nd->Prop)(T:List (aL×Value))(ks:List Nat)(d:List (Bool×List Nd)):Prop:=∃e∈ks,∃a:Int->Nd,(∀f,dY D (a f))/\d=fN a (aF T e)
theorem vQ{c d:List (Bool×List Nd)}{a:List Nd}{l:Bool×List Nd}(e:l∈c)(f:l≠(false,a)):l∈nN c d a:=zd _ (zv.2 ⟨e,by simpa using f⟩)
theorem vR{c a:List (Bool×List Nd)}{d:List Nd}{l:Bool×List Nd}(e:l∈a)(f:l≠(true,d)):l∈nN c a d:=zf _ (zv.2 ⟨e,by simpa using f⟩)
theorem aIl{d:Int->Nd}{e:Bool×List Nd}(g:i<c.length)(k:(c[i].1,bJ d c[i].2)=e)(m:∀i a (g:i<c.length) (j:a<c.length),i<a->(c[i].1,bJ d c[i].2)=e->(c[a].1,bJ d c[a].2)=e->False):∀l∈fN d (c.eraseIdx i),l∈fN d c/\l≠e:=λl r=>by
 obtain ⟨x,o,rfl⟩:=zz.1 r;obtain ⟨a,j,q,p⟩:=zs.1 o;refine ⟨zz.2 ⟨x,zh o,rfl⟩,λf=>?_⟩;rw [<-p] at f;rcases Nat.lt_or_gt_of_ne q with h|h
 ·exact m a i j g h f k
 ·exact m i a g j h k f
theorem aSh(u:vO D T ks):aAc (aD6 D T ks):=by
 rintro c a9 e ⟨v,X,A,Z,rfl⟩ ⟨w,Y,B,a0,rfl⟩ b0 b1;have done:∀{t:List (Bool×List Nd)},(sU t\/∃N∈ks,∃z:Int->Nd,(∀a8,dY D (z a8))/\∀l∈fN z (aF T N),l∈t)->aIf t\/∃d,aD6 D T ks d/\aIe d t:=λh=>by
  rcases h with h|⟨N,a3,z,a4,a5⟩
  ·exact zq h
  ·exact zr ⟨_,⟨N,a3,z,a4,rfl⟩,a5⟩
 rcases aIj u (false,e) _ v X (ze _) A Z with ⟨f,r,s⟩|⟨k,F,O,I,a1,a6⟩
 ·by_cases o:f=e
  ·subst o;refine zr ⟨_,⟨w,Y,B,a0,rfl⟩,λl a=>?_⟩;by_cases d:l=(true,f)
   ·rw [d];exact vQ r (by simp)
   ·exact vR a d
  ·exact zq ⟨f,vQ r (by simp),vQ s (by simp [o])⟩
 ·rcases aIj u (true,e) _ w Y (ze _) B a0 with ⟨f,r,s⟩|⟨m,G,Q,J,a2,a7⟩
  ·by_cases o:f=e
   ·subst o;refine zr ⟨_,⟨v,X,A,Z,rfl⟩,λl a=>?_⟩;by_cases d:l=(false,f)
    ·rw [d];exact vR s (by simp)
    ·exact vQ a d
   ·exact zq ⟨f,vR r (by simp [o]),vR s (by simp)⟩
  ·by_cases C:∃i,∃C:i<(aF T k).length,((aF T k)[i].1,bJ O (aF T k)[i].2)=(false,e)
   ·by_cases E:∃g,∃E:g<(aF T m).length,((aF T m)[g].1,bJ Q (aF T m)[g].2)=(true,e)
    ·obtain ⟨i,p,S⟩:=C;obtain ⟨g,q,U⟩:=E;have R:=aIl p S a6;have j:=aIl q U a7;have V:∀l∈fN O ((aF T k).eraseIdx i),l∈nN (fN A (aF T v)) (fN B (aF T w)) e:=λl a=>vQ (a1 l (R l a).1) (R l a).2
     have W:∀l∈fN Q ((aF T m).eraseIdx g),l∈nN (fN A (aF T v)) (fN B (aF T w)) e:=λl a=>vR (a2 l (j l a).1) (j l a).2
     injection S with i1 i2;injection U with j1 j2;rcases Nat.le_total m k with h|h
     ·exact done (aIk u F G h I J p q (i2.trans j2.symm) (by rw [i1,j1];simp) ⟨V,W⟩)
     ·exact done (aIk u G F h J I q p (j2.trans i2.symm) (by rw [i1,j1];simp) ⟨W,V⟩)
    ·refine zr ⟨_,⟨m,G,Q,J,rfl⟩,λl a=>vR (a2 l a) λd=>E ?_⟩;obtain ⟨x,H,j⟩:=zz.1 a;obtain ⟨g,q,rfl⟩:=zi H;exact ⟨g,q,j.trans d⟩
   ·refine zr ⟨_,⟨k,F,O,I,rfl⟩,λl a=>vQ (a1 l a) λd=>C ?_⟩;obtain ⟨x,H,j⟩:=zz.1 a;obtain ⟨i,p,rfl⟩:=zi H;exact ⟨i,p,j.trans d⟩
theorem aSi(j:vO D T ks)(o:List (List Nd))(z:∀d∈ks,∀a:Int->Nd,(∀N,dY D (a N))->∀l∈aF T d,bJ a l.2∈o){P:List (List Lt)}(w:∀c∈P,cS D c/\rG T ks c):∃v:List Nd->Bool,∀c∈P,jL D v c:=by
 obtain ⟨v,F⟩:=aSd o (aD6 D T ks) (by
  rintro e ⟨d,f,a,g,rfl⟩ l C;obtain ⟨x,k,rfl⟩:=zz.1 C;exact z d f a g x k) (aSh j) (by
  rintro ⟨d,f,a,g,s⟩;exact (j.cl d f).2.2 (List.map_eq_nil_iff.1 s.symm))
 refine ⟨v,λc A a g=>?_⟩;obtain ⟨t,u⟩:=w c A;have m:∀e:Bool×List Nd,e∈fN a c->v e.2≠e.1->∃l∈c,v (bJ a l.2)≠l.1:=λe B E=>by
  obtain ⟨x,k,rfl⟩:=zz.1 B;exact ⟨x,k,E⟩
 rcases u.ins j t g with ⟨p,q,r⟩|⟨d,f,_,O,I,J⟩
 ·cases hb:v p with
  |true=>exact m _ r (by simp [hb])
  |false=>exact m _ q (by simp [hb])
 ·obtain ⟨l,G,H⟩:=F _ ⟨d,f,O,I,rfl⟩;exact m l (J l G) H
end
def aD7(d:List (aL×Value))(ks:List Nat):Prop:=∀a∈ks,(∀y∈mD (aF d a) a,y.2=0/\(bP y.1.c=true\/eR y.1.c=true))/\∀e∈ks,e<=a->∀y∈gM (aF d a) a (aF d e) e,y.2=0/\(bP y.1.c=true\/eR y.1.c=true)
theorem uF.fine{d:List (aL×Value)}{y:aL×Int}(k:eI (λc=>ks.any λm=>bE (aF d m) c) L.length L=none)(g:uF L d ks b y)(j:b=true->y.2=0/\(bP y.1.c=true\/eR y.1.c=true)):y.2=0/\rG d ks y.1.c:=by
 rcases g with ⟨h1,e⟩|⟨h1,e⟩
 ·obtain ⟨a,h4⟩:=j e;rcases h1 with h1|h1
  ·exact absurd a h1
  ·rcases h4 with h4|h4
   ·rw [h1] at h4;cases h4
   ·exact ⟨a,zq h4⟩
 ·have a:y.2=0:=Classical.byContradiction λf=>h1 (zq f)
  exact ⟨a,e.end k⟩
theorem jM.shut{D:Nd->Prop}{f:List (aL×Value)}(e:jM P L n f ks b)(m:∀c∈P,cS D c)(k:eI (λc=>ks.any λa=>bE (aF f a) c) L.length L=none)(o:b=true->aD7 f ks):vO D f ks/\∀c∈P,cS D c/\rG f ks c:=by have t:=aS9 m e.step;refine ⟨⟨λa d=>⟨e.clause d,t a (e.ok.k a d),?_⟩,λa d y g=>(e.fac a d y g).fine k λj=>(o j a d).1 y g,λa d s r q y g=>(e.res a d s r q y g).fine k λj=>(o j a d).2 s r q y g⟩,λc p=>⟨m c p,(e.giv c p).end k⟩⟩;rw [lO (e.ok.k a d)];exact (e.good a (e.ok.k a d)).1
theorem jM.sat{D:Nd->Prop}{d:List (aL×Value)}(j:jM P L n d ks b)(m:∀c∈P,cS D c)(s:eI (λc=>ks.any λe=>bE (aF d e) c) L.length L=none)(p:b=true->aD7 d ks)(f:List (List Nd))(o:∀c,cS D c->∀a:Int->Nd,(∀u,dY D (a u))->∀l∈c,bJ a l.2∈f):∃v:List Nd->Bool,∀c∈P,jL D v c:=by obtain ⟨g,k⟩:=j.shut m s p;exact aSi g f (λe q a t l r=>o _ (g.cl e q).2.1 a t l r) k
theorem jM.unsat{D:Nd->Prop}{d:List (aL×Value)}{j:aL}(m:jM P L n d ks b)(e:∀c∈P,cS D c)(q:nO P d d.length j)(o:j.c=[]){k:Nd}(r:dY D k):¬∃v:List Nd->Bool,∀c∈P,jL D v c:=by rintro ⟨v,g⟩;have p:=aS7 (D:=D) (v:=v) (λc a=>⟨e c a,g c a⟩) m.step;obtain ⟨l,f,_⟩:=(aIb (λc a=>⟨e c a,g c a⟩) p q).2 (λ_=>k) (λ_=>r);rw [o] at f;simp at f
