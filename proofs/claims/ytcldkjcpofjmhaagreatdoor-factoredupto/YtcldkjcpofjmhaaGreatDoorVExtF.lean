import Derived.Test.YtcldkjcpofjmhaaGreatDoorBBookF
import Derived.Test.YtcldkjcpofjmhaaGreatDoorUJnLF
open Array renaming getElem?_eq_some_iff→zx
open List renaming getElem?_eq_some_iff→zy,getElem?_append_left→zv,getElem?_append_right→zu,drop_eq_getElem_cons→zs,foldl_cons→zq,length_append→zp,mem_cons→zo,mem_append→zm,length_replicate→zl,replicate→zk,getElem?_map→zj
open Or renaming inl→zt,inr→zr
open Prod renaming snd→zz,ext→zi
namespace Go.Proofs.YtcldkjcpofjmhaaGreatDoor
open _root_.Go.Proofs.Tryz renaming prog→zw
set_option maxHeartbeats 4000000
set_option maxRecDepth 100000
variable{w:World}
section
open Go.RowKit
abbrev bK(M:List Tg)(a b:Nat):Nat->Nat->Prop:=Cl (aC (M.map zz)) λi j=>aY M i=aY M j\/(i=a/\j=b)
section
variable {M:List Tg}{o:Int}{t:List Nd}{a b:Nat}
theorem oS(M:List Tg)(o:Int)(t:List Nd):(M++t.map λn=>(o,n)).map zz=M.map zz++t:=by
 rw [List.map_append,List.map_map];congr 1
 exact List.map_id _
theorem aA8{p:Nat}(h:p<M.length):aY M p<M.length:=by have:=(aAx M).rt_lt (p:=p) (by rw [lB];exact h);rwa [lB] at this
theorem aDe(M:List Tg)(p:Nat):aY M (aY M p)=aY M p:=(aAx M).rt_rt p
theorem aWv{i j:Nat}(h:aY M i=aY M j):aY (M++t.map λn=>(o,n)) i=aY (M++t.map λn=>(o,n)) j:=by
 by_cases hi:i<M.length
 ·by_cases hj:j<M.length
  ·rw [yE hi,yE hj,h]
  ·rw [oZ (p:=j) (by omega)] at h;have:=aA8 hi;omega
 ·rw [oZ (p:=i) (by omega)] at h;by_cases hj:j<M.length
  ·have:=aA8 hj;omega
  ·rw [oZ (p:=j) (by omega)] at h;rw [h]
theorem rF{p:Nat}(h:(aC (M.map zz)).named p):p<M.length/\(aC (M.map zz++t)).named p/\(aC (M.map zz++t)).lab p=(aC (M.map zz)).lab p:=by
 obtain ⟨n,h1,h2⟩:=jN h;have hp:p<(M.map zz).length:=(zy.1 h1).1;have h3:(M.map zz++t)[p]?=some n:=by rw [zv hp,h1]
 exact ⟨by simpa using hp,(fL h3).2 h2,by rw [lC h3,lC h1]⟩
theorem sQ{p:Nat}(hp:p<M.length)(h:(aC (M.map zz++t)).named p):(aC (M.map zz)).named p:=by obtain ⟨n,h1,h2⟩:=jN h;rw [zv (by simpa using hp)] at h1;exact (fL h1).2 h2
theorem aDf(hW:dE (M.map zz)){p q:Nat}(hn:(aC (M.map zz)).named p)(hq:q∈(aC (M.map zz)).ch p):q<M.length:=by obtain ⟨n,h1,_⟩:=jN hn;have hp:p<(M.map zz).length:=(zy.1 h1).1;rw [fM h1] at hq;have h4:=(oC _ _ _ (hW p _ h1) q hq).2;have h5:aH ((M.map zz).drop p) 1<=((M.map zz).drop p).length:=mD _ _;rw [zs hp,(zy.1 h1).2] at h5;simp [aH] at h5;simp at hp;omega
theorem aDg(hW:dE (M.map zz)){i j:Nat}(h:bK M a b i j):bK (M++t.map λn=>(o,n)) a b i j:=by
 unfold bK;rw [oS];refine Cl.le (R:=Cl (aC (M.map zz++t)) λi j=>aY (M++t.map λn=>(o,n)) i=aY (M++t.map λn=>(o,n)) j\/(i=a/\j=b)) ⟨Cl.refl,λ_ _=>Cl.symm,λ_ _ _=>Cl.trans,?_⟩ ?_ h
 ·intro i j k p q c hi hj hp hq;obtain ⟨i1,i2,_⟩:=rF (t:=t) hi;obtain ⟨j1,j2,_⟩:=rF (t:=t) hj;exact Cl.down c i2 j2 (by rw [lP hW (by simpa using i1)];exact hp) (by rw [lP hW (by simpa using j1)];exact hq)
 ·rintro i j (e | e)
  ·exact Cl.base (zt (aWv e))
  ·exact Cl.base (zr e)
theorem aWw(hW:dE (M.map zz)){p:Nat}(h:bD (aC (M.map zz++t)) (bK (M++t.map λn=>(o,n)) a b) p):bD (aC (M.map zz)) (bK M a b) p:=by
 induction h with
 | mk i _ ih=>
  refine ⟨_,λj hj hn x hx=>?_⟩;obtain ⟨j1,j2,_⟩:=rF (t:=t) hn;exact ih j (aDg hW hj) j2 x (by rw [lP hW (by simpa using j1)];exact hx)
theorem aWx(hW:dE (M.map zz))(h:dW (aC (M.map zz++t)) (bK (M++t.map λn=>(o,n)) a b)):dW (aC (M.map zz)) (bK M a b):=by intro i j c hi hj;obtain ⟨_,i2,i3⟩:=rF (t:=t) hi;obtain ⟨_,j2,j3⟩:=rF (t:=t) hj;rw [<-i3,<-j3];exact h i j (aDg hW c) i2 j2
end
structure iD(M:List Tg)(a b:Nat)(F:List Nat)(rt d:Nat->Nat)(S:List Int):Prop where
 whole:dE (M.map zz)
 lf:F.length=M.length
 ls:S.length=M.length
 forest:gB F rt d
 named:jT (M.map zz) rt
 cl:dR (aC (M.map zz)) (λi j=>rt i=rt j) λ_ _=>False
 iff:∀i j,rt i=rt j↔bK M a b i j
 sz:rC (M.map zz) rt S
 none:∀r:Nat,S[r]?≠some (-1)
 ha:a<M.length
 hb:b<M.length
def cZ(M M1:List Tg)(rt:Nat->Nat)(p:Nat):Nat:=if aY M1 p<M.length then rt (aY M1 p) else aY M1 p
def dX(M M1:List Tg)(d:Nat->Nat)(p:Nat):Nat:=if p<M.length then d p else if aY M1 p=p then 0 else if aY M1 p<M.length then d (aY M1 p)+1 else 1
section
variable {M:List Tg}{o:Int}{t:List Nd}{a b:Nat}{F:List Nat}{rt d:Nat->Nat}{S:List Int}
theorem iD.rt_lt(h:iD M a b F rt d S){p:Nat}(hp:p<M.length):rt p<M.length:=by have:=h.forest.rt_lt (p:=p) (by rw [h.lf];exact hp);rwa [h.lf] at this
theorem iD.old(h:iD M a b F rt d S){p:Nat}(hp:p<M.length):cZ M (M++t.map λn=>(o,n)) rt p=rt p:=by unfold cZ;rw [yE hp,if_pos (aA8 hp)];exact (h.iff _ _).2 (Cl.base (zt (aDe M p)))
theorem iD.new(_h:iD M a b F rt d S){p:Nat}(hp:M.length<=p)(hn:(aC (M.map zz++t)).named p):cZ M (M++t.map λn=>(o,n)) rt p=p:=by
 have h0:aY (M++t.map λn=>(o,n)) p=p:=by obtain ⟨n,h1,h2⟩:=jN hn;rw [<-oS M o t,zj] at h1;obtain ⟨x,h3,rfl⟩:=Option.map_eq_some_iff.1 h1;exact mX h3 h2
 unfold cZ;rw [h0,if_neg (by omega)]
theorem iD.up(h:iD M a b F rt d S){i j:Nat}(e:rt i=rt j):cZ M (M++t.map λn=>(o,n)) rt i=cZ M (M++t.map λn=>(o,n)) rt j:=by
 by_cases hi:i<M.length
 ·by_cases hj:j<M.length
  ·rw [h.old hi,h.old hj,e]
  ·have h1:=h.forest.out j (by rw [h.lf];omega);have h2:=h.rt_lt hi;omega
 ·have h1:=h.forest.out i (by rw [h.lf];omega);by_cases hj:j<M.length
  ·have h2:=h.rt_lt hj;omega
  ·have h2:=h.forest.out j (by rw [h.lf];omega);rw [h1,h2] at e;rw [e]
theorem iD.in(h:iD M a b F rt d S){i j:Nat}(hi:i<M.length)(e:cZ M (M++t.map λn=>(o,n)) rt i=cZ M (M++t.map λn=>(o,n)) rt j)(hn:(aC (M.map zz++t)).named j):j<M.length/\rt i=rt j:=by
 have h1:=h.rt_lt hi;rw [h.old hi] at e;by_cases hj:j<M.length
 ·exact ⟨hj,by rw [h.old hj] at e;exact e⟩
 ·rw [h.new (by omega) hn] at e;omega
theorem iD.ends(h:iD M a b F rt d S){p:Nat}(k:bD (aC (M.map zz)) (λi j=>rt i=rt j) p):p<M.length->bD (aC (M.map zz++t)) (λi j=>cZ M (M++t.map λn=>(o,n)) rt i=cZ M (M++t.map λn=>(o,n)) rt j) p:=by
 induction k with
 | mk i _ ih=>
  intro hi;refine ⟨_,λj hj hn x hx=>?_⟩;obtain ⟨j1,j2⟩:=h.in hi hj hn;have hn':=sQ j1 hn;rw [lP h.whole (by simpa using j1)] at hx;exact ih j j2 hn' x hx (aDf h.whole hn' hx)
theorem iD.exp(h:iD M a b F rt d S){x:List Nat}{l:List Nd}(k:aL (aC (M.map zz)) (λi j=>rt i=rt j) rt x l):(∀i∈x,i<M.length)->aL (aC (M.map zz++t)) (λi j=>cZ M (M++t.map λn=>(o,n)) rt i=cZ M (M++t.map λn=>(o,n)) rt j) (cZ M (M++t.map λn=>(o,n)) rt) x l:=by
 induction k with
 | nil=>intro _;exact aL.nil
 | @var i r l h1 _ ih=>
  intro hx;have hi:=hx i (by simp);rw [<-h.old (t:=t) (o:=o) hi];refine aL.var (λj hj hn=>?_) (ih λq hq=>hx q (by simp [hq]));obtain ⟨j1,j2⟩:=h.in hi hj hn;exact h1 j j2 (sQ j1 hn)
 | @name i j r l h1 h2 _ ih=>
  intro hx;obtain ⟨j1,j2,j3⟩:=rF (t:=t) h2;rw [<-j3];refine aL.name (h.up h1) j2 ?_;rw [lP h.whole (by simpa using j1)];refine ih λq hq=>?_
  rcases zm.1 hq with hq | hq
  ·exact aDf h.whole h2 hq
  ·exact hx q (by simp [hq])
theorem iD.add(h:iD M a b F rt d S)(ht:aW t 1=true) :
  iD (M++t.map λn=>(o,n)) a b (F++iA M o t t.length) (cZ M (M++t.map λn=>(o,n)) rt) (dX M (M++t.map λn=>(o,n)) d) (S++zk t.length 0):=by
 have hW1:dE (M.map zz++t):=h.whole.append (qZ ht);have hll:(iA M o t t.length).length=t.length:=by simp [iA]
 have hlen:(M++t.map λn=>(o,n)).length=M.length+t.length:=by simp
 have hF1:∀p,M.length<=p->p<M.length+t.length->(F++iA M o t t.length)[p]?=some (aY (M++t.map λn=>(o,n)) p):=by intro p h1 h2;have:=sZ (M:=M++t.map λn=>(o,n)) (p:=p) (by rw [hlen];exact h2);rw [aEc,zu (by rw [lB];exact h1),lB] at this;rw [zu (by rw [h.lf];exact h1),h.lf];exact this
 have hF0:∀p,p<M.length->(F++iA M o t t.length)[p]?=F[p]?:=λp hp=>zv (by rw [h.lf];exact hp)
 have hFl:(F++iA M o t t.length).length=M.length+t.length:=by rw [zp,hll,h.lf]
 have hle:∀p,p<M.length+t.length->aY (M++t.map λn=>(o,n)) p<M.length+t.length:=λp hp=>by
  have:=aA8 (M:=M++t.map λn=>(o,n)) (p:=p) (by rw [hlen];exact hp);rwa [hlen] at this
 have hroot:∀p,bK (M++t.map λn=>(o,n)) a b p (cZ M (M++t.map λn=>(o,n)) rt p):=by
  intro p;have h1:bK (M++t.map λn=>(o,n)) a b p (aY (M++t.map λn=>(o,n)) p):=Cl.base (zt (aDe _ p).symm);by_cases hq:aY (M++t.map λn=>(o,n)) p<M.length
  ·have h2:bK M a b (aY (M++t.map λn=>(o,n)) p) (rt (aY (M++t.map λn=>(o,n)) p)):=(h.iff _ _).1 (h.forest.rt_rt _).symm;have e:cZ M (M++t.map λn=>(o,n)) rt p=rt (aY (M++t.map λn=>(o,n)) p):=if_pos hq;rw [e];exact h1.trans (aDg h.whole h2)
  ·have e:cZ M (M++t.map λn=>(o,n)) rt p=aY (M++t.map λn=>(o,n)) p:=if_neg hq;rw [e];exact h1
 have hmod:dR (aC (M.map zz++t)) (λi j=>cZ M (M++t.map λn=>(o,n)) rt i=cZ M (M++t.map λn=>(o,n)) rt j) λ_ _=>False:=by
  intro x y e hx hy;by_cases hxl:x<M.length
  ·obtain ⟨hyl,e'⟩:=h.in hxl e hy;obtain ⟨c1,c2⟩:=h.cl x y e' (sQ hxl hx) (sQ hyl hy);refine ⟨?_,λk p q hp hq=>?_⟩
   ·rw [(rF (t:=t) (sQ hxl hx)).2.2,(rF (t:=t) (sQ hyl hy)).2.2];exact c1
   ·rw [lP h.whole (by simpa using hxl)] at hp;rw [lP h.whole (by simpa using hyl)] at hq;refine dZ.mono (λi j hij=>?_) (c2 k p q hp hq);rcases hij with hij | hij
    ·exact dZ.base (zt (h.up hij))
    ·exact hij.elim
  ·have hyl:¬y<M.length:=λhyl=>hxl (h.in hyl e.symm hx).1
   have e1:=h.new (t:=t) (o:=o) (by omega) hx;have e2:=h.new (t:=t) (o:=o) (by omega) hy;have:x=y:=by rw [<-e1,<-e2];exact e
   subst this;refine ⟨rfl,λk p q hp hq=>?_⟩;rw [hp] at hq;simp at hq;subst hq;exact dZ.refl _
 have hdone:=hmod.done (B:=λi j=>aY (M++t.map λn=>(o,n)) i=aY (M++t.map λn=>(o,n)) j\/(i=a/\j=b)) (qB _) (λi j e=>by
   have h1:=hroot i;have h2:=hroot j;unfold bK at h1 h2;rw [oS] at h1 h2;have e':cZ M (M++t.map λn=>(o,n)) rt i=cZ M (M++t.map λn=>(o,n)) rt j:=e;rw [e'] at h1;exact h1.trans h2.symm) (λi j e=>by
   rcases e with e | ⟨rfl,rfl⟩
   ·show cZ M (M++t.map λn=>(o,n)) rt i=cZ M (M++t.map λn=>(o,n)) rt j;unfold cZ;rw [e]
   ·show cZ M (M++t.map λn=>(o,n)) rt i=cZ M (M++t.map λn=>(o,n)) rt j;rw [h.old h.ha,h.old h.hb];exact (h.iff _ _).2 (Cl.base (zr ⟨rfl,rfl⟩)))
 refine ⟨by rw [oS];exact hW1,by rw [hFl,hlen],by rw [zp,zl,h.ls,hlen],⟨?_,?_,?_,?_⟩,?_,by rw [oS];exact hmod,?_,?_,?_,by rw [hlen];have:=h.ha;omega,by rw [hlen];have:=h.hb;omega⟩
 ·intro p q hq;have hp:=(zy.1 hq).1;rw [hFl] at hp ⊢;by_cases hpl:p<M.length
  ·rw [hF0 p hpl] at hq;have:=h.forest.lt p q hq;rw [h.lf] at this;omega
  ·rw [hF1 p (by omega) hp] at hq;simp at hq;subst hq;exact hle p hp
 ·intro p hq;have hp:=(zy.1 hq).1;rw [hFl] at hp;by_cases hpl:p<M.length
  ·rw [hF0 p hpl] at hq;rw [h.old hpl];exact h.forest.root p hq
  ·rw [hF1 p (by omega) hp] at hq;simp at hq;unfold cZ;rw [hq,if_neg (by omega)]
 ·intro p q hq hne;have hp:=(zy.1 hq).1;rw [hFl] at hp;by_cases hpl:p<M.length
  ·rw [hF0 p hpl] at hq;have hql:=h.forest.lt p q hq;rw [h.lf] at hql;rw [h.old hpl,h.old hql];unfold dX;rw [if_pos hpl,if_pos hql];exact h.forest.step p q hq hne
  ·rw [hF1 p (by omega) hp] at hq;simp at hq;subst hq;have hii:=aDe (M++t.map λn=>(o,n)) p;refine ⟨by unfold cZ;rw [hii],?_⟩;unfold dX;rw [if_neg hpl,if_neg hne];by_cases hql:aY (M++t.map λn=>(o,n)) p<M.length
   ·rw [if_pos hql,if_pos hql];omega
   ·rw [if_neg hql,if_pos hii,if_neg hql];omega
 ·intro p hp;rw [hFl] at hp;unfold cZ;rw [oZ (M:=M++t.map λn=>(o,n)) (by rw [hlen];exact hp),if_neg (by omega)]
 ·rw [oS];intro p hp;by_cases hpl:p<M.length
  ·rw [h.old hpl];exact (rF (t:=t) (h.named p (sQ hpl hp))).2.1
  ·rw [h.new (by omega) hp];exact hp
 ·intro i j;unfold bK;rw [oS];exact hdone.1 i j
 ·rw [oS];intro p n hn;by_cases hpl:p<S.length
  ·rw [zv hpl] at hn;rw [h.ls] at hpl;rcases h.sz p n hn with e | e | ⟨e1,l,e2,e3⟩
   ·exact zt e
   ·exact zr (zt e)
   ·exact zr (zr ⟨h.ends e1 hpl,l,h.exp e2 (by simpa using hpl),e3⟩)
  ·rw [zu (by omega)] at hn;have:=(zy.1 hn).2;simp at this;exact zt this.symm
 ·intro r hr;by_cases hpl:r<S.length
  ·rw [zv hpl] at hr;exact h.none r hr
  ·rw [zu (by omega)] at hr;have:=(zy.1 hr).2;simp at this
end
def mQ(V:Int->Int->Prop)(x y:Lt):Prop:=x.1=y.1/\aM (kQ V) x.2 y.2
section
variable {V:Int->Int->Prop}
theorem aA9{n:Nd}(h:aF n=true):n.1=⟨#[]⟩:=by
 obtain ⟨s,x⟩:=n;obtain ⟨a⟩:=s;have h1:(⟨a⟩ : ByteArray).toList=[]:=by simpa [aF] using h
 rw [ByteArray.toList_eq] at h1;have h2:a=#[]:=by apply Array.ext';exact h1
 rw [h2]
theorem aWy(hV:lH V){n m n' m':Nd}(h:kQ V n m)(h':kQ V n' m'):n=n'↔m=m':=by
 rcases h with ⟨a1,a2,a3,a4⟩ | ⟨a1,rfl⟩
 ·rcases h' with ⟨b1,b2,b3,b4⟩ | ⟨b1,rfl⟩
  ·have e1:=aA9 a1;have e2:=aA9 a2;have e3:=aA9 b1;have e4:=aA9 b2;have:=hV _ _ _ _ a4 b4;constructor
   ·intro e;exact zi (by rw [e2,e4]) (this.1 (by rw [e]))
   ·intro e;exact zi (by rw [e1,e3]) (this.2 (by rw [e]))
  ·constructor
   ·intro e;rw [e,b1] at a1;cases a1
   ·intro e;rw [e,b1] at a2;cases a2
 ·rcases h' with ⟨b1,b2,b3,b4⟩ | ⟨b1,rfl⟩
  ·constructor
   ·intro e;rw [<-e,a1] at b1;cases b1
   ·intro e;rw [<-e,a1] at b2;cases b2
  ·exact Iff.rfl
theorem aWz(hV:lH V){l m:List Nd}(h:aM (kQ V) l m):∀{l' m':List Nd},aM (kQ V) l' m'->(l=l'↔m=m'):=by
 induction h with
 | nil=>
  intro l' m' h';cases h' with
  | nil=>simp
  | cons _ _=>simp
 | cons a _ ih=>
  intro l' m' h';cases h' with
  | nil=>simp
  | cons b k=>
   rw [List.cons.injEq,List.cons.injEq,aWy hV a b,ih k]
theorem aX0(hV:lH V){x y x' y':Lt}(h:mQ V x y)(h':mQ V x' y'):x=x'↔y=y':=by
 have:=aWz hV h.2 h'.2;constructor
 ·intro e;exact zi (by rw [<-h.1,<-h'.1,e]) (this.1 (by rw [e]))
 ·intro e;exact zi (by rw [h.1,h'.1,e]) (this.2 (by rw [e]))
theorem aX1(hV:lH V){c c':List Lt}(h:aM (mQ V) c c'){x x':Lt}(hx:mQ V x x'):eS c x=eS c' x':=by
 induction h with
 | nil=>rfl
 | cons a _ ih=>
  simp only [eS,List.any_cons] at ih ⊢;rw [ih];congr 1
  exact decide_eq_decide.2 (aX0 hV a hx)
theorem aX2(hV:lH V){c c':List Lt}(h:aM (mQ V) c c'):aM (mQ V) (cK c) (cK c'):=by
 suffices ∀{c c':List Lt},aM (mQ V) c c'->∀{acc acc':List Lt},aM (mQ V) acc acc'->aM (mQ V) (c.foldl eO acc) (c'.foldl eO acc') from this h aM.nil
 intro c c' h;induction h with
 | nil=>intro acc acc' ha;exact ha
 | cons a _ ih=>
  intro acc acc' ha;simp only [zq];refine ih ?_;unfold eO;rw [aX1 hV ha a];split
  ·exact ha
  ·exact ha.snoc a
theorem aX3(hV:lH V){c c':List Lt}(h:aM (mQ V) c c'):(cQ c).1=(cQ c').1:=by
 suffices ∀{c c':List Lt},aM (mQ V) c c'->∀{st st':List Lt×List Int},st.1=st'.1->aM V st.2 st'.2->(c.foldl eE st).1=(c'.foldl eE st').1 from this h rfl aM.nil
 intro c c' h;induction h with
 | nil=>intro st st' h1 _;exact h1
 | cons a _ ih=>
  intro st st' h1 h2;simp only [zq];have hr:=aRk hV a.2 h2;refine ih ?_ hr.2;simp only [eE];rw [h1,a.1,hr.1]
theorem aDh(hV:lH V){c c':List Lt}(h:aM (mQ V) c c'):aR c=aR c':=aX3 hV (aX2 hV h)
end
def aJ(rest:List (Int×Lt)):List Tg:=rest.flatMap λr=>r.2.2.map λn=>(r.1,n)
def bN:Nat->List (Int×Lt)->List Nat
 | _,[]=>[]
 | n,r :: rs=>n :: bN (n+r.2.2.length) rs
def cM(rest:List (Int×Lt))(ls:List (List Nd)):List Lt:=List.zipWith (λr l=>(r.2.1,l)) rest ls
def oT(M:List Tg)(a b:Nat):Prop:=dW (aC (M.map zz)) (bK M a b)/\∀p,p<M.length->bD (aC (M.map zz)) (bK M a b) p
def eY(M0:List Tg)(a b:Nat)(rest:List (Int×Lt))(out:List Lt)(yes:Bool)(e:Int):Prop:=
 (¬oT (M0++aJ rest) a b/\out=[]/\yes=false/\e=0)\/
 (oT (M0++aJ rest) a b/\∃(rep:Nat->Nat) (ls:List (List Nd)),(∀p q,rep p=rep q↔bK (M0++aJ rest) a b p q)/\aM (λp l=>aL (aC ((M0++aJ rest).map zz)) (bK (M0++aJ rest) a b) rep [p] l) (bN M0.length rest) ls/\
  ((500<aK (aR (cM rest ls))/\out=[]/\yes=false/\e=4)\/(aK (aR (cM rest ls))<=500/\out=aR (cM rest ls)/\yes=true/\e=0)))
theorem aAa:∀(n:Nat) (rest:List (Int×Lt)),(bN n rest).length=rest.length
 | _,[]=>rfl
 | n,r :: rs=>by simp [bN,aAa _ rs]
theorem aX4{G:Gr}{R:Nat->Nat->Prop}{rp rd:Nat->Nat}{x:List Nat}{l:List Nd}(e:aL G R rp x l):∃m,aL G R rd x m/\aM (kQ λa b=>∃p,a=(rp p:Int)/\b=(rd p:Int)) l m:=by
 induction e with
 | nil=>exact ⟨[],aL.nil,aM.nil⟩
 | @var i r l h1 _ ih=>
  obtain ⟨m,a,b⟩:=ih;exact ⟨_,aL.var h1 a,aM.cons (zt ⟨oI _,oI _,rfl,i,rfl,rfl⟩) b⟩
 | @name i j r l h1 h2 _ ih=>
  obtain ⟨m,a,b⟩:=ih;exact ⟨_,aL.name h1 h2 a,aM.cons (zr ⟨h2,rfl⟩) b⟩
theorem aAb{V:Int->Int->Prop}:∀(rest:List (Int×Lt)) {ls ms:List (List Nd)},aM (λl m=>aM (kQ V) l m) ls ms->aM (mQ V) (cM rest ls) (cM rest ms)
 | [],_,_,_=>aM.nil
 | _ :: _,_,_,aM.nil=>aM.nil
 | _ :: rs,_,_,aM.cons a h=>aM.cons ⟨rfl,a⟩ (aAb rs h)
theorem aAc{M0:List Tg}{a b:Nat}{rest:List (Int×Lt)}{out out':List Lt}{y y':Bool}{e e':Int}(h:eY M0 a b rest out y e)(h':eY M0 a b rest out' y' e'):out=out'/\y=y'/\e=e':=by
 rcases h with ⟨h1,rfl,rfl,rfl⟩ | ⟨h1,rep,ls,hr,hl,h2⟩
 ·rcases h' with ⟨_,rfl,rfl,rfl⟩ | ⟨h1',_⟩
  ·exact ⟨rfl,rfl,rfl⟩
  ·exact absurd h1' h1
 ·rcases h' with ⟨h1',_⟩ | ⟨_,rep',ls',hr',hl',h2'⟩
  ·exact absurd h1 h1'
  ·have hD:eK (aC ((M0++aJ rest).map zz)) (bK (M0++aJ rest) a b):=Cl.isDown _ _;have hV:lH λx y=>∃p,x=(rep p:Int)/\y=(rep' p:Int):=by
    rintro x y x' y' ⟨p,rfl,rfl⟩ ⟨q,rfl,rfl⟩;constructor
    ·intro e;have:rep' p=rep' q:=(hr' _ _).2 ((hr p q).1 (by omega));omega
    ·intro e;have:rep p=rep q:=(hr _ _).2 ((hr' p q).1 (by omega));omega
   have hls:aM (λl m=>aM (kQ λx y=>∃p,x=(rep p:Int)/\y=(rep' p:Int)) l m) ls ls':=by
    have key:∀{x:List Nat} {ls ls':List (List Nd)},aM (λp l=>aL (aC ((M0++aJ rest).map zz)) (bK (M0++aJ rest) a b) rep [p] l) x ls->aM (λp l=>aL (aC ((M0++aJ rest).map zz)) (bK (M0++aJ rest) a b) rep' [p] l) x ls'->aM (λl m=>aM (kQ λx y=>∃p,x=(rep p:Int)/\y=(rep' p:Int)) l m) ls ls':=by
     intro x ls ls' h;induction h generalizing ls' with
     | nil=>intro h';cases h';exact aM.nil
     | cons c _ ih=>
      intro h';cases h' with
      | cons c' k=>
       refine aM.cons ?_ (ih k);obtain ⟨m,d1,d2⟩:=aX4 (rd:=rep') c;have:=aL.one hD h1.1 (oD _) (λi j e=>(hr' i j).2 e) d1 _ c';subst this;exact d2
    exact key hl hl'
   have ho:=aDh hV (aAb rest hls);rw [<-ho] at h2';rcases h2 with ⟨c1,rfl,rfl,rfl⟩ | ⟨c1,rfl,rfl,rfl⟩
   ·rcases h2' with ⟨_,rfl,rfl,rfl⟩ | ⟨c2,_⟩
    ·exact ⟨rfl,rfl,rfl⟩
    ·omega
   ·rcases h2' with ⟨c2,_⟩ | ⟨_,rfl,rfl,rfl⟩
    ·omega
    ·exact ⟨rfl,rfl,rfl⟩
section
variable {M:List Tg}{o:Int}{t:List Nd}{a b:Nat}{F:List Nat}{rt d:Nat->Nat}{S:List Int}
theorem iD.endsAll(h:iD M a b F rt d S)(ht:aW t 1=true)(hall:∀p,p<M.length->bD (aC (M.map zz)) (λi j=>rt i=rt j) p) :
  ∀(k p:Nat),p+k=M.length+t.length->bD (aC (M.map zz++t)) (λi j=>cZ M (M++t.map λn=>(o,n)) rt i=cZ M (M++t.map λn=>(o,n)) rt j) p:=by
 have hW1:dE (M.map zz++t):=h.whole.append (qZ ht);intro k;induction k using Nat.strongRecOn with
 | _ k ih=>
  intro p hp;by_cases hpl:p<M.length
  ·exact h.ends (hall p hpl) hpl
  ·refine ⟨_,λj hj hn x hx=>?_⟩;have hj':cZ M (M++t.map λn=>(o,n)) rt p=cZ M (M++t.map λn=>(o,n)) rt j:=hj;by_cases hjl:j<M.length
   ·have hn':=sQ hjl hn;rw [lP h.whole (by simpa using hjl)] at hx;have hxl:=aDf h.whole hn' hx;exact h.ends (hall x hxl) hxl
   ·rw [h.new (by omega) hn] at hj';obtain ⟨nj,hj1,hj2⟩:=jN hn;have hjp:j=p:=by
     unfold cZ at hj';split at hj'
     ·rename_i hq;have:=h.rt_lt hq;omega
     ·rw [<-oS M o t,zj] at hj1;obtain ⟨y,hy,rfl⟩:=Option.map_eq_some_iff.1 hj1;cases hm:(M++t.map λn=>(o,n))[p]? with
      | none=>rw [oZ (by simpa using (List.getElem?_eq_none_iff.1 hm))] at hj';exact hj'.symm
      | some z=>
       cases hv:aF z.2 with
       | false=>rw [mX hm hv] at hj';exact hj'.symm
       | true=>
        obtain ⟨_,_,s,e3,e4,_⟩:=mY hm hv;rw [hj',hy] at e3;simp at e3;subst e3;rw [e4] at hj2;cases hj2
    subst hjp;rw [fM hj1] at hx;have h4:=oC _ _ _ (hW1 j _ hj1) x hx;have hjlt:j<(M.map zz++t).length:=(zy.1 hj1).1;have h5:aH ((M.map zz++t).drop j) 1<=((M.map zz++t).drop j).length:=mD _ _;rw [zs hjlt,(zy.1 hj1).2] at h5;simp [aH] at h5;simp at hjlt;exact ih (M.length+t.length-x) (by omega) x (by omega)
end
theorem aAd(r:Int×Lt)(rs:List (Int×Lt)):aJ (r :: rs)=(r.2.2.map λn=>(r.1,n))++aJ rs:=by simp [aJ]
theorem aK5(M:List Tg)(r:Int×Lt)(rs:List (Int×Lt)):M++aJ (r :: rs)=(M++r.2.2.map λn=>(r.1,n))++aJ rs:=by rw [aAd,List.append_assoc]
def oU(M:List Tg)(a b:Nat)(ps:List Nat)(ls:List (List Nd)):Prop:=
 ∃F rt d S,iD M a b F rt d S/\(∀p,p<M.length->bD (aC (M.map zz)) (λi j=>rt i=rt j) p)/\aM (λp l=>aL (aC (M.map zz)) (λi j=>rt i=rt j) rt [p] l) ps ls/\∀p∈ps,p<M.length
section
variable {M:List Tg}{a b:Nat}{ps:List Nat}{ls:List (List Nd)}
theorem oU.more(h:oU M a b ps ls)(o:Int){t:List Nd}(ht:aW t 1=true):∃l,oU (M++t.map λn=>(o,n)) a b (ps++[M.length]) (ls++[l]):=by
 obtain ⟨F,rt,d,S,hv,hen,hls,hlo⟩:=h;have hs:=oS M o t;have ht0:0<t.length:=by
  cases t with
  | nil=>simp [aW] at ht
  | cons=>simp
 have hen1:∀p,p<M.length+t.length->bD (aC (M.map zz++t)) (λi j=>cZ M (M++t.map λn=>(o,n)) rt i=cZ M (M++t.map λn=>(o,n)) rt j) p:=λp hp=>hv.endsAll (o:=o) ht hen (M.length+t.length-p) p (by omega)
 obtain ⟨l,hl⟩:=(hen1 M.length (by omega)).exp (rep:=cZ M (M++t.map λn=>(o,n)) rt);refine ⟨l,_,_,_,_,hv.add (o:=o) ht,λp hp=>by rw [hs];exact hen1 p (by simpa using hp),?_,λp hp=>?_⟩
 ·rw [hs];have key:∀{ps:List Nat} {ls:List (List Nd)},aM (λp l=>aL (aC (M.map zz)) (λi j=>rt i=rt j) rt [p] l) ps ls->(∀p∈ps,p<M.length)->aM (λp l=>aL (aC (M.map zz++t)) (λi j=>cZ M (M++t.map λn=>(o,n)) rt i=cZ M (M++t.map λn=>(o,n)) rt j) (cZ M (M++t.map λn=>(o,n)) rt) [p] l) ps ls:=by
   intro ps ls h;induction h with
   | nil=>intro _;exact aM.nil
   | cons c _ ih=>
    intro hp;exact aM.cons (hv.exp (o:=o) c (λi hi=>by simp at hi;subst hi;exact hp _ (by simp))) (ih λp hq=>hp p (by simp [hq]))
  exact (key hls hlo).snoc hl
 ·rcases zm.1 hp with hp | hp
  ·have:=hlo p hp;simp;omega
  ·simp at hp;subst hp;simp;exact ht0
theorem oU.all:∀(rest:List (Int×Lt)) {M:List Tg} {ps:List Nat} {ls:List (List Nd)},oU M a b ps ls->(∀r∈rest,aW r.2.2 1=true)->∃ms,oU (M++aJ rest) a b (ps++bN M.length rest) (ls++ms):=by
 intro rest;induction rest with
 | nil=>
  intro M ps ls h _;exact ⟨[],by simpa [aJ,bN] using h⟩
 | cons r rs ih=>
  intro M ps ls h ht;obtain ⟨l,h1⟩:=h.more r.1 (ht r (by simp));obtain ⟨ms,h2⟩:=ih h1 (λx hx=>ht x (by simp [hx]));refine ⟨l :: ms,?_⟩;rw [aK5];have e1:ps++bN M.length (r :: rs)=ps++[M.length]++bN (M++r.2.2.map λn=>(r.1,n)).length rs:=by simp [bN]
  have e2:ls++l :: ms=ls++[l]++ms:=by simp
  rw [e1,e2];exact h2
end
theorem aX5:∀(rest:List (Int×Lt)) {M:List Tg} {a b:Nat},(∀r∈rest,aW r.2.2 1=true)->dE (M.map zz)->oT (M++aJ rest) a b->dW (aC (M.map zz)) (bK M a b)/\∀p,p<M.length->bD (aC (M.map zz)) (bK M a b) p:=by
 intro rest;induction rest with
 | nil=>
  intro M a b _ _ h;simp only [aJ,List.flatMap_nil,List.append_nil] at h;exact h
 | cons r rs ih=>
  intro M a b ht hW h;rw [aK5] at h;have hs:=oS M r.1 r.2.2;obtain ⟨h1,h2⟩:=ih (λx hx=>ht x (by simp [hx])) (by rw [hs];exact hW.append (qZ (ht r (by simp)))) h;rw [hs] at h1 h2;exact ⟨aWx hW h1,λp hp=>aWw hW (h2 p (by simp;omega))⟩
theorem aX6{c:List Lt}{x:Lt}(h:x∈c):x∈cK c:=by
 suffices ∀(c:List Lt) (acc:List Lt) (x:Lt),x∈acc\/x∈c->x∈c.foldl eO acc from this c [] x (zr h)
 intro c;induction c with
 | nil=>intro acc x h;simpa using h
 | cons y r ih=>
  intro acc x h;simp only [zq];refine ih _ _ ?_;have hs:∀z,z∈acc\/z=y->z∈eO acc y:=by
   intro z hz;unfold eO;split
   ·rename_i hm;rcases hz with hz | rfl
    ·exact hz
    ·exact (aHy _ _).1 hm
   ·simpa using hz
  rcases h with h | h
  ·exact zt (hs x (zt h))
  ·rcases zo.1 h with rfl | h
   ·exact zt (hs x (zr rfl))
   ·exact zr h
theorem aX7(c:List Lt):aK (cQ c).1=aK c:=by
 suffices ∀(c:List Lt) (st:List Lt×List Int),aK (c.foldl eE st).1=aK st.1+aK c by
  have:=this c ([],[]);simpa [cQ,aK] using this
 intro c;induction c with
 | nil=>intro st;simp [aK]
 | cons x r ih=>
  intro st;simp only [zq];rw [ih];have h1:(cG x.2 st.2).1.length=x.2.length:=(tM x.2 st.2).1;simp only [eE,oM,h1];have h2:aK (x :: r)=x.2.length+aK r:=by simp [aK]
  omega
theorem aDi{c:List Lt}{x:Lt}(h:x∈c)(hx:500<x.2.length):500<aK (aR c):=by unfold aR;rw [aX7];have:=zO (cK c) x (aX6 h);omega
theorem aK6:∀(rest:List (Int×Lt)) (ls:List (List Nd)),rest.length=ls.length->∀l∈ls,∃s,(s,l)∈cM rest ls
 | [],[],_,l,hl=>by simp at hl
 | r :: rs,m :: ms,h,l,hl=>by
  rcases zo.1 hl with rfl | hl
  ·exact ⟨r.2.1,by simp [cM]⟩
  ·obtain ⟨s,hs⟩:=aK6 rs ms (by simpa using h) l hl;exact ⟨s,by simp only [cM,List.zipWith_cons_cons];exact List.mem_cons_of_mem _ hs⟩
theorem oU.out{M0:List Tg}{a b:Nat}{rest:List (Int×Lt)}{ls:List (List Nd)}(h:oU (M0++aJ rest) a b (bN M0.length rest) ls) :
  (500<aK (aR (cM rest ls))->eY M0 a b rest [] false 4)/\(aK (aR (cM rest ls))<=500->eY M0 a b rest (aR (cM rest ls)) true 0):=by
 obtain ⟨F,rt,d,S,hv,hen,hls,hlo⟩:=h;have hR:(λi j=>rt i=rt j)=bK (M0++aJ rest) a b:=by
  funext i j
  exact propext (hv.iff i j)
 rw [hR] at hen hls;have hy:oT (M0++aJ rest) a b:=by refine ⟨?_,hen⟩;have:=hv.cl.done (B:=λi j=>aY (M0++aJ rest) i=aY (M0++aJ rest) j\/(i=a/\j=b)) (qB rt) (λi j e=>(hv.iff i j).1 e) (λi j e=>(hv.iff i j).2 (Cl.base e));exact this.2
 exact ⟨λhc=>zr ⟨hy,rt,ls,hv.iff,hls,zt ⟨hc,rfl,rfl,rfl⟩⟩,λhc=>zr ⟨hy,rt,ls,hv.iff,hls,zr ⟨hc,rfl,rfl,rfl⟩⟩⟩
end
section
open Go.RowKit Go.Shelf Go.WideMaps
theorem aX8{mp:Nat}(h:w.heap[mp]?=some (.map #[] 0)):w.ownsMap zw 168 fW mp 0 (.map []):=by
 have hl:=(zx.1 h).1;have hm:(World.alloc {w with heap:=w.heap.extract 0 mp} (.map #[] 0)).ownsMap zw 168 fW ({w with heap:=w.heap.extract 0 mp}:World).heap.size 0 (.map []):=World.ownsMap_made _ _ _ _;have hsz:({w with heap:=w.heap.extract 0 mp}:World).heap.size=mp:=by simp;omega
 rw [hsz] at hm;refine aDa hm ?_;rw [h];have:=heap_alloc_new ({w with heap:=w.heap.extract 0 mp}:World) (.map #[] 0);rw [hsz] at this;exact this.symm
theorem aAe{W:World}{B k n size:Nat}{c:Array Value}{e:TypeId}(hB:B<=k)(h:W.heap[k]?=some (.cells c e))(hc:c.size=n*size)(hn:n<=1000000):W.ownsRow B e size (.slice (some ⟨k,0,none⟩) 0 n) 0 []:=
 ⟨by simp,zr ⟨k,n,c,rfl,hB,h,Nat.zero_le _,by unfold maxLen;omega,hc,by simp⟩⟩
structure aDj(w:World)(tb mp:Nat)(vn ve vl vs:Value)(w':World):Prop where
 tm:cB w' w.heap.size tb vn ve vl vs (.map (some mp)) [] [] [] []
 first:gI w' mp []
 low:Below w.heap.size w w'
 ne:mp≠tb
 mlow:w.heap.size<=mp
theorem aX9{W:World}{n k1 k2 k3 k4 km tb:Nat}{c1 c2:Array Value}(hn:n<=1000000)(hs1:c1.size=n*2)(hs2:c2.size=n*1)(hb:Below w.heap.size w W)(h1:W.heap[k1]?=some (.cells c1 36))(h2:W.heap[k2]?=some (.cells c2 3))(h3:W.heap[k3]?=some (.cells c2 3))(h4:W.heap[k4]?=some (.cells c2 3))(hm:W.heap[km]?=some (.map #[] 0))
  (ht:W.heap[tb]?=some (.cells #[.slice (some ⟨k1,0,none⟩) 0 n,.slice (some ⟨k2,0,none⟩) 0 n,.slice (some ⟨k3,0,none⟩) 0 n,.slice (some ⟨k4,0,none⟩) 0 n,.map (some km)] 137))
  (l1:w.heap.size<=k1/\w.heap.size<=k2/\w.heap.size<=k3/\w.heap.size<=k4/\w.heap.size<=km/\w.heap.size<=tb) (l2:k2≠k3/\k2≠k4/\k3≠k4/\km≠tb) :
  aDj w tb km (.slice (some ⟨k1,0,none⟩) 0 n) (.slice (some ⟨k2,0,none⟩) 0 n) (.slice (some ⟨k3,0,none⟩) 0 n) (.slice (some ⟨k4,0,none⟩) 0 n) W:=by
 obtain ⟨a1,a2,a3,a4,a5,a6⟩:=l1;obtain ⟨b1,b2,b3,b4⟩:=l2;refine ⟨⟨ht,a6,aAe a1 h1 hs1 hn,aAe a2 h2 hs2 hn,aAe a3 h3 hs2 hn,aAe a4 h4 hs2 hn,?_,?_,?_,?_,?_,?_⟩,⟨0,.map [],aX8 hm,mP.start,Nat.le_refl _⟩,hb,b4,a5⟩;all_goals simp [Value.ownBlock]
 all_goals assumption
abbrev Ob:=Option Nat
def vS(n:Nat):Ob->Value
 | some k=>.slice (some ⟨k,0,none⟩) 0 n
 | none=>undef
def vM:Ob->Value
 | some k=>.map (some k)
 | none=>undef
def aK7(o1 o2 o3 o4 o5:Ob):Array Bool:=#[true,o1.isSome,true,o2.isSome,true,o3.isSome,true,o4.isSome,o5.isSome,false,false,false]
def nY(n:Nat)(o1 o2 o3 o4 o5:Ob):Act:={tmps:=#[.int .i64 n,undef,.pointer none,.int .i64 n,vS n o1,.int .i64 n,vS n o2,.int .i64 n,vS n o3,.int .i64 n,vS n o4,vM o5,undef,undef],defers:=[]}
def rG(b1 b2 b3 b4 b5:Bool):List Nat:=(if b1 then [] else [1])++(if b2 then [] else [3])++(if b3 then [] else [5])++(if b4 then [] else [7])++(if b5 then [] else [8])
def pO(o1 o2 o3 o4 o5:Ob):List Nat:=rG o1.isSome o2.isSome o3.isSome o4.isSome o5.isSome
structure fZ(w:World)(c1 c2:Array Value)(o1 o2 o3 o4 o5:Ob)(W:World):Prop where
 low:Below w.heap.size w W
 h1:∀k,o1=some k->w.heap.size<=k/\W.heap[k]?=some (.cells c1 36)
 h2:∀k,o2=some k->w.heap.size<=k/\W.heap[k]?=some (.cells c2 3)
 h3:∀k,o3=some k->w.heap.size<=k/\W.heap[k]?=some (.cells c2 3)
 h4:∀k,o4=some k->w.heap.size<=k/\W.heap[k]?=some (.cells c2 3)
 h5:∀k,o5=some k->w.heap.size<=k/\W.heap[k]?=some (.map #[] 0)
 n23:∀k,o2=some k->o3≠some k
 n24:∀k,o2=some k->o4≠some k
 n34:∀k,o3=some k->o4≠some k
section
variable {w W:World}{c1 c2:Array Value}{o1 o2 o3 o4 o5:Ob}
theorem fZ.start(h:Below w.heap.size w W):fZ w c1 c2 none none none none none W:=⟨h,(λ_ e=>nomatch e),(λ_ e=>nomatch e),(λ_ e=>nomatch e),(λ_ e=>nomatch e),(λ_ e=>nomatch e),(λ_ e=>nomatch e),(λ_ e=>nomatch e),(λ_ e=>nomatch e)⟩
theorem fZ.lt(h:fZ w c1 c2 o1 o2 o3 o4 o5 W):(o1≠some W.heap.size/\o2≠some W.heap.size)/\o3≠some W.heap.size/\o4≠some W.heap.size/\o5≠some W.heap.size:=by
 refine ⟨⟨λe=>?_,λe=>?_⟩,λe=>?_,λe=>?_,λe=>?_⟩
 ·have:=(zx.1 (h.h1 _ e).2).1;omega
 ·have:=(zx.1 (h.h2 _ e).2).1;omega
 ·have:=(zx.1 (h.h3 _ e).2).1;omega
 ·have:=(zx.1 (h.h4 _ e).2).1;omega
 ·have:=(zx.1 (h.h5 _ e).2).1;omega
theorem xS{x y:Obj}{k:Nat}(h:W.heap[k]?=some x):(W.alloc y).heap[k]?=some x:=by rw [heap_alloc_old W y (zx.1 h).1,h]
theorem fZ.alloc(h:fZ w c1 c2 o1 o2 o3 o4 o5 W)(x:Obj):fZ w c1 c2 o1 o2 o3 o4 o5 (W.alloc x):=
 ⟨h.low.alloc h.low.size x,λk e=>⟨(h.h1 k e).1,xS (h.h1 k e).2⟩,λk e=>⟨(h.h2 k e).1,xS (h.h2 k e).2⟩,λk e=>⟨(h.h3 k e).1,xS (h.h3 k e).2⟩,λk e=>⟨(h.h4 k e).1,xS (h.h4 k e).2⟩,λk e=>⟨(h.h5 k e).1,xS (h.h5 k e).2⟩,h.n23,h.n24,h.n34⟩
theorem fZ.s1(h:fZ w c1 c2 o1 o2 o3 o4 o5 W):fZ w c1 c2 (some W.heap.size) o2 o3 o4 o5 (W.alloc (.cells c1 36)):=by have k:=h.alloc (.cells c1 36);exact ⟨k.low,λj e=>by simp at e;subst e;exact ⟨h.low.size,heap_alloc_new _ _⟩,k.h2,k.h3,k.h4,k.h5,k.n23,k.n24,k.n34⟩
theorem fZ.s2(h:fZ w c1 c2 o1 o2 o3 o4 o5 W):fZ w c1 c2 o1 (some W.heap.size) o3 o4 o5 (W.alloc (.cells c2 3)):=by have k:=h.alloc (.cells c2 3);exact ⟨k.low,k.h1,λj e=>by simp at e;subst e;exact ⟨h.low.size,heap_alloc_new _ _⟩,k.h3,k.h4,k.h5,λj e=>by simp at e;subst e;exact h.lt.2.1,λj e=>by simp at e;subst e;exact h.lt.2.2.1,k.n34⟩
theorem fZ.s3(h:fZ w c1 c2 o1 o2 o3 o4 o5 W):fZ w c1 c2 o1 o2 (some W.heap.size) o4 o5 (W.alloc (.cells c2 3)):=by have k:=h.alloc (.cells c2 3);exact ⟨k.low,k.h1,k.h2,λj e=>by simp at e;subst e;exact ⟨h.low.size,heap_alloc_new _ _⟩,k.h4,k.h5,λj e e'=>by simp at e';subst e';exact h.lt.1.2 e,k.n24,λj e=>by simp at e;subst e;exact h.lt.2.2.1⟩
theorem fZ.s4(h:fZ w c1 c2 o1 o2 o3 o4 o5 W):fZ w c1 c2 o1 o2 o3 (some W.heap.size) o5 (W.alloc (.cells c2 3)):=by have k:=h.alloc (.cells c2 3);exact ⟨k.low,k.h1,k.h2,k.h3,λj e=>by simp at e;subst e;exact ⟨h.low.size,heap_alloc_new _ _⟩,k.h5,k.n23,λj e e'=>by simp at e';subst e';exact h.lt.1.2 e,λj e e'=>by simp at e';subst e';exact h.lt.2.1 e⟩
theorem fZ.s5(h:fZ w c1 c2 o1 o2 o3 o4 o5 W):fZ w c1 c2 o1 o2 o3 o4 (some W.heap.size) (W.alloc (.map #[] 0)):=by have k:=h.alloc (.map #[] 0);exact ⟨k.low,k.h1,k.h2,k.h3,k.h4,λj e=>by simp at e;subst e;exact ⟨h.low.size,heap_alloc_new _ _⟩,k.n23,k.n24,k.n34⟩
end
def uC(o1 o2 o3 o4 o5:Ob):Nat:=(pO o1 o2 o3 o4 o5).length
theorem aXa{n:Nat}{c1 c2:Array Value}{ops:Array Oper}{Q:Exit->Act->World->Prop}{q1 q2 q3 q4 q5:Oper}
  (e1:ops[1]?=some q1) (e2:ops[3]?=some q2) (e3:ops[5]?=some q3) (e4:ops[7]?=some q4) (e5:ops[8]?=some q5)
  (g:q1.guard=none/\q2.guard=none/\q3.guard=none/\q4.guard=none/\q5.guard=none) (d:q1.dst=some 4/\q2.dst=some 6/\q3.dst=some 8/\q4.dst=some 10/\q5.dst=some 11)
  (r1:∀(o1 o2 o3 o4 o5:Ob) (W:World),(execOp (nY n o1 o2 o3 o4 o5).eval q1).run zw W=.ok (.value (.slice (some ⟨W.heap.size,0,none⟩) 0 n)) (W.alloc (.cells c1 36)))
  (r2:∀(o1 o2 o3 o4 o5:Ob) (W:World),(execOp (nY n o1 o2 o3 o4 o5).eval q2).run zw W=.ok (.value (.slice (some ⟨W.heap.size,0,none⟩) 0 n)) (W.alloc (.cells c2 3)))
  (r3:∀(o1 o2 o3 o4 o5:Ob) (W:World),(execOp (nY n o1 o2 o3 o4 o5).eval q3).run zw W=.ok (.value (.slice (some ⟨W.heap.size,0,none⟩) 0 n)) (W.alloc (.cells c2 3)))
  (r4:∀(o1 o2 o3 o4 o5:Ob) (W:World),(execOp (nY n o1 o2 o3 o4 o5).eval q4).run zw W=.ok (.value (.slice (some ⟨W.heap.size,0,none⟩) 0 n)) (W.alloc (.cells c2 3)))
  (r5:∀(o1 o2 o3 o4 o5:Ob) (W:World),(execOp (nY n o1 o2 o3 o4 o5).eval q5).run zw W=.ok (.value (.map (some W.heap.size))) (W.alloc (.map #[] 0)))
  (hr:∀(b1 b2 b3 b4 b5:Bool),(b1 && b2 && b3 && b4 && b5)=false->Region.ready .any ops #[true,b1,true,b2,true,b3,true,b4,b5,false,false,false]=rG b1 b2 b3 b4 b5)
  (hend:∀(k1 k2 k3 k4 k5:Nat) (W:World),fZ w c1 c2 (some k1) (some k2) (some k3) (some k4) (some k5) W->wpAny zw .any ops Q 3 (aK7 (some k1) (some k2) (some k3) (some k4) (some k5)) (nY n (some k1) (some k2) (some k3) (some k4) (some k5)) W) :
  ∀(m:Nat) (o1 o2 o3 o4 o5:Ob) (W:World),uC o1 o2 o3 o4 o5=m->fZ w c1 c2 o1 o2 o3 o4 o5 W->wpAny zw .any ops Q (m+3) (aK7 o1 o2 o3 o4 o5) (nY n o1 o2 o3 o4 o5) W:=by
 obtain ⟨g1,g2,g3,g4,g5⟩:=g;obtain ⟨d1,d2,d3,d4,d5⟩:=d;intro m;induction m with
 | zero=>
  intro o1 o2 o3 o4 o5 W hm hI;have h0:=List.eq_nil_of_length_eq_zero hm;cases o1 <;> cases o2 <;> cases o3 <;> cases o4 <;> cases o5 <;> first | (simp [pO,rG] at h0;done) | exact hend _ _ _ _ _ _ hI
 | succ m ih=>
  intro o1 o2 o3 o4 o5 W hm hI;have hne:pO o1 o2 o3 o4 o5≠[]:=λe=>by unfold uC at hm;rw [e] at hm;simp at hm
  rw [show m+1+3=(m+3)+1 by omega];refine wpAny_all (rs:=pO o1 o2 o3 o4 o5) (hr _ _ _ _ _ (by cases o1 <;> cases o2 <;> cases o3 <;> cases o4 <;> cases o5 <;> first | rfl | exact absurd rfl hne)) hne λi hi=>?_
  have hi':(i=1/\o1=none)\/(i=3/\o2=none)\/(i=5/\o3=none)\/(i=7/\o4=none)\/(i=8/\o5=none):=by clear hr hend ih r1 r2 r3 r4 r5;cases o1 <;> cases o2 <;> cases o3 <;> cases o4 <;> cases o5 <;> simp [pO,rG] at hi ⊢ <;> omega
  rcases hi' with ⟨rfl,rfl⟩ | ⟨rfl,rfl⟩ | ⟨rfl,rfl⟩ | ⟨rfl,rfl⟩ | ⟨rfl,rfl⟩
  ·refine tR e1 g1 (r1 _ _ _ _ _ W) ?_;rw [d1];exact ih (some W.heap.size) o2 o3 o4 o5 _ (by unfold uC pO rG at *;simp at *;omega) hI.s1
  ·refine tR e2 g2 (r2 _ _ _ _ _ W) ?_;rw [d2];exact ih o1 (some W.heap.size) o3 o4 o5 _ (by unfold uC pO rG at *;simp at *;omega) hI.s2
  ·refine tR e3 g3 (r3 _ _ _ _ _ W) ?_;rw [d3];exact ih o1 o2 (some W.heap.size) o4 o5 _ (by unfold uC pO rG at *;simp at *;omega) hI.s3
  ·refine tR e4 g4 (r4 _ _ _ _ _ W) ?_;rw [d4];exact ih o1 o2 o3 (some W.heap.size) o5 _ (by unfold uC pO rG at *;simp at *;omega) hI.s4
  ·refine tR e5 g5 (r5 _ _ _ _ _ W) ?_;rw [d5];exact ih o1 o2 o3 o4 (some W.heap.size) _ (by unfold uC pO rG at *;simp at *;omega) hI.s5
theorem aK8(n:Nat)(hn:n<=1000000)(w:World) :
  Calls zw 56 #[.int .i64 n] w λe w'=>∃tb mp vn ve vl vs,e=.returned (.pointer (some ⟨tb,0,none⟩))/\aDj w tb mp vn ve vl vs w':=by
 obtain ⟨iN,hN,hN0,hN1,hN2⟩:=info_parts nB;obtain ⟨iI,hI,hI0,hI1,hI2⟩:=info_parts pB;have hmm:=@run_makeMap zw;obtain ⟨c1,hc1,hmk1⟩ : ∃c1:Array Value,c1.size=n*2/\∀w:World,(Instr.makeSlice 37 (.int .i64 0) (.int .i64 n)).run zw w=.ok (.slice (some ⟨w.heap.size,0,none⟩) 0 n) (w.alloc (.cells c1 36)):=
  ⟨madeCells (Value.agg #[.string ⟨#[]⟩,.int .i64 0]).cells (n*iN.size),by rw [size_madeCells,hN1],λw=>by
   have:=run_make (P:=zw) w 37 36 iN _ Tryz.underlying37 hN hN0 .i64 .i64 0 n (Int.le_refl _) (by omega) (by rw [hN2];omega) (by omega);simpa using this⟩
 obtain ⟨c2,hc2,hmk2⟩ : ∃c2:Array Value,c2.size=n*1/\∀w:World,(Instr.makeSlice 25 (.int .i64 0) (.int .i64 n)).run zw w=.ok (.slice (some ⟨w.heap.size,0,none⟩) 0 n) (w.alloc (.cells c2 3)):=
  ⟨madeCells (Value.int .i64 0).cells (n*iI.size),by rw [size_madeCells,hI1],λw=>by
   have:=run_make (P:=zw) w 25 3 iI _ Tryz.underlying25 hI hI0 .i64 .i64 0 n (Int.le_refl _) (by omega) (by rw [hI2];omega) (by omega);simpa using this⟩
 have HC1:=aA hc1;have HC2:=aA hc2;clear hN hN0 hN1 hN2 hI hI0 hI1 hI2 hc1 hc2;go_enter Tryz.func56,Tryz.ntmps56;go_upto_region 1 with (fail);refine wp_region_any (by kernel_rfl) ?_;refine wpAny_take (i:=0) (v:=.int .i64 n) rfl (by kernel_rfl) (by kernel_rfl) (by kernel_rfl) (λ_ _ _ h=>h) (zt ⟨by rfl,λw=>rfl⟩) ?_;refine wpAny_take (i:=2) (v:=.int .i64 n) rfl (by kernel_rfl) (by kernel_rfl) (by kernel_rfl) (λ_ _ _ h=>h) (zt ⟨by rfl,λw=>rfl⟩) ?_;refine wpAny_take (i:=4) (v:=.int .i64 n) rfl (by kernel_rfl) (by kernel_rfl) (by kernel_rfl) (λ_ _ _ h=>h) (zt ⟨by rfl,λw=>rfl⟩) ?_;refine wpAny_take (i:=6) (v:=.int .i64 n) rfl (by kernel_rfl) (by kernel_rfl) (by kernel_rfl) (λ_ _ _ h=>h) (zt ⟨by rfl,λw=>rfl⟩) ?_;refine aXa (w:=w) (c1:=c1) (c2:=c2) (n:=n) rfl rfl rfl rfl rfl ⟨rfl,rfl,rfl,rfl,rfl⟩ ⟨rfl,rfl,rfl,rfl,rfl⟩ ?_ ?_ ?_ ?_ ?_ ?_ ?_ 5 none none none none none _ rfl ?_
 ·intro o1 o2 o3 o4 o5 W;simp [execOp,nY,Act.eval,hmk1]
 ·intro o1 o2 o3 o4 o5 W;simp [execOp,nY,Act.eval,hmk2]
 ·intro o1 o2 o3 o4 o5 W;simp [execOp,nY,Act.eval,hmk2]
 ·intro o1 o2 o3 o4 o5 W;simp [execOp,nY,Act.eval,hmk2]
 ·intro o1 o2 o3 o4 o5 W;simp [execOp,nY,hmm]
 ·intro b1 b2 b3 b4 b5 h;cases b1 <;> cases b2 <;> cases b3 <;> cases b4 <;> cases b5 <;> first | (cases h;done) | kernel_rfl
 ·intro k1 k2 k3 k4 k5 W hI;change wpAny zw .any _ _ 3 #[true,true,true,true,true,true,true,true,true,false,false,false] {tmps:=#[.int .i64 n,undef,.pointer none,.int .i64 n,.slice (some ⟨k1,0,none⟩) 0 n,.int .i64 n,.slice (some ⟨k2,0,none⟩) 0 n,.int .i64 n,.slice (some ⟨k3,0,none⟩) 0 n,.int .i64 n,.slice (some ⟨k4,0,none⟩) 0 n,.map (some k5),undef,undef],defers:=[]} W;refine wpAny_take (i:=9) (v:=.agg #[.slice (some ⟨k1,0,none⟩) 0 n,.slice (some ⟨k2,0,none⟩) 0 n,.slice (some ⟨k3,0,none⟩) 0 n,.slice (some ⟨k4,0,none⟩) 0 n,.map (some k5)]) rfl (by kernel_rfl) (by kernel_rfl) (by kernel_rfl) (λ_ _ _ h=>h) (zt ⟨by rfl,λw=>by go_simp⟩) ?_;refine wpAny_all (rs:=[10]) (by kernel_rfl) (by simp) λi hi=>?_
  obtain rfl:i=10:=by simpa using hi
  refine tR (v:=.pointer (some ⟨W.heap.size,0,none⟩)) (w':=W.alloc (.cells #[.slice (some ⟨k1,0,none⟩) 0 n,.slice (some ⟨k2,0,none⟩) 0 n,.slice (some ⟨k3,0,none⟩) 0 n,.slice (some ⟨k4,0,none⟩) 0 n,.map (some k5)] 137)) rfl rfl (by rfl) ?_;refine wpAny_take (i:=11) (v:=.pointer (some ⟨W.heap.size,0,none⟩)) rfl (by kernel_rfl) (by kernel_rfl) (by kernel_rfl) (λ_ _ _ h=>h) (zt ⟨by rfl,λw=>by rfl⟩) ?_;refine wpAny_done (by kernel_rfl) ?_ _;have hI':=hI.alloc (.cells #[.slice (some ⟨k1,0,none⟩) 0 n,.slice (some ⟨k2,0,none⟩) 0 n,.slice (some ⟨k3,0,none⟩) 0 n,.slice (some ⟨k4,0,none⟩) 0 n,.map (some k5)] 137);have HN:=aA (aX9 (tb:=W.heap.size) hn HC1.out HC2.out hI'.low (hI'.h1 k1 rfl).2 (hI'.h2 k2 rfl).2 (hI'.h3 k3 rfl).2 (hI'.h4 k4 rfl).2 (hI'.h5 k5 rfl).2 (heap_alloc_new _ _) ⟨(hI.h1 k1 rfl).1,(hI.h2 k2 rfl).1,(hI.h3 k3 rfl).1,(hI.h4 k4 rfl).1,(hI.h5 k5 rfl).1,hI.low.size⟩ ⟨λe=>hI.n23 k2 rfl (by rw [e]),λe=>hI.n24 k2 rfl (by rw [e]),λe=>hI.n34 k3 rfl (by rw [e]),λe=>hI.lt.2.2.2 (by rw [e])⟩);clear hI hI';go_wp2;go_ret;exact ⟨_,_,_,_,_,_,rfl,HN.out⟩
 ·exact fZ.start (aI ⟨1,rfl⟩)
structure kI(B tb mp:Nat)(M:List Tg)(w:World):Prop where
 tm:∃vn ve vl vs,cB w B tb vn ve vl vs (.map (some mp)) (M.map zz) (eG (M.map zz)) (pZ M) (zk M.length 0)
 first:gI w mp M
 whole:dE (M.map zz)
 big:B<=w.heap.size
 ne:mp≠tb
 mlow:B<=mp
theorem kI.new{w w':World}{tb mp:Nat}{vn ve vl vs:Value}(h:aDj w tb mp vn ve vl vs w'):kI w.heap.size tb mp [] w':=
 ⟨⟨vn,ve,vl,vs,h.tm⟩,h.first,λi n e=>by simp at e,h.low.size,h.ne,h.mlow⟩
theorem aAf{B tb mp:Nat}{M:List Tg}(h:kI B tb mp M w)(o:Int)(a:Option Addr)(c:Nat)(t:List Nd)(hn:cU w a t)(ht:aW t 1=true)(hlow:∀p,a=some p->p.block<B)(hlen:M.length+t.length<=1000000)(ho : -1000<=o/\o<=1000) :
  Calls zw 59 #[.pointer (some ⟨tb,0,none⟩),.int .i64 o,.slice a t.length c] w λe w'=>e=.returned (.int .i64 M.length)/\kI B tb mp (M++aO o t) w'/\Below B w w':=by
 obtain ⟨vn,ve,vl,vs,htm⟩:=h.tm;have hl:(M.map zz).length=M.length:=by simp
 refine (aJ4 B tb mp vn ve vl vs (M.map zz) (pZ M) (zk M.length 0) M o a c t w htm rfl h.whole h.first (by rw [lB,hl]) (by rw [zl,hl]) h.big h.ne h.mlow ht hn hlow (by rw [hl];exact hlen) ho).mono ?_;rintro e w' ⟨vn',ve',vl',vs',rfl,h1,h2,h3,_⟩;have hs:(M++aO o t).map zz=M.map zz++t:=by rw [List.map_append,tA]
 refine ⟨by rw [hl],⟨⟨vn',ve',vl',vs',?_⟩,h2,by rw [hs];exact h.whole.append (qZ ht),Nat.le_trans h.big h3.low.size,h.ne,h.mlow⟩,h3.low⟩;rw [hs,aEc,zp,List.replicate_append_replicate.symm];simpa using h1
theorem aXb{L:List Nd}(hW:dE L){E:Nat->Nat->Prop}{rep:Nat->Nat}{x:List Nat}{l:List Nd}(h:aL (aC L) E rep x l)(hx:∀i∈x,i<L.length):∀n∈l,(aF n=true/\∃i,i<L.length/\n=(⟨#[]⟩,(rep i:Int)))\/(aF n=false/\n∈L):=by
 induction h with
 | nil=>intro n hn;simp at hn
 | @var i r l h1 _ ih=>
  intro n hn;rcases zo.1 hn with rfl | hn
  ·exact zt ⟨oI _,i,hx i (by simp),rfl⟩
  ·exact ih (λj hj=>hx j (by simp [hj])) n hn
 | @name i j r l h1 h2 _ ih=>
  intro n hn;obtain ⟨m,hm,hv⟩:=jN h2;have hjl:=(zy.1 hm).1;rcases zo.1 hn with rfl | hn
  ·right;rw [lC hm];exact ⟨hv,List.mem_of_getElem? hm⟩
  ·refine ih (λp hp=>?_) n hn;rcases zm.1 hp with hp | hp
   ·rw [fM hm] at hp;have h4:=(oC _ _ _ (hW j _ hm) p hp).2;have h5:aH (L.drop j) 1<=(L.drop j).length:=mD _ _;rw [zs hjl,(zy.1 hm).2] at h5;simp [aH] at h5;omega
   ·exact hx p (by simp [hp])
theorem vU{a:Option Addr}{l:List Nd}(h:cU w a l)(ht:aW l 1=true):∀p,a=some p->p.block<w.heap.size:=by
 intro p hp;have h0:0<l.length:=by
  cases l with
  | nil=>simp [aW] at ht
  | cons=>simp
 obtain ⟨b,o,e,h1,_⟩:=h.cell 0 h0;rw [hp] at e;simp at e;rw [e];exact World.block_lt_of_cell? w _ h1
end
end Go.Proofs.YtcldkjcpofjmhaaGreatDoor
