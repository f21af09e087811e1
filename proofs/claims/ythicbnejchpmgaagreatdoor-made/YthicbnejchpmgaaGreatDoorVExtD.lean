/- Terms are put behind others that were made the same: the classes grow by them. Clauses that are alike but for their variables' numbers are the same in order. What is concluded from clauses by one pair of atoms: the answer as a fact on graphs. The program: terms are made room for. The program: terms are put into new ones. What is concluded: from the classes of the first terms to the whole answer. -/
import Derived.Test.YthicbnejchpmgaaGreatDoorUPut1D
import Derived.Test.YthicbnejchpmgaaGreatDoorUJnLD
namespace Go.Proofs.YthicbnejchpmgaaGreatDoor
open Go.RowKit
set_option maxRecDepth 100000
abbrev eC (M:List Tg) (a b:Nat):Nat→Nat→Prop:=Cl (aD (M.map Prod.snd)) fun i j=>aS M i=aS M j∨(i=a∧j=b)
section
variable {M:List Tg} {o:Int} {t:List Nd} {a b:Nat}
theorem nQ (M:List Tg) (o:Int) (t:List Nd):(M++t.map fun n=>(o,n)).map Prod.snd=M.map Prod.snd++t:=by
 rw [List.map_append,List.map_map]
 congr 1
 exact List.map_id _
theorem xS {p:Nat} (h:p < M.length):aS M p < M.length:=by
 have:=(xL M).rt_lt (p:=p) (by rw [kE];exact h)
 rwa [kE] at this
theorem aBd (M:List Tg) (p:Nat):aS M (aS M p)=aS M p:=(xL M).rt_rt p
theorem aSn {i j:Nat} (h:aS M i=aS M j):aS (M++t.map fun n=>(o,n)) i=aS (M++t.map fun n=>(o,n)) j:=by
 by_cases hi:i < M.length
 ·by_cases hj:j < M.length
  ·rw [xK hi,xK hj,h]
  ·rw [oF (p:=j) (by omega)] at h
   have:=xS hi
   omega
 ·rw [oF (p:=i) (by omega)] at h
  by_cases hj:j < M.length
  ·have:=xS hj
   omega
  ·rw [oF (p:=j) (by omega)] at h
   rw [h]
theorem pL {p:Nat} (h:(aD (M.map Prod.snd)).named p):p < M.length∧(aD (M.map Prod.snd++t)).named p∧(aD (M.map Prod.snd++t)).lab p=(aD (M.map Prod.snd)).lab p:=by
 obtain ⟨n,h1,h2⟩:=fY h
 have hp:p < (M.map Prod.snd).length:=(List.getElem?_eq_some_iff.1 h1).1
 have h3:(M.map Prod.snd++t)[p]?=some n:=by rw [List.getElem?_append_left hp,h1]
 exact ⟨by simpa using hp,(eV h3).2 h2,by rw [jY h3,jY h1]⟩
theorem qP {p:Nat} (hp:p < M.length) (h:(aD (M.map Prod.snd++t)).named p):(aD (M.map Prod.snd)).named p:=by
 obtain ⟨n,h1,h2⟩:=fY h
 rw [List.getElem?_append_left (by simpa using hp)] at h1
 exact (eV h1).2 h2
theorem aBe (hW:dC (M.map Prod.snd)) {p q:Nat} (hn:(aD (M.map Prod.snd)).named p) (hq:q∈(aD (M.map Prod.snd)).ch p):q < M.length:=by
 obtain ⟨n,h1,_⟩:=fY hn
 have hp:p < (M.map Prod.snd).length:=(List.getElem?_eq_some_iff.1 h1).1
 rw [eP h1] at hq
 have h4:=(rG _ _ _ (hW p _ h1) q hq).2
 have h5:aF ((M.map Prod.snd).drop p) 1≤((M.map Prod.snd).drop p).length:=lK _ _
 rw [List.drop_eq_getElem_cons hp,(List.getElem?_eq_some_iff.1 h1).2] at h5
 simp [aF] at h5
 simp at hp
 omega
theorem aBf (hW:dC (M.map Prod.snd)) {i j:Nat} (h:eC M a b i j):eC (M++t.map fun n=>(o,n)) a b i j:=by
 unfold eC
 rw [nQ]
 refine Cl.le (R:=Cl (aD (M.map Prod.snd++t)) fun i j=>aS (M++t.map fun n=>(o,n)) i=aS (M++t.map fun n=>(o,n)) j∨(i=a∧j=b)) ⟨Cl.refl,fun _ _=>Cl.symm,fun _ _ _=>Cl.trans,?_⟩ ?_ h
 ·intro i j k p q c hi hj hp hq
  obtain ⟨i1,i2,_⟩:=pL (t:=t) hi
  obtain ⟨j1,j2,_⟩:=pL (t:=t) hj
  exact Cl.down c i2 j2 (by rw [mR hW (by simpa using i1)];exact hp) (by rw [mR hW (by simpa using j1)];exact hq)
 ·rintro i j (e | e)
  ·exact Cl.base (Or.inl (aSn e))
  ·exact Cl.base (Or.inr e)
theorem aSo (hW:dC (M.map Prod.snd)) {p:Nat} (h:bG (aD (M.map Prod.snd++t)) (eC (M++t.map fun n=>(o,n)) a b) p):bG (aD (M.map Prod.snd)) (eC M a b) p:=by
 induction h with
 | mk i _ ih=>
  refine ⟨_,fun j hj hn x hx=>?_⟩
  obtain ⟨j1,j2,_⟩:=pL (t:=t) hn
  exact ih j (aBf hW hj) j2 x (by rw [mR hW (by simpa using j1)];exact hx)
theorem aSp (hW:dC (M.map Prod.snd)) (h:fK (aD (M.map Prod.snd++t)) (eC (M++t.map fun n=>(o,n)) a b)):fK (aD (M.map Prod.snd)) (eC M a b):=by
 intro i j c hi hj
 obtain ⟨_,i2,i3⟩:=pL (t:=t) hi
 obtain ⟨_,j2,j3⟩:=pL (t:=t) hj
 rw [←i3,←j3]
 exact h i j (aBf hW c) i2 j2
end
structure gG (M:List Tg) (a b:Nat) (F:List Nat) (rt d:Nat→Nat) (S:List Int):Prop where
 whole:dC (M.map Prod.snd)
 lf:F.length=M.length
 ls:S.length=M.length
 forest:fA F rt d
 named:iV (M.map Prod.snd) rt
 cl:dE (aD (M.map Prod.snd)) (fun i j=>rt i=rt j) fun _ _=>False
 iff:∀i j,rt i=rt j↔eC M a b i j
 sz:pG (M.map Prod.snd) rt S
 none:∀r:Nat,S[r]?≠some (-1)
 ha:a < M.length
 hb:b < M.length
def cE (M M1:List Tg) (rt:Nat→Nat) (p:Nat):Nat:=if aS M1 p < M.length then rt (aS M1 p) else aS M1 p
def dX (M M1:List Tg) (d:Nat→Nat) (p:Nat):Nat:=if p < M.length then d p else if aS M1 p=p then 0 else if aS M1 p < M.length then d (aS M1 p)+1 else 1
section
variable {M:List Tg} {o:Int} {t:List Nd} {a b:Nat} {F:List Nat} {rt d:Nat→Nat} {S:List Int}
theorem gG.rt_lt (h:gG M a b F rt d S) {p:Nat} (hp:p < M.length):rt p < M.length:=by
 have:=h.forest.rt_lt (p:=p) (by rw [h.lf];exact hp)
 rwa [h.lf] at this
theorem gG.old (h:gG M a b F rt d S) {p:Nat} (hp:p < M.length):cE M (M++t.map fun n=>(o,n)) rt p=rt p:=by
 unfold cE
 rw [xK hp,if_pos (xS hp)]
 exact (h.iff _ _).2 (Cl.base (Or.inl (aBd M p)))
theorem gG.new (_h:gG M a b F rt d S) {p:Nat} (hp:M.length≤p) (hn:(aD (M.map Prod.snd++t)).named p):cE M (M++t.map fun n=>(o,n)) rt p=p:=by
 have h0:aS (M++t.map fun n=>(o,n)) p=p:=by
  obtain ⟨n,h1,h2⟩:=fY hn
  rw [←nQ M o t,List.getElem?_map] at h1
  obtain ⟨x,h3,rfl⟩:=Option.map_eq_some_iff.1 h1
  exact mP h3 h2
 unfold cE
 rw [h0,if_neg (by omega)]
theorem gG.up (h:gG M a b F rt d S) {i j:Nat} (e:rt i=rt j):cE M (M++t.map fun n=>(o,n)) rt i=cE M (M++t.map fun n=>(o,n)) rt j:=by
 by_cases hi:i < M.length
 ·by_cases hj:j < M.length
  ·rw [h.old hi,h.old hj,e]
  ·have h1:=h.forest.out j (by rw [h.lf];omega)
   have h2:=h.rt_lt hi
   omega
 ·have h1:=h.forest.out i (by rw [h.lf];omega)
  by_cases hj:j < M.length
  ·have h2:=h.rt_lt hj
   omega
  ·have h2:=h.forest.out j (by rw [h.lf];omega)
   rw [h1,h2] at e
   rw [e]
theorem gG.in (h:gG M a b F rt d S) {i j:Nat} (hi:i < M.length) (e:cE M (M++t.map fun n=>(o,n)) rt i=cE M (M++t.map fun n=>(o,n)) rt j) (hn:(aD (M.map Prod.snd++t)).named j):j < M.length∧rt i=rt j:=by
 have h1:=h.rt_lt hi
 rw [h.old hi] at e
 by_cases hj:j < M.length
 ·exact ⟨hj,by rw [h.old hj] at e;exact e⟩
 ·rw [h.new (by omega) hn] at e
  omega
theorem gG.ends (h:gG M a b F rt d S) {p:Nat} (k:bG (aD (M.map Prod.snd)) (fun i j=>rt i=rt j) p):p < M.length→bG (aD (M.map Prod.snd++t)) (fun i j=>cE M (M++t.map fun n=>(o,n)) rt i=cE M (M++t.map fun n=>(o,n)) rt j) p:=by
 induction k with
 | mk i _ ih=>
  intro hi
  refine ⟨_,fun j hj hn x hx=>?_⟩
  obtain ⟨j1,j2⟩:=h.in hi hj hn
  have hn':=qP j1 hn
  rw [mR h.whole (by simpa using j1)] at hx
  exact ih j j2 hn' x hx (aBe h.whole hn' hx)
theorem gG.exp (h:gG M a b F rt d S) {x:List Nat} {l:List Nd} (k:aO (aD (M.map Prod.snd)) (fun i j=>rt i=rt j) rt x l):(∀i∈x,i < M.length)→aO (aD (M.map Prod.snd++t)) (fun i j=>cE M (M++t.map fun n=>(o,n)) rt i=cE M (M++t.map fun n=>(o,n)) rt j) (cE M (M++t.map fun n=>(o,n)) rt) x l:=by
 induction k with
 | nil=>intro _;exact aO.nil
 | @var i r l h1 _ ih=>
  intro hx
  have hi:=hx i (by simp)
  rw [←h.old (t:=t) (o:=o) hi]
  refine aO.var (fun j hj hn=>?_) (ih fun q hq=>hx q (by simp [hq]))
  obtain ⟨j1,j2⟩:=h.in hi hj hn
  exact h1 j j2 (qP j1 hn)
 | @name i j r l h1 h2 _ ih=>
  intro hx
  obtain ⟨j1,j2,j3⟩:=pL (t:=t) h2
  rw [←j3]
  refine aO.name (h.up h1) j2 ?_
  rw [mR h.whole (by simpa using j1)]
  refine ih fun q hq=>?_
  rcases List.mem_append.1 hq with hq | hq
  ·exact aBe h.whole h2 hq
  ·exact hx q (by simp [hq])
theorem gG.add (h:gG M a b F rt d S) (ht:aI t 1=true) :
  gG (M++t.map fun n=>(o,n)) a b (F++fZ M o t t.length) (cE M (M++t.map fun n=>(o,n)) rt) (dX M (M++t.map fun n=>(o,n)) d) (S++List.replicate t.length 0):=by
 have hW1:dC (M.map Prod.snd++t):=h.whole.append (kN ht)
 have hll:(fZ M o t t.length).length=t.length:=by simp [fZ]
 have hlen:(M++t.map fun n=>(o,n)).length=M.length+t.length:=by simp
 have hF1:∀p,M.length≤p→p < M.length+t.length→(F++fZ M o t t.length)[p]?=some (aS (M++t.map fun n=>(o,n)) p):=by
  intro p h1 h2
  have:=rP (M:=M++t.map fun n=>(o,n)) (p:=p) (by rw [hlen];exact h2)
  rw [aFt,List.getElem?_append_right (by rw [kE];exact h1),kE] at this
  rw [List.getElem?_append_right (by rw [h.lf];exact h1),h.lf]
  exact this
 have hF0:∀p,p < M.length→(F++fZ M o t t.length)[p]?=F[p]?:=fun p hp=>List.getElem?_append_left (by rw [h.lf];exact hp)
 have hFl:(F++fZ M o t t.length).length=M.length+t.length:=by rw [List.length_append,hll,h.lf]
 have hle:∀p,p < M.length+t.length→aS (M++t.map fun n=>(o,n)) p < M.length+t.length:=fun p hp=>by
  have:=xS (M:=M++t.map fun n=>(o,n)) (p:=p) (by rw [hlen];exact hp)
  rwa [hlen] at this
 have hroot:∀p,eC (M++t.map fun n=>(o,n)) a b p (cE M (M++t.map fun n=>(o,n)) rt p):=by
  intro p
  have h1:eC (M++t.map fun n=>(o,n)) a b p (aS (M++t.map fun n=>(o,n)) p):=Cl.base (Or.inl (aBd _ p).symm)
  by_cases hq:aS (M++t.map fun n=>(o,n)) p < M.length
  ·have h2:eC M a b (aS (M++t.map fun n=>(o,n)) p) (rt (aS (M++t.map fun n=>(o,n)) p)):=(h.iff _ _).1 (h.forest.rt_rt _).symm
   have e:cE M (M++t.map fun n=>(o,n)) rt p=rt (aS (M++t.map fun n=>(o,n)) p):=if_pos hq
   rw [e]
   exact h1.trans (aBf h.whole h2)
  ·have e:cE M (M++t.map fun n=>(o,n)) rt p=aS (M++t.map fun n=>(o,n)) p:=if_neg hq
   rw [e]
   exact h1
 have hmod:dE (aD (M.map Prod.snd++t)) (fun i j=>cE M (M++t.map fun n=>(o,n)) rt i=cE M (M++t.map fun n=>(o,n)) rt j) fun _ _=>False:=by
  intro x y e hx hy
  by_cases hxl:x < M.length
  ·obtain ⟨hyl,e'⟩:=h.in hxl e hy
   obtain ⟨c1,c2⟩:=h.cl x y e' (qP hxl hx) (qP hyl hy)
   refine ⟨?_,fun k p q hp hq=>?_⟩
   ·rw [(pL (t:=t) (qP hxl hx)).2.2,(pL (t:=t) (qP hyl hy)).2.2]
    exact c1
   ·rw [mR h.whole (by simpa using hxl)] at hp
    rw [mR h.whole (by simpa using hyl)] at hq
    refine dO.mono (fun i j hij=>?_) (c2 k p q hp hq)
    rcases hij with hij | hij
    ·exact dO.base (Or.inl (h.up hij))
    ·exact hij.elim
  ·have hyl:¬y < M.length:=fun hyl=>hxl (h.in hyl e.symm hx).1
   have e1:=h.new (t:=t) (o:=o) (by omega) hx
   have e2:=h.new (t:=t) (o:=o) (by omega) hy
   have:x=y:=by rw [←e1,←e2];exact e
   subst this
   refine ⟨rfl,fun k p q hp hq=>?_⟩
   rw [hp] at hq
   simp at hq
   subst hq
   exact dO.refl _
 have hdone:=hmod.done (B:=fun i j=>aS (M++t.map fun n=>(o,n)) i=aS (M++t.map fun n=>(o,n)) j∨(i=a∧j=b)) (oU _) (fun i j e=>by
   have h1:=hroot i
   have h2:=hroot j
   unfold eC at h1 h2
   rw [nQ] at h1 h2
   have e':cE M (M++t.map fun n=>(o,n)) rt i=cE M (M++t.map fun n=>(o,n)) rt j:=e
   rw [e'] at h1
   exact h1.trans h2.symm) (fun i j e=>by
   rcases e with e | ⟨rfl,rfl⟩
   ·show cE M (M++t.map fun n=>(o,n)) rt i=cE M (M++t.map fun n=>(o,n)) rt j
    unfold cE
    rw [e]
   ·show cE M (M++t.map fun n=>(o,n)) rt i=cE M (M++t.map fun n=>(o,n)) rt j
    rw [h.old h.ha,h.old h.hb]
    exact (h.iff _ _).2 (Cl.base (Or.inr ⟨rfl,rfl⟩)))
 refine ⟨by rw [nQ];exact hW1,by rw [hFl,hlen],by rw [List.length_append,List.length_replicate,h.ls,hlen],⟨?_,?_,?_,?_⟩,?_,by rw [nQ];exact hmod,?_,?_,?_,by rw [hlen];have:=h.ha;omega,by rw [hlen];have:=h.hb;omega⟩
 ·intro p q hq
  have hp:=(List.getElem?_eq_some_iff.1 hq).1
  rw [hFl] at hp ⊢
  by_cases hpl:p < M.length
  ·rw [hF0 p hpl] at hq
   have:=h.forest.lt p q hq
   rw [h.lf] at this
   omega
  ·rw [hF1 p (by omega) hp] at hq
   simp at hq
   subst hq
   exact hle p hp
 ·intro p hq
  have hp:=(List.getElem?_eq_some_iff.1 hq).1
  rw [hFl] at hp
  by_cases hpl:p < M.length
  ·rw [hF0 p hpl] at hq
   rw [h.old hpl]
   exact h.forest.root p hq
  ·rw [hF1 p (by omega) hp] at hq
   simp at hq
   unfold cE
   rw [hq,if_neg (by omega)]
 ·intro p q hq hne
  have hp:=(List.getElem?_eq_some_iff.1 hq).1
  rw [hFl] at hp
  by_cases hpl:p < M.length
  ·rw [hF0 p hpl] at hq
   have hql:=h.forest.lt p q hq
   rw [h.lf] at hql
   rw [h.old hpl,h.old hql]
   unfold dX
   rw [if_pos hpl,if_pos hql]
   exact h.forest.step p q hq hne
  ·rw [hF1 p (by omega) hp] at hq
   simp at hq
   subst hq
   have hii:=aBd (M++t.map fun n=>(o,n)) p
   refine ⟨by unfold cE;rw [hii],?_⟩
   unfold dX
   rw [if_neg hpl,if_neg hne]
   by_cases hql:aS (M++t.map fun n=>(o,n)) p < M.length
   ·rw [if_pos hql,if_pos hql]
    omega
   ·rw [if_neg hql,if_pos hii,if_neg hql]
    omega
 ·intro p hp
  rw [hFl] at hp
  unfold cE
  rw [oF (M:=M++t.map fun n=>(o,n)) (by rw [hlen];exact hp),if_neg (by omega)]
 ·rw [nQ]
  intro p hp
  by_cases hpl:p < M.length
  ·rw [h.old hpl]
   exact (pL (t:=t) (h.named p (qP hpl hp))).2.1
  ·rw [h.new (by omega) hp]
   exact hp
 ·intro i j
  unfold eC
  rw [nQ]
  exact hdone.1 i j
 ·rw [nQ]
  intro p n hn
  by_cases hpl:p < S.length
  ·rw [List.getElem?_append_left hpl] at hn
   rw [h.ls] at hpl
   rcases h.sz p n hn with e | e | ⟨e1,l,e2,e3⟩
   ·exact Or.inl e
   ·exact Or.inr (Or.inl e)
   ·exact Or.inr (Or.inr ⟨h.ends e1 hpl,l,h.exp e2 (by simpa using hpl),e3⟩)
  ·rw [List.getElem?_append_right (by omega)] at hn
   have:=(List.getElem?_eq_some_iff.1 hn).2
   simp at this
   exact Or.inl this.symm
 ·intro r hr
  by_cases hpl:r < S.length
  ·rw [List.getElem?_append_left hpl] at hr
   exact h.none r hr
  ·rw [List.getElem?_append_right (by omega)] at hr
   have:=(List.getElem?_eq_some_iff.1 hr).2
   simp at this
end
def lS (V:Int→Int→Prop) (x y:Lt):Prop:=x.1=y.1∧aK (fJ V) x.2 y.2
section
variable {V:Int→Int→Prop}
theorem xT {n:Nd} (h:aG n=true):n.1=⟨#[]⟩:=by
 obtain ⟨s,x⟩:=n
 obtain ⟨a⟩:=s
 have h1:(⟨a⟩ : ByteArray).toList=[]:=by simpa [aG] using h
 rw [ByteArray.toList_eq] at h1
 have h2:a=#[]:=by
  apply Array.ext'
  exact h1
 rw [h2]
theorem aSq (hV:jJ V) {n m n' m':Nd} (h:fJ V n m) (h':fJ V n' m'):n=n'↔m=m':=by
 rcases h with ⟨a1,a2,a3,a4⟩ | ⟨a1,rfl⟩
 ·rcases h' with ⟨b1,b2,b3,b4⟩ | ⟨b1,rfl⟩
  ·have e1:=xT a1
   have e2:=xT a2
   have e3:=xT b1
   have e4:=xT b2
   have:=hV _ _ _ _ a4 b4
   constructor
   ·intro e
    exact Prod.ext (by rw [e2,e4]) (this.1 (by rw [e]))
   ·intro e
    exact Prod.ext (by rw [e1,e3]) (this.2 (by rw [e]))
  ·constructor
   ·intro e;rw [e,b1] at a1;cases a1
   ·intro e;rw [e,b1] at a2;cases a2
 ·rcases h' with ⟨b1,b2,b3,b4⟩ | ⟨b1,rfl⟩
  ·constructor
   ·intro e;rw [←e,a1] at b1;cases b1
   ·intro e;rw [←e,a1] at b2;cases b2
  ·exact Iff.rfl
theorem aSr (hV:jJ V) {l m:List Nd} (h:aK (fJ V) l m):∀{l' m':List Nd},aK (fJ V) l' m'→(l=l'↔m=m'):=by
 induction h with
 | nil=>
  intro l' m' h'
  cases h' with
  | nil=>simp
  | cons _ _=>simp
 | cons a _ ih=>
  intro l' m' h'
  cases h' with
  | nil=>simp
  | cons b k=>
   rw [List.cons.injEq,List.cons.injEq,aSq hV a b,ih k]
theorem aSs (hV:jJ V) {x y x' y':Lt} (h:lS V x y) (h':lS V x' y'):x=x'↔y=y':=by
 have:=aSr hV h.2 h'.2
 constructor
 ·intro e
  exact Prod.ext (by rw [←h.1,←h'.1,e]) (this.1 (by rw [e]))
 ·intro e
  exact Prod.ext (by rw [h.1,h'.1,e]) (this.2 (by rw [e]))
theorem aSt (hV:jJ V) {c c':List Lt} (h:aK (lS V) c c') {x x':Lt} (hx:lS V x x'):eR c x=eR c' x':=by
 induction h with
 | nil=>rfl
 | cons a _ ih=>
  simp only [eR,List.any_cons] at ih ⊢
  rw [ih]
  congr 1
  exact decide_eq_decide.2 (aSs hV a hx)
theorem aSu (hV:jJ V) {c c':List Lt} (h:aK (lS V) c c'):aK (lS V) (cH c) (cH c'):=by
 suffices ∀{c c':List Lt},aK (lS V) c c'→∀{acc acc':List Lt},aK (lS V) acc acc'→aK (lS V) (c.foldl dY acc) (c'.foldl dY acc') from this h aK.nil
 intro c c' h
 induction h with
 | nil=>intro acc acc' ha;exact ha
 | cons a _ ih=>
  intro acc acc' ha
  simp only [List.foldl_cons]
  refine ih ?_
  unfold dY
  rw [aSt hV ha a]
  split
  ·exact ha
  ·exact ha.snoc a
theorem aSv (hV:jJ V) {c c':List Lt} (h:aK (lS V) c c'):(cX c).1=(cX c').1:=by
 suffices ∀{c c':List Lt},aK (lS V) c c'→∀{st st':List Lt×List Int},st.1=st'.1→aK V st.2 st'.2→(c.foldl dM st).1=(c'.foldl dM st').1 from this h rfl aK.nil
 intro c c' h
 induction h with
 | nil=>intro st st' h1 _;exact h1
 | cons a _ ih=>
  intro st st' h1 h2
  simp only [List.foldl_cons]
  have hr:=xM hV a.2 h2
  refine ih ?_ hr.2
  simp only [dM]
  rw [h1,a.1,hr.1]
theorem aSw (hV:jJ V) {c c':List Lt} (h:aK (lS V) c c'):aT c=aT c':=aSv hV (aSu hV h)
end
def bE (rest:List (Int×Lt)):List Tg:=rest.flatMap fun r=>r.2.2.map fun n=>(r.1,n)
def dK:Nat→List (Int×Lt)→List Nat
 | _,[]=>[]
 | n,r :: rs=>n :: dK (n+r.2.2.length) rs
def cG (rest:List (Int×Lt)) (ls:List (List Nd)):List Lt:=List.zipWith (fun r l=>(r.2.1,l)) rest ls
def uX (M:List Tg) (a b:Nat):Prop:=fK (aD (M.map Prod.snd)) (eC M a b)∧∀p,p < M.length→bG (aD (M.map Prod.snd)) (eC M a b) p
def gZ (M0:List Tg) (a b:Nat) (rest:List (Int×Lt)) (out:List Lt) (yes:Bool) (e:Int):Prop:=
 (¬uX (M0++bE rest) a b∧out=[]∧yes=false∧e=0)∨
 (uX (M0++bE rest) a b∧∃(rep:Nat→Nat) (ls:List (List Nd)),(∀p q,rep p=rep q↔eC (M0++bE rest) a b p q)∧aK (fun p l=>aO (aD ((M0++bE rest).map Prod.snd)) (eC (M0++bE rest) a b) rep [p] l) (dK M0.length rest) ls∧
  ((500 < aP (aT (cG rest ls))∧out=[]∧yes=false∧e=4)∨(aP (aT (cG rest ls))≤500∧out=aT (cG rest ls)∧yes=true∧e=0)))
theorem aH6:∀(n:Nat) (rest:List (Int×Lt)),(dK n rest).length=rest.length
 | _,[]=>rfl
 | n,r :: rs=>by simp [dK,aH6 _ rs]
theorem aSx {G:Gr} {R:Nat→Nat→Prop} {rp rd:Nat→Nat} {x:List Nat} {l:List Nd} (e:aO G R rp x l):∃m,aO G R rd x m∧aK (fJ fun a b=>∃p,a=(rp p:Int)∧b=(rd p:Int)) l m:=by
 induction e with
 | nil=>exact ⟨[],aO.nil,aK.nil⟩
 | @var i r l h1 _ ih=>
  obtain ⟨m,a,b⟩:=ih
  exact ⟨_,aO.var h1 a,aK.cons (Or.inl ⟨nN _,nN _,rfl,i,rfl,rfl⟩) b⟩
 | @name i j r l h1 h2 _ ih=>
  obtain ⟨m,a,b⟩:=ih
  exact ⟨_,aO.name h1 h2 a,aK.cons (Or.inr ⟨h2,rfl⟩) b⟩
theorem aH7 {V:Int→Int→Prop}:∀(rest:List (Int×Lt)) {ls ms:List (List Nd)},aK (fun l m=>aK (fJ V) l m) ls ms→aK (lS V) (cG rest ls) (cG rest ms)
 | [],_,_,_=>aK.nil
 | _ :: _,_,_,aK.nil=>aK.nil
 | _ :: rs,_,_,aK.cons a h=>aK.cons ⟨rfl,a⟩ (aH7 rs h)
theorem aBg {M0:List Tg} {a b:Nat} {rest:List (Int×Lt)} {out out':List Lt} {y y':Bool} {e e':Int} (h:gZ M0 a b rest out y e) (h':gZ M0 a b rest out' y' e'):out=out'∧y=y'∧e=e':=by
 rcases h with ⟨h1,rfl,rfl,rfl⟩ | ⟨h1,rep,ls,hr,hl,h2⟩
 ·rcases h' with ⟨_,rfl,rfl,rfl⟩ | ⟨h1',_⟩
  ·exact ⟨rfl,rfl,rfl⟩
  ·exact absurd h1' h1
 ·rcases h' with ⟨h1',_⟩ | ⟨_,rep',ls',hr',hl',h2'⟩
  ·exact absurd h1 h1'
  ·have hD:gD (aD ((M0++bE rest).map Prod.snd)) (eC (M0++bE rest) a b):=Cl.isDown _ _
   have hV:jJ fun x y=>∃p,x=(rep p:Int)∧y=(rep' p:Int):=by
    rintro x y x' y' ⟨p,rfl,rfl⟩ ⟨q,rfl,rfl⟩
    constructor
    ·intro e
     have:rep' p=rep' q:=(hr' _ _).2 ((hr p q).1 (by omega))
     omega
    ·intro e
     have:rep p=rep q:=(hr _ _).2 ((hr' p q).1 (by omega))
     omega
   have hls:aK (fun l m=>aK (fJ fun x y=>∃p,x=(rep p:Int)∧y=(rep' p:Int)) l m) ls ls':=by
    have key:∀{x:List Nat} {ls ls':List (List Nd)},aK (fun p l=>aO (aD ((M0++bE rest).map Prod.snd)) (eC (M0++bE rest) a b) rep [p] l) x ls→aK (fun p l=>aO (aD ((M0++bE rest).map Prod.snd)) (eC (M0++bE rest) a b) rep' [p] l) x ls'→aK (fun l m=>aK (fJ fun x y=>∃p,x=(rep p:Int)∧y=(rep' p:Int)) l m) ls ls':=by
     intro x ls ls' h
     induction h generalizing ls' with
     | nil=>intro h';cases h';exact aK.nil
     | cons c _ ih=>
      intro h'
      cases h' with
      | cons c' k=>
       refine aK.cons ?_ (ih k)
       obtain ⟨m,d1,d2⟩:=aSx (rd:=rep') c
       have:=aO.one hD h1.1 (oT _) (fun i j e=>(hr' i j).2 e) d1 _ c'
       subst this
       exact d2
    exact key hl hl'
   have ho:=aSw hV (aH7 rest hls)
   rw [←ho] at h2'
   rcases h2 with ⟨c1,rfl,rfl,rfl⟩ | ⟨c1,rfl,rfl,rfl⟩
   ·rcases h2' with ⟨_,rfl,rfl,rfl⟩ | ⟨c2,_⟩
    ·exact ⟨rfl,rfl,rfl⟩
    ·omega
   ·rcases h2' with ⟨c2,_⟩ | ⟨_,rfl,rfl,rfl⟩
    ·omega
    ·exact ⟨rfl,rfl,rfl⟩
section
variable {M:List Tg} {o:Int} {t:List Nd} {a b:Nat} {F:List Nat} {rt d:Nat→Nat} {S:List Int}
theorem gG.endsAll (h:gG M a b F rt d S) (ht:aI t 1=true) (hall:∀p,p < M.length→bG (aD (M.map Prod.snd)) (fun i j=>rt i=rt j) p) :
  ∀(k p:Nat),p+k=M.length+t.length→bG (aD (M.map Prod.snd++t)) (fun i j=>cE M (M++t.map fun n=>(o,n)) rt i=cE M (M++t.map fun n=>(o,n)) rt j) p:=by
 have hW1:dC (M.map Prod.snd++t):=h.whole.append (kN ht)
 intro k
 induction k using Nat.strongRecOn with
 | _ k ih=>
  intro p hp
  by_cases hpl:p < M.length
  ·exact h.ends (hall p hpl) hpl
  ·refine ⟨_,fun j hj hn x hx=>?_⟩
   have hj':cE M (M++t.map fun n=>(o,n)) rt p=cE M (M++t.map fun n=>(o,n)) rt j:=hj
   by_cases hjl:j < M.length
   ·have hn':=qP hjl hn
    rw [mR h.whole (by simpa using hjl)] at hx
    have hxl:=aBe h.whole hn' hx
    exact h.ends (hall x hxl) hxl
   ·rw [h.new (by omega) hn] at hj'
    obtain ⟨nj,hj1,hj2⟩:=fY hn
    have hjp:j=p:=by
     unfold cE at hj'
     split at hj'
     ·rename_i hq
      have:=h.rt_lt hq
      omega
     ·rw [←nQ M o t,List.getElem?_map] at hj1
      obtain ⟨y,hy,rfl⟩:=Option.map_eq_some_iff.1 hj1
      cases hm:(M++t.map fun n=>(o,n))[p]? with
      | none=>rw [oF (by simpa using (List.getElem?_eq_none_iff.1 hm))] at hj';exact hj'.symm
      | some z=>
       cases hv:aG z.2 with
       | false=>rw [mP hm hv] at hj';exact hj'.symm
       | true=>
        obtain ⟨_,_,s,e3,e4,_⟩:=mQ hm hv
        rw [hj',hy] at e3
        simp at e3
        subst e3
        rw [e4] at hj2
        cases hj2
    subst hjp
    rw [eP hj1] at hx
    have h4:=rG _ _ _ (hW1 j _ hj1) x hx
    have hjlt:j < (M.map Prod.snd++t).length:=(List.getElem?_eq_some_iff.1 hj1).1
    have h5:aF ((M.map Prod.snd++t).drop j) 1≤((M.map Prod.snd++t).drop j).length:=lK _ _
    rw [List.drop_eq_getElem_cons hjlt,(List.getElem?_eq_some_iff.1 hj1).2] at h5
    simp [aF] at h5
    simp at hjlt
    exact ih (M.length+t.length - x) (by omega) x (by omega)
end
end Go.Proofs.YthicbnejchpmgaaGreatDoor
namespace Go.Proofs.YthicbnejchpmgaaGreatDoor
open Go.RowKit Go.Shelf Go.WideMaps
set_option maxRecDepth 100000
theorem aSy {w:World} {mp:Nat} (h:w.heap[mp]?=some (.map #[] 0)):w.ownsMap Tryz.prog 100 eT mp 0 (.map []):=by
 have hl:=(Array.getElem?_eq_some_iff.1 h).1
 have hm:(World.alloc {w with heap:=w.heap.extract 0 mp} (.map #[] 0)).ownsMap Tryz.prog 100 eT ({w with heap:=w.heap.extract 0 mp}:World).heap.size 0 (.map []):=World.ownsMap_made _ _ _ _
 have hsz:({w with heap:=w.heap.extract 0 mp}:World).heap.size=mp:=by simp;omega
 rw [hsz] at hm
 refine aB2 hm ?_
 rw [h]
 have:=heap_alloc_new ({w with heap:=w.heap.extract 0 mp}:World) (.map #[] 0)
 rw [hsz] at this
 exact this.symm
theorem xU {W:World} {B k n size:Nat} {c:Array Value} {e:TypeId} (hB:B≤k) (h:W.heap[k]?=some (.cells c e)) (hc:c.size=n * size) (hn:n≤1000000):W.ownsRow B e size (.slice (some ⟨k,0,none⟩) 0 n) 0 []:=
 ⟨by simp,Or.inr ⟨k,n,c,rfl,hB,h,Nat.zero_le _,by unfold maxLen;omega,hc,by simp⟩⟩
structure xV (w:World) (tb mp:Nat) (vn ve vl vs:Value) (w':World):Prop where
 tm:bT w' w.heap.size tb vn ve vl vs (.map (some mp)) [] [] [] []
 first:fE w' mp []
 low:Below w.heap.size w w'
 ne:mp≠tb
 mlow:w.heap.size≤mp
theorem aSz {w W:World} {n k1 k2 k3 k4 km tb:Nat} {c1 c2:Array Value} (hn:n≤1000000) (hs1:c1.size=n * 2) (hs2:c2.size=n * 1) (hb:Below w.heap.size w W) (h1:W.heap[k1]?=some (.cells c1 28)) (h2:W.heap[k2]?=some (.cells c2 3)) (h3:W.heap[k3]?=some (.cells c2 3)) (h4:W.heap[k4]?=some (.cells c2 3)) (hm:W.heap[km]?=some (.map #[] 0))
  (ht:W.heap[tb]?=some (.cells #[.slice (some ⟨k1,0,none⟩) 0 n,.slice (some ⟨k2,0,none⟩) 0 n,.slice (some ⟨k3,0,none⟩) 0 n,.slice (some ⟨k4,0,none⟩) 0 n,.map (some km)] 60))
  (l1:w.heap.size≤k1∧w.heap.size≤k2∧w.heap.size≤k3∧w.heap.size≤k4∧w.heap.size≤km∧w.heap.size≤tb) (l2:k2≠k3∧k2≠k4∧k3≠k4∧km≠tb) :
  xV w tb km (.slice (some ⟨k1,0,none⟩) 0 n) (.slice (some ⟨k2,0,none⟩) 0 n) (.slice (some ⟨k3,0,none⟩) 0 n) (.slice (some ⟨k4,0,none⟩) 0 n) W:=by
 obtain ⟨a1,a2,a3,a4,a5,a6⟩:=l1
 obtain ⟨b1,b2,b3,b4⟩:=l2
 refine ⟨⟨ht,a6,xU a1 h1 hs1 hn,xU a2 h2 hs2 hn,xU a3 h3 hs2 hn,xU a4 h4 hs2 hn,?_,?_,?_,?_,?_,?_⟩,⟨0,.map [],aSy hm,lP.start,Nat.le_refl _⟩,hb,b4,a5⟩
 all_goals simp [Value.ownBlock]
 all_goals assumption
abbrev Ob:=Option Nat
def vS (n:Nat):Ob→Value
 | some k=>.slice (some ⟨k,0,none⟩) 0 n
 | none=>undef
def vM:Ob→Value
 | some k=>.map (some k)
 | none=>undef
def aH8 (o1 o2 o3 o4 o5:Ob):Array Bool:=#[true,o1.isSome,true,o2.isSome,true,o3.isSome,true,o4.isSome,o5.isSome,false,false,false]
def mX (n:Nat) (o1 o2 o3 o4 o5:Ob):Act:={tmps:=#[.int .i64 n,undef,.pointer none,.int .i64 n,vS n o1,.int .i64 n,vS n o2,.int .i64 n,vS n o3,.int .i64 n,vS n o4,vM o5,undef,undef],defers:=[]}
def pM (b1 b2 b3 b4 b5:Bool):List Nat:=(if b1 then [] else [1])++(if b2 then [] else [3])++(if b3 then [] else [5])++(if b4 then [] else [7])++(if b5 then [] else [8])
def oH (o1 o2 o3 o4 o5:Ob):List Nat:=pM o1.isSome o2.isSome o3.isSome o4.isSome o5.isSome
structure eY (w:World) (c1 c2:Array Value) (o1 o2 o3 o4 o5:Ob) (W:World):Prop where
 low:Below w.heap.size w W
 h1:∀k,o1=some k→w.heap.size≤k∧W.heap[k]?=some (.cells c1 28)
 h2:∀k,o2=some k→w.heap.size≤k∧W.heap[k]?=some (.cells c2 3)
 h3:∀k,o3=some k→w.heap.size≤k∧W.heap[k]?=some (.cells c2 3)
 h4:∀k,o4=some k→w.heap.size≤k∧W.heap[k]?=some (.cells c2 3)
 h5:∀k,o5=some k→w.heap.size≤k∧W.heap[k]?=some (.map #[] 0)
 n23:∀k,o2=some k→o3≠some k
 n24:∀k,o2=some k→o4≠some k
 n34:∀k,o3=some k→o4≠some k
section
variable {w W:World} {c1 c2:Array Value} {o1 o2 o3 o4 o5:Ob}
theorem eY.start (h:Below w.heap.size w W):eY w c1 c2 none none none none none W:=⟨h,(fun _ e=>nomatch e),(fun _ e=>nomatch e),(fun _ e=>nomatch e),(fun _ e=>nomatch e),(fun _ e=>nomatch e),(fun _ e=>nomatch e),(fun _ e=>nomatch e),(fun _ e=>nomatch e)⟩
theorem eY.lt (h:eY w c1 c2 o1 o2 o3 o4 o5 W):(o1≠some W.heap.size∧o2≠some W.heap.size)∧o3≠some W.heap.size∧o4≠some W.heap.size∧o5≠some W.heap.size:=by
 refine ⟨⟨fun e=>?_,fun e=>?_⟩,fun e=>?_,fun e=>?_,fun e=>?_⟩
 ·have:=(Array.getElem?_eq_some_iff.1 (h.h1 _ e).2).1;omega
 ·have:=(Array.getElem?_eq_some_iff.1 (h.h2 _ e).2).1;omega
 ·have:=(Array.getElem?_eq_some_iff.1 (h.h3 _ e).2).1;omega
 ·have:=(Array.getElem?_eq_some_iff.1 (h.h4 _ e).2).1;omega
 ·have:=(Array.getElem?_eq_some_iff.1 (h.h5 _ e).2).1;omega
theorem uY {x y:Obj} {k:Nat} (h:W.heap[k]?=some x):(W.alloc y).heap[k]?=some x:=by
 rw [heap_alloc_old W y (Array.getElem?_eq_some_iff.1 h).1,h]
theorem eY.alloc (h:eY w c1 c2 o1 o2 o3 o4 o5 W) (x:Obj):eY w c1 c2 o1 o2 o3 o4 o5 (W.alloc x):=
 ⟨h.low.alloc h.low.size x,fun k e=>⟨(h.h1 k e).1,uY (h.h1 k e).2⟩,fun k e=>⟨(h.h2 k e).1,uY (h.h2 k e).2⟩,fun k e=>⟨(h.h3 k e).1,uY (h.h3 k e).2⟩,fun k e=>⟨(h.h4 k e).1,uY (h.h4 k e).2⟩,fun k e=>⟨(h.h5 k e).1,uY (h.h5 k e).2⟩,h.n23,h.n24,h.n34⟩
theorem eY.s1 (h:eY w c1 c2 o1 o2 o3 o4 o5 W):eY w c1 c2 (some W.heap.size) o2 o3 o4 o5 (W.alloc (.cells c1 28)):=by
 have k:=h.alloc (.cells c1 28)
 exact ⟨k.low,fun j e=>by simp at e;subst e;exact ⟨h.low.size,heap_alloc_new _ _⟩,k.h2,k.h3,k.h4,k.h5,k.n23,k.n24,k.n34⟩
theorem eY.s2 (h:eY w c1 c2 o1 o2 o3 o4 o5 W):eY w c1 c2 o1 (some W.heap.size) o3 o4 o5 (W.alloc (.cells c2 3)):=by
 have k:=h.alloc (.cells c2 3)
 exact ⟨k.low,k.h1,fun j e=>by simp at e;subst e;exact ⟨h.low.size,heap_alloc_new _ _⟩,k.h3,k.h4,k.h5,fun j e=>by simp at e;subst e;exact h.lt.2.1,fun j e=>by simp at e;subst e;exact h.lt.2.2.1,k.n34⟩
theorem eY.s3 (h:eY w c1 c2 o1 o2 o3 o4 o5 W):eY w c1 c2 o1 o2 (some W.heap.size) o4 o5 (W.alloc (.cells c2 3)):=by
 have k:=h.alloc (.cells c2 3)
 exact ⟨k.low,k.h1,k.h2,fun j e=>by simp at e;subst e;exact ⟨h.low.size,heap_alloc_new _ _⟩,k.h4,k.h5,fun j e e'=>by simp at e';subst e';exact h.lt.1.2 e,k.n24,fun j e=>by simp at e;subst e;exact h.lt.2.2.1⟩
theorem eY.s4 (h:eY w c1 c2 o1 o2 o3 o4 o5 W):eY w c1 c2 o1 o2 o3 (some W.heap.size) o5 (W.alloc (.cells c2 3)):=by
 have k:=h.alloc (.cells c2 3)
 exact ⟨k.low,k.h1,k.h2,k.h3,fun j e=>by simp at e;subst e;exact ⟨h.low.size,heap_alloc_new _ _⟩,k.h5,k.n23,fun j e e'=>by simp at e';subst e';exact h.lt.1.2 e,fun j e e'=>by simp at e';subst e';exact h.lt.2.1 e⟩
theorem eY.s5 (h:eY w c1 c2 o1 o2 o3 o4 o5 W):eY w c1 c2 o1 o2 o3 o4 (some W.heap.size) (W.alloc (.map #[] 0)):=by
 have k:=h.alloc (.map #[] 0)
 exact ⟨k.low,k.h1,k.h2,k.h3,k.h4,fun j e=>by simp at e;subst e;exact ⟨h.low.size,heap_alloc_new _ _⟩,k.n23,k.n24,k.n34⟩
end
def rS (o1 o2 o3 o4 o5:Ob):Nat:=(oH o1 o2 o3 o4 o5).length
theorem aT0 {n:Nat} {c1 c2:Array Value} {w:World} {ops:Array Oper} {Q:Exit→Act→World→Prop} {q1 q2 q3 q4 q5:Oper}
  (e1:ops[1]?=some q1) (e2:ops[3]?=some q2) (e3:ops[5]?=some q3) (e4:ops[7]?=some q4) (e5:ops[8]?=some q5)
  (g:q1.guard=none∧q2.guard=none∧q3.guard=none∧q4.guard=none∧q5.guard=none) (d:q1.dst=some 4∧q2.dst=some 6∧q3.dst=some 8∧q4.dst=some 10∧q5.dst=some 11)
  (r1:∀(o1 o2 o3 o4 o5:Ob) (W:World),(execOp (mX n o1 o2 o3 o4 o5).eval q1).run Tryz.prog W=.ok (.value (.slice (some ⟨W.heap.size,0,none⟩) 0 n)) (W.alloc (.cells c1 28)))
  (r2:∀(o1 o2 o3 o4 o5:Ob) (W:World),(execOp (mX n o1 o2 o3 o4 o5).eval q2).run Tryz.prog W=.ok (.value (.slice (some ⟨W.heap.size,0,none⟩) 0 n)) (W.alloc (.cells c2 3)))
  (r3:∀(o1 o2 o3 o4 o5:Ob) (W:World),(execOp (mX n o1 o2 o3 o4 o5).eval q3).run Tryz.prog W=.ok (.value (.slice (some ⟨W.heap.size,0,none⟩) 0 n)) (W.alloc (.cells c2 3)))
  (r4:∀(o1 o2 o3 o4 o5:Ob) (W:World),(execOp (mX n o1 o2 o3 o4 o5).eval q4).run Tryz.prog W=.ok (.value (.slice (some ⟨W.heap.size,0,none⟩) 0 n)) (W.alloc (.cells c2 3)))
  (r5:∀(o1 o2 o3 o4 o5:Ob) (W:World),(execOp (mX n o1 o2 o3 o4 o5).eval q5).run Tryz.prog W=.ok (.value (.map (some W.heap.size))) (W.alloc (.map #[] 0)))
  (hr:∀(b1 b2 b3 b4 b5:Bool),(b1 && b2 && b3 && b4 && b5)=false→Region.ready .any ops #[true,b1,true,b2,true,b3,true,b4,b5,false,false,false]=pM b1 b2 b3 b4 b5)
  (hend:∀(k1 k2 k3 k4 k5:Nat) (W:World),eY w c1 c2 (some k1) (some k2) (some k3) (some k4) (some k5) W→wpAny Tryz.prog .any ops Q 3 (aH8 (some k1) (some k2) (some k3) (some k4) (some k5)) (mX n (some k1) (some k2) (some k3) (some k4) (some k5)) W) :
  ∀(m:Nat) (o1 o2 o3 o4 o5:Ob) (W:World),rS o1 o2 o3 o4 o5=m→eY w c1 c2 o1 o2 o3 o4 o5 W→wpAny Tryz.prog .any ops Q (m+3) (aH8 o1 o2 o3 o4 o5) (mX n o1 o2 o3 o4 o5) W:=by
 obtain ⟨g1,g2,g3,g4,g5⟩:=g
 obtain ⟨d1,d2,d3,d4,d5⟩:=d
 intro m
 induction m with
 | zero=>
  intro o1 o2 o3 o4 o5 W hm hI
  have h0:=List.eq_nil_of_length_eq_zero hm
  cases o1 <;> cases o2 <;> cases o3 <;> cases o4 <;> cases o5 <;> first | (simp [oH,pM] at h0;done) | exact hend _ _ _ _ _ _ hI
 | succ m ih=>
  intro o1 o2 o3 o4 o5 W hm hI
  have hne:oH o1 o2 o3 o4 o5≠[]:=fun e=>by unfold rS at hm;rw [e] at hm;simp at hm
  rw [show m+1+3=(m+3)+1 by omega]
  refine wpAny_all (rs:=oH o1 o2 o3 o4 o5) (hr _ _ _ _ _ (by cases o1 <;> cases o2 <;> cases o3 <;> cases o4 <;> cases o5 <;> first | rfl | exact absurd rfl hne)) hne fun i hi=>?_
  have hi':(i=1∧o1=none)∨(i=3∧o2=none)∨(i=5∧o3=none)∨(i=7∧o4=none)∨(i=8∧o5=none):=by
   clear hr hend ih r1 r2 r3 r4 r5
   cases o1 <;> cases o2 <;> cases o3 <;> cases o4 <;> cases o5 <;> simp [oH,pM] at hi ⊢ <;> omega
  rcases hi' with ⟨rfl,rfl⟩ | ⟨rfl,rfl⟩ | ⟨rfl,rfl⟩ | ⟨rfl,rfl⟩ | ⟨rfl,rfl⟩
  ·refine sV e1 g1 (r1 _ _ _ _ _ W) ?_
   rw [d1]
   exact ih (some W.heap.size) o2 o3 o4 o5 _ (by unfold rS oH pM at *;simp at *;omega) hI.s1
  ·refine sV e2 g2 (r2 _ _ _ _ _ W) ?_
   rw [d2]
   exact ih o1 (some W.heap.size) o3 o4 o5 _ (by unfold rS oH pM at *;simp at *;omega) hI.s2
  ·refine sV e3 g3 (r3 _ _ _ _ _ W) ?_
   rw [d3]
   exact ih o1 o2 (some W.heap.size) o4 o5 _ (by unfold rS oH pM at *;simp at *;omega) hI.s3
  ·refine sV e4 g4 (r4 _ _ _ _ _ W) ?_
   rw [d4]
   exact ih o1 o2 o3 (some W.heap.size) o5 _ (by unfold rS oH pM at *;simp at *;omega) hI.s4
  ·refine sV e5 g5 (r5 _ _ _ _ _ W) ?_
   rw [d5]
   exact ih o1 o2 o3 o4 (some W.heap.size) _ (by unfold rS oH pM at *;simp at *;omega) hI.s5
set_option maxHeartbeats 4000000 in
theorem aBh (n:Nat) (hn:n≤1000000) (w:World) :
  Calls Tryz.prog 12 #[.int .i64 n] w fun e w'=>∃tb mp vn ve vl vs,e=.returned (.pointer (some ⟨tb,0,none⟩))∧xV w tb mp vn ve vl vs w':=by
 obtain ⟨iN,hN,hN0,hN1,hN2⟩:=info_parts nY
 obtain ⟨iI,hI,hI0,hI1,hI2⟩:=info_parts qY
 have hmm:=@run_makeMap Tryz.prog
 obtain ⟨c1,hc1,hmk1⟩ : ∃c1:Array Value,c1.size=n * 2∧∀w:World,(Instr.makeSlice 22 (.int .i64 0) (.int .i64 n)).run Tryz.prog w=.ok (.slice (some ⟨w.heap.size,0,none⟩) 0 n) (w.alloc (.cells c1 28)):=
  ⟨madeCells (Value.agg #[.string ⟨#[]⟩,.int .i64 0]).cells (n * iN.size),by rw [size_madeCells,hN1],fun w=>by
   have:=run_make (P:=Tryz.prog) w 22 28 iN _ Tryz.underlying22 hN hN0 .i64 .i64 0 n (Int.le_refl _) (by omega) (by rw [hN2];omega) (by omega)
   simpa using this⟩
 obtain ⟨c2,hc2,hmk2⟩ : ∃c2:Array Value,c2.size=n * 1∧∀w:World,(Instr.makeSlice 31 (.int .i64 0) (.int .i64 n)).run Tryz.prog w=.ok (.slice (some ⟨w.heap.size,0,none⟩) 0 n) (w.alloc (.cells c2 3)):=
  ⟨madeCells (Value.int .i64 0).cells (n * iI.size),by rw [size_madeCells,hI1],fun w=>by
   have:=run_make (P:=Tryz.prog) w 31 3 iI _ Tryz.underlying31 hI hI0 .i64 .i64 0 n (Int.le_refl _) (by omega) (by rw [hI2];omega) (by omega)
   simpa using this⟩
 have HC1:=aA hc1
 have HC2:=aA hc2
 clear hN hN0 hN1 hN2 hI hI0 hI1 hI2 hc1 hc2
 go_enter Tryz.func12,Tryz.ntmps12
 go_upto_region 1 with (fail)
 refine wp_region_any (by kernel_rfl) ?_
 refine wpAny_take (i:=0) (v:=.int .i64 n) rfl (by kernel_rfl) (by kernel_rfl) (by kernel_rfl) (fun _ _ _ h=>h) (Or.inl ⟨by rfl,fun w=>rfl⟩) ?_
 refine wpAny_take (i:=2) (v:=.int .i64 n) rfl (by kernel_rfl) (by kernel_rfl) (by kernel_rfl) (fun _ _ _ h=>h) (Or.inl ⟨by rfl,fun w=>rfl⟩) ?_
 refine wpAny_take (i:=4) (v:=.int .i64 n) rfl (by kernel_rfl) (by kernel_rfl) (by kernel_rfl) (fun _ _ _ h=>h) (Or.inl ⟨by rfl,fun w=>rfl⟩) ?_
 refine wpAny_take (i:=6) (v:=.int .i64 n) rfl (by kernel_rfl) (by kernel_rfl) (by kernel_rfl) (fun _ _ _ h=>h) (Or.inl ⟨by rfl,fun w=>rfl⟩) ?_
 refine aT0 (w:=w) (c1:=c1) (c2:=c2) (n:=n) rfl rfl rfl rfl rfl ⟨rfl,rfl,rfl,rfl,rfl⟩ ⟨rfl,rfl,rfl,rfl,rfl⟩ ?_ ?_ ?_ ?_ ?_ ?_ ?_ 5 none none none none none _ rfl ?_
 ·intro o1 o2 o3 o4 o5 W;simp [execOp,mX,Act.eval,hmk1]
 ·intro o1 o2 o3 o4 o5 W;simp [execOp,mX,Act.eval,hmk2]
 ·intro o1 o2 o3 o4 o5 W;simp [execOp,mX,Act.eval,hmk2]
 ·intro o1 o2 o3 o4 o5 W;simp [execOp,mX,Act.eval,hmk2]
 ·intro o1 o2 o3 o4 o5 W;simp [execOp,mX,hmm]
 ·intro b1 b2 b3 b4 b5 h
  cases b1 <;> cases b2 <;> cases b3 <;> cases b4 <;> cases b5 <;> first | (cases h;done) | kernel_rfl
 ·intro k1 k2 k3 k4 k5 W hI
  change wpAny Tryz.prog .any _ _ 3 #[true,true,true,true,true,true,true,true,true,false,false,false] {tmps:=#[.int .i64 n,undef,.pointer none,.int .i64 n,.slice (some ⟨k1,0,none⟩) 0 n,.int .i64 n,.slice (some ⟨k2,0,none⟩) 0 n,.int .i64 n,.slice (some ⟨k3,0,none⟩) 0 n,.int .i64 n,.slice (some ⟨k4,0,none⟩) 0 n,.map (some k5),undef,undef],defers:=[]} W
  refine wpAny_take (i:=9) (v:=.agg #[.slice (some ⟨k1,0,none⟩) 0 n,.slice (some ⟨k2,0,none⟩) 0 n,.slice (some ⟨k3,0,none⟩) 0 n,.slice (some ⟨k4,0,none⟩) 0 n,.map (some k5)]) rfl (by kernel_rfl) (by kernel_rfl) (by kernel_rfl) (fun _ _ _ h=>h) (Or.inl ⟨by rfl,fun w=>by go_simp⟩) ?_
  refine wpAny_all (rs:=[10]) (by kernel_rfl) (by simp) fun i hi=>?_
  obtain rfl:i=10:=by simpa using hi
  refine sV (v:=.pointer (some ⟨W.heap.size,0,none⟩)) (w':=W.alloc (.cells #[.slice (some ⟨k1,0,none⟩) 0 n,.slice (some ⟨k2,0,none⟩) 0 n,.slice (some ⟨k3,0,none⟩) 0 n,.slice (some ⟨k4,0,none⟩) 0 n,.map (some k5)] 60)) rfl rfl (by rfl) ?_
  refine wpAny_take (i:=11) (v:=.pointer (some ⟨W.heap.size,0,none⟩)) rfl (by kernel_rfl) (by kernel_rfl) (by kernel_rfl) (fun _ _ _ h=>h) (Or.inl ⟨by rfl,fun w=>by rfl⟩) ?_
  refine wpAny_done (by kernel_rfl) ?_ _
  have hI':=hI.alloc (.cells #[.slice (some ⟨k1,0,none⟩) 0 n,.slice (some ⟨k2,0,none⟩) 0 n,.slice (some ⟨k3,0,none⟩) 0 n,.slice (some ⟨k4,0,none⟩) 0 n,.map (some k5)] 60)
  have HN:=aA (aSz (tb:=W.heap.size) hn HC1.out HC2.out hI'.low (hI'.h1 k1 rfl).2 (hI'.h2 k2 rfl).2 (hI'.h3 k3 rfl).2 (hI'.h4 k4 rfl).2 (hI'.h5 k5 rfl).2 (heap_alloc_new _ _) ⟨(hI.h1 k1 rfl).1,(hI.h2 k2 rfl).1,(hI.h3 k3 rfl).1,(hI.h4 k4 rfl).1,(hI.h5 k5 rfl).1,hI.low.size⟩ ⟨fun e=>hI.n23 k2 rfl (by rw [e]),fun e=>hI.n24 k2 rfl (by rw [e]),fun e=>hI.n34 k3 rfl (by rw [e]),fun e=>hI.lt.2.2.2 (by rw [e])⟩)
  clear hI hI'
  go_wp2
  go_ret
  exact ⟨_,_,_,_,_,_,rfl,HN.out⟩
 ·exact eY.start (aN ⟨1,rfl⟩)
structure fS (B tb mp:Nat) (M:List Tg) (w:World):Prop where
 tm:∃vn ve vl vs,bT w B tb vn ve vl vs (.map (some mp)) (M.map Prod.snd) (dQ (M.map Prod.snd)) (oG M) (List.replicate M.length 0)
 first:fE w mp M
 whole:dC (M.map Prod.snd)
 big:B≤w.heap.size
 ne:mp≠tb
 mlow:B≤mp
theorem fS.new {w w':World} {tb mp:Nat} {vn ve vl vs:Value} (h:xV w tb mp vn ve vl vs w'):fS w.heap.size tb mp [] w':=
 ⟨⟨vn,ve,vl,vs,h.tm⟩,h.first,fun i n e=>by simp at e,h.low.size,h.ne,h.mlow⟩
theorem tD {B tb mp:Nat} {M:List Tg} {w:World} (h:fS B tb mp M w) (o:Int) (a:Option Addr) (c:Nat) (t:List Nd) (hn:bQ w a t) (ht:aI t 1=true) (hlow:∀p,a=some p→p.block < B) (hlen:M.length+t.length≤1000000) (ho : -1000≤o∧o≤1000) :
  Calls Tryz.prog 13 #[.pointer (some ⟨tb,0,none⟩),.int .i64 o,.slice a t.length c] w fun e w'=>e=.returned (.int .i64 M.length)∧fS B tb mp (M++aJ o t) w'∧Below B w w':=by
 obtain ⟨vn,ve,vl,vs,htm⟩:=h.tm
 have hl:(M.map Prod.snd).length=M.length:=by simp
 refine (aFj B tb mp vn ve vl vs (M.map Prod.snd) (oG M) (List.replicate M.length 0) M o a c t w htm rfl h.whole h.first (by rw [kE,hl]) (by rw [List.length_replicate,hl]) h.big h.ne h.mlow ht hn hlow (by rw [hl];exact hlen) ho).mono ?_
 rintro e w' ⟨vn',ve',vl',vs',rfl,h1,h2,h3,_⟩
 have hs:(M++aJ o t).map Prod.snd=M.map Prod.snd++t:=by rw [List.map_append,mS]
 refine ⟨by rw [hl],⟨⟨vn',ve',vl',vs',?_⟩,h2,by rw [hs];exact h.whole.append (kN ht),Nat.le_trans h.big h3.low.size,h.ne,h.mlow⟩,h3.low⟩
 rw [hs,aFt,List.length_append,List.replicate_append_replicate.symm]
 simpa using h1
theorem fS.toIn {B tb mp:Nat} {M:List Tg} {w:World} (h:fS B tb mp M w) (hf:M.length≤1000000) (hs:∀t∈M,t.2.1.size≤140737488355328):∃vn ve vl vs,bA w B tb vn ve vl vs (.map (some mp)) (M.map Prod.snd) (oG M) (List.replicate M.length 0):=by
 obtain ⟨vn,ve,vl,vs,htm⟩:=h.tm
 exact ⟨vn,ve,vl,vs,htm.toIn (by rw [kE];simp) (by simp) (by simpa using hf) (fun n hn=>by obtain ⟨t,ht,rfl⟩:=List.mem_map.1 hn;exact hs t ht)⟩
theorem aH9 {L:List Nd} (hW:dC L) {E:Nat→Nat→Prop} {rep:Nat→Nat} {x:List Nat} {l:List Nd} (h:aO (aD L) E rep x l) (hx:∀i∈x,i < L.length):∀n∈l,(aG n=true∧∃i,i < L.length∧n=(⟨#[]⟩,(rep i:Int)))∨(aG n=false∧n∈L):=by
 induction h with
 | nil=>intro n hn;simp at hn
 | @var i r l h1 _ ih=>
  intro n hn
  rcases List.mem_cons.1 hn with rfl | hn
  ·exact Or.inl ⟨nN _,i,hx i (by simp),rfl⟩
  ·exact ih (fun j hj=>hx j (by simp [hj])) n hn
 | @name i j r l h1 h2 _ ih=>
  intro n hn
  obtain ⟨m,hm,hv⟩:=fY h2
  have hjl:=(List.getElem?_eq_some_iff.1 hm).1
  rcases List.mem_cons.1 hn with rfl | hn
  ·right
   rw [jY hm]
   exact ⟨hv,List.mem_of_getElem? hm⟩
  ·refine ih (fun p hp=>?_) n hn
   rcases List.mem_append.1 hp with hp | hp
   ·rw [eP hm] at hp
    have h4:=(rG _ _ _ (hW j _ hm) p hp).2
    have h5:aF (L.drop j) 1≤(L.drop j).length:=lK _ _
    rw [List.drop_eq_getElem_cons hjl,(List.getElem?_eq_some_iff.1 hm).2] at h5
    simp [aF] at h5
    omega
   ·exact hx p (by simp [hp])
theorem rT {w:World} {a:Option Addr} {l:List Nd} (h:bQ w a l) (ht:aI l 1=true):∀p,a=some p→p.block < w.heap.size:=by
 intro p hp
 have h0:0 < l.length:=by
  cases l with
  | nil=>simp [aI] at ht
  | cons=>simp
 obtain ⟨b,o,e,h1,_⟩:=h.cell 0 h0
 rw [hp] at e
 simp at e
 rw [e]
 exact World.block_lt_of_cell? w _ h1
end Go.Proofs.YthicbnejchpmgaaGreatDoor
namespace Go.Proofs.YthicbnejchpmgaaGreatDoor
open Go.RowKit
set_option maxRecDepth 100000
theorem xW (r:Int×Lt) (rs:List (Int×Lt)):bE (r :: rs)=(r.2.2.map fun n=>(r.1,n))++bE rs:=by simp [bE]
theorem aHa (M:List Tg) (r:Int×Lt) (rs:List (Int×Lt)):M++bE (r :: rs)=(M++r.2.2.map fun n=>(r.1,n))++bE rs:=by rw [xW,List.append_assoc]
def nR (M:List Tg) (a b:Nat) (ps:List Nat) (ls:List (List Nd)):Prop:=
 ∃F rt d S,gG M a b F rt d S∧(∀p,p < M.length→bG (aD (M.map Prod.snd)) (fun i j=>rt i=rt j) p)∧aK (fun p l=>aO (aD (M.map Prod.snd)) (fun i j=>rt i=rt j) rt [p] l) ps ls∧∀p∈ps,p < M.length
section
variable {M:List Tg} {a b:Nat} {ps:List Nat} {ls:List (List Nd)}
theorem nR.more (h:nR M a b ps ls) (o:Int) {t:List Nd} (ht:aI t 1=true):∃l,nR (M++t.map fun n=>(o,n)) a b (ps++[M.length]) (ls++[l]):=by
 obtain ⟨F,rt,d,S,hv,hen,hls,hlo⟩:=h
 have hs:=nQ M o t
 have ht0:0 < t.length:=by
  cases t with
  | nil=>simp [aI] at ht
  | cons=>simp
 have hen1:∀p,p < M.length+t.length→bG (aD (M.map Prod.snd++t)) (fun i j=>cE M (M++t.map fun n=>(o,n)) rt i=cE M (M++t.map fun n=>(o,n)) rt j) p:=fun p hp=>hv.endsAll (o:=o) ht hen (M.length+t.length - p) p (by omega)
 obtain ⟨l,hl⟩:=(hen1 M.length (by omega)).exp (rep:=cE M (M++t.map fun n=>(o,n)) rt)
 refine ⟨l,_,_,_,_,hv.add (o:=o) ht,fun p hp=>by rw [hs];exact hen1 p (by simpa using hp),?_,fun p hp=>?_⟩
 ·rw [hs]
  have key:∀{ps:List Nat} {ls:List (List Nd)},aK (fun p l=>aO (aD (M.map Prod.snd)) (fun i j=>rt i=rt j) rt [p] l) ps ls→(∀p∈ps,p < M.length)→aK (fun p l=>aO (aD (M.map Prod.snd++t)) (fun i j=>cE M (M++t.map fun n=>(o,n)) rt i=cE M (M++t.map fun n=>(o,n)) rt j) (cE M (M++t.map fun n=>(o,n)) rt) [p] l) ps ls:=by
   intro ps ls h
   induction h with
   | nil=>intro _;exact aK.nil
   | cons c _ ih=>
    intro hp
    exact aK.cons (hv.exp (o:=o) c (fun i hi=>by simp at hi;subst hi;exact hp _ (by simp))) (ih fun p hq=>hp p (by simp [hq]))
  exact (key hls hlo).snoc hl
 ·rcases List.mem_append.1 hp with hp | hp
  ·have:=hlo p hp;simp;omega
  ·simp at hp;subst hp;simp;exact ht0
theorem nR.all:∀(rest:List (Int×Lt)) {M:List Tg} {ps:List Nat} {ls:List (List Nd)},nR M a b ps ls→(∀r∈rest,aI r.2.2 1=true)→∃ms,nR (M++bE rest) a b (ps++dK M.length rest) (ls++ms):=by
 intro rest
 induction rest with
 | nil=>
  intro M ps ls h _
  exact ⟨[],by simpa [bE,dK] using h⟩
 | cons r rs ih=>
  intro M ps ls h ht
  obtain ⟨l,h1⟩:=h.more r.1 (ht r (by simp))
  obtain ⟨ms,h2⟩:=ih h1 (fun x hx=>ht x (by simp [hx]))
  refine ⟨l :: ms,?_⟩
  rw [aHa]
  have e1:ps++dK M.length (r :: rs)=ps++[M.length]++dK (M++r.2.2.map fun n=>(r.1,n)).length rs:=by simp [dK]
  have e2:ls++l :: ms=ls++[l]++ms:=by simp
  rw [e1,e2]
  exact h2
end
theorem aT1:∀(rest:List (Int×Lt)) {M:List Tg} {a b:Nat},(∀r∈rest,aI r.2.2 1=true)→dC (M.map Prod.snd)→uX (M++bE rest) a b→fK (aD (M.map Prod.snd)) (eC M a b)∧∀p,p < M.length→bG (aD (M.map Prod.snd)) (eC M a b) p:=by
 intro rest
 induction rest with
 | nil=>
  intro M a b _ _ h
  simp only [bE,List.flatMap_nil,List.append_nil] at h
  exact h
 | cons r rs ih=>
  intro M a b ht hW h
  rw [aHa] at h
  have hs:=nQ M r.1 r.2.2
  obtain ⟨h1,h2⟩:=ih (fun x hx=>ht x (by simp [hx])) (by rw [hs];exact hW.append (kN (ht r (by simp)))) h
  rw [hs] at h1 h2
  exact ⟨aSp hW h1,fun p hp=>aSo hW (h2 p (by simp;omega))⟩
theorem aT2 {c:List Lt} {x:Lt} (h:x∈c):x∈cH c:=by
 suffices ∀(c:List Lt) (acc:List Lt) (x:Lt),x∈acc∨x∈c→x∈c.foldl dY acc from this c [] x (Or.inr h)
 intro c
 induction c with
 | nil=>intro acc x h;simpa using h
 | cons y r ih=>
  intro acc x h
  simp only [List.foldl_cons]
  refine ih _ _ ?_
  have hs:∀z,z∈acc∨z=y→z∈dY acc y:=by
   intro z hz
   unfold dY
   split
   ·rename_i hm
    rcases hz with hz | rfl
    ·exact hz
    ·exact (aCi _ _).1 hm
   ·simpa using hz
  rcases h with h | h
  ·exact Or.inl (hs x (Or.inl h))
  ·rcases List.mem_cons.1 h with rfl | h
   ·exact Or.inl (hs x (Or.inr rfl))
   ·exact Or.inr h
theorem aT3 (c:List Lt):aP (cX c).1=aP c:=by
 suffices ∀(c:List Lt) (st:List Lt×List Int),aP (c.foldl dM st).1=aP st.1+aP c by
  have:=this c ([],[])
  simpa [cX,aP] using this
 intro c
 induction c with
 | nil=>intro st;simp [aP]
 | cons x r ih=>
  intro st
  simp only [List.foldl_cons]
  rw [ih]
  have h1:(bW x.2 st.2).1.length=x.2.length:=(oN x.2 st.2).1
  simp only [dM,oO,h1]
  have h2:aP (x :: r)=x.2.length+aP r:=by simp [aP]
  omega
theorem aT4 {c:List Lt} {x:Lt} (h:x∈c) (hx:500 < x.2.length):500 < aP (aT c):=by
 unfold aT
 rw [aT3]
 have:=yS (cH c) x (aT2 h)
 omega
theorem aHb:∀(rest:List (Int×Lt)) (ls:List (List Nd)),rest.length=ls.length→∀l∈ls,∃s,(s,l)∈cG rest ls
 | [],[],_,l,hl=>by simp at hl
 | r :: rs,m :: ms,h,l,hl=>by
  rcases List.mem_cons.1 hl with rfl | hl
  ·exact ⟨r.2.1,by simp [cG]⟩
  ·obtain ⟨s,hs⟩:=aHb rs ms (by simpa using h) l hl
   exact ⟨s,by simp only [cG,List.zipWith_cons_cons];exact List.mem_cons_of_mem _ hs⟩
theorem nR.out {M0:List Tg} {a b:Nat} {rest:List (Int×Lt)} {ls:List (List Nd)} (h:nR (M0++bE rest) a b (dK M0.length rest) ls) :
  (500 < aP (aT (cG rest ls))→gZ M0 a b rest [] false 4)∧(aP (aT (cG rest ls))≤500→gZ M0 a b rest (aT (cG rest ls)) true 0):=by
 obtain ⟨F,rt,d,S,hv,hen,hls,hlo⟩:=h
 have hR:(fun i j=>rt i=rt j)=eC (M0++bE rest) a b:=by
  funext i j
  exact propext (hv.iff i j)
 rw [hR] at hen hls
 have hy:uX (M0++bE rest) a b:=by
  refine ⟨?_,hen⟩
  have:=hv.cl.done (B:=fun i j=>aS (M0++bE rest) i=aS (M0++bE rest) j∨(i=a∧j=b)) (oU rt) (fun i j e=>(hv.iff i j).1 e) (fun i j e=>(hv.iff i j).2 (Cl.base e))
  exact this.2
 exact ⟨fun hc=>Or.inr ⟨hy,rt,ls,hv.iff,hls,Or.inl ⟨hc,rfl,rfl,rfl⟩⟩,fun hc=>Or.inr ⟨hy,rt,ls,hv.iff,hls,Or.inr ⟨hc,rfl,rfl,rfl⟩⟩⟩
end Go.Proofs.YthicbnejchpmgaaGreatDoor
