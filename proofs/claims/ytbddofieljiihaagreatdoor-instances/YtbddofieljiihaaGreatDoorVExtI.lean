/- Terms are put behind others that were made the same: the classes grow by them. What is concluded from clauses by one pair of atoms: the answer as a fact on graphs. What is concluded: from the classes of the first terms to the whole answer. -/
import Derived.Test.YtbddofieljiihaaGreatDoorUPut1I
import Derived.Test.YtbddofieljiihaaGreatDoorUJnLI
namespace Go.Proofs.YtbddofieljiihaaGreatDoor
open Go.RowKit
set_option maxRecDepth 100000
abbrev eE (M:List Tg) (a b:Nat):Nat→Nat→Prop:=Cl (aE (M.map Prod.snd)) fun i j=>aY M i=aY M j∨(i=a∧j=b)
section
variable {M:List Tg} {o:Int} {t:List Nd} {a b:Nat}
theorem nK (M:List Tg) (o:Int) (t:List Nd):(M++t.map fun n=>(o,n)).map Prod.snd=M.map Prod.snd++t:=by
 rw [List.map_append,List.map_map]
 congr 1
 exact List.map_id _
theorem xM {p:Nat} (h:p < M.length):aY M p < M.length:=by
 have:=(aBd M).rt_lt (p:=p) (by rw [kM];exact h)
 rwa [kM] at this
theorem aBh (M:List Tg) (p:Nat):aY M (aY M p)=aY M p:=(aBd M).rt_rt p
theorem aTn {i j:Nat} (h:aY M i=aY M j):aY (M++t.map fun n=>(o,n)) i=aY (M++t.map fun n=>(o,n)) j:=by
 by_cases hi:i < M.length
 ·by_cases hj:j < M.length
  ·rw [xH hi,xH hj,h]
  ·rw [oA (p:=j) (by omega)] at h
   have:=xM hi
   omega
 ·rw [oA (p:=i) (by omega)] at h
  by_cases hj:j < M.length
  ·have:=xM hj
   omega
  ·rw [oA (p:=j) (by omega)] at h
   rw [h]
theorem pB {p:Nat} (h:(aE (M.map Prod.snd)).named p):p < M.length∧(aE (M.map Prod.snd++t)).named p∧(aE (M.map Prod.snd++t)).lab p=(aE (M.map Prod.snd)).lab p:=by
 obtain ⟨n,h1,h2⟩:=nS h
 have hp:p < (M.map Prod.snd).length:=(List.getElem?_eq_some_iff.1 h1).1
 have h3:(M.map Prod.snd++t)[p]?=some n:=by rw [List.getElem?_append_left hp,h1]
 exact ⟨by simpa using hp,(fV h3).2 h2,by rw [nT h3,nT h1]⟩
theorem qD {p:Nat} (hp:p < M.length) (h:(aE (M.map Prod.snd++t)).named p):(aE (M.map Prod.snd)).named p:=by
 obtain ⟨n,h1,h2⟩:=nS h
 rw [List.getElem?_append_left (by simpa using hp)] at h1
 exact (fV h1).2 h2
theorem aBi (hW:eA (M.map Prod.snd)) {p q:Nat} (hn:(aE (M.map Prod.snd)).named p) (hq:q∈(aE (M.map Prod.snd)).ch p):q < M.length:=by
 obtain ⟨n,h1,_⟩:=nS hn
 have hp:p < (M.map Prod.snd).length:=(List.getElem?_eq_some_iff.1 h1).1
 rw [kE h1] at hq
 have h4:=(aA5 _ _ _ (hW p _ h1) q hq).2
 have h5:aF ((M.map Prod.snd).drop p) 1≤((M.map Prod.snd).drop p).length:=qA _ _
 rw [List.drop_eq_getElem_cons hp,(List.getElem?_eq_some_iff.1 h1).2] at h5
 simp [aF] at h5
 simp at hp
 omega
theorem aBj (hW:eA (M.map Prod.snd)) {i j:Nat} (h:eE M a b i j):eE (M++t.map fun n=>(o,n)) a b i j:=by
 unfold eE
 rw [nK]
 refine Cl.le (R:=Cl (aE (M.map Prod.snd++t)) fun i j=>aY (M++t.map fun n=>(o,n)) i=aY (M++t.map fun n=>(o,n)) j∨(i=a∧j=b)) ⟨Cl.refl,fun _ _=>Cl.symm,fun _ _ _=>Cl.trans,?_⟩ ?_ h
 ·intro i j k p q c hi hj hp hq
  obtain ⟨i1,i2,_⟩:=pB (t:=t) hi
  obtain ⟨j1,j2,_⟩:=pB (t:=t) hj
  exact Cl.down c i2 j2 (by rw [qC hW (by simpa using i1)];exact hp) (by rw [qC hW (by simpa using j1)];exact hq)
 ·rintro i j (e | e)
  ·exact Cl.base (Or.inl (aTn e))
  ·exact Cl.base (Or.inr e)
theorem aTo (hW:eA (M.map Prod.snd)) {p:Nat} (h:bS (aE (M.map Prod.snd++t)) (eE (M++t.map fun n=>(o,n)) a b) p):bS (aE (M.map Prod.snd)) (eE M a b) p:=by
 induction h with
 | mk i _ ih=>
  refine ⟨_,fun j hj hn x hx=>?_⟩
  obtain ⟨j1,j2,_⟩:=pB (t:=t) hn
  exact ih j (aBj hW hj) j2 x (by rw [qC hW (by simpa using j1)];exact hx)
theorem aTp (hW:eA (M.map Prod.snd)) (h:jS (aE (M.map Prod.snd++t)) (eE (M++t.map fun n=>(o,n)) a b)):jS (aE (M.map Prod.snd)) (eE M a b):=by
 intro i j c hi hj
 obtain ⟨_,i2,i3⟩:=pB (t:=t) hi
 obtain ⟨_,j2,j3⟩:=pB (t:=t) hj
 rw [←i3,←j3]
 exact h i j (aBj hW c) i2 j2
end
structure fY (M:List Tg) (a b:Nat) (F:List Nat) (rt d:Nat→Nat) (S:List Int):Prop where
 whole:eA (M.map Prod.snd)
 lf:F.length=M.length
 ls:S.length=M.length
 forest:eZ F rt d
 named:iJ (M.map Prod.snd) rt
 cl:dE (aE (M.map Prod.snd)) (fun i j=>rt i=rt j) fun _ _=>False
 iff:∀i j,rt i=rt j↔eE M a b i j
 sz:oW (M.map Prod.snd) rt S
 none:∀r:Nat,S[r]?≠some (-1)
 ha:a < M.length
 hb:b < M.length
def cD (M M1:List Tg) (rt:Nat→Nat) (p:Nat):Nat:=if aY M1 p < M.length then rt (aY M1 p) else aY M1 p
def dX (M M1:List Tg) (d:Nat→Nat) (p:Nat):Nat:=if p < M.length then d p else if aY M1 p=p then 0 else if aY M1 p < M.length then d (aY M1 p)+1 else 1
section
variable {M:List Tg} {o:Int} {t:List Nd} {a b:Nat} {F:List Nat} {rt d:Nat→Nat} {S:List Int}
theorem fY.rt_lt (h:fY M a b F rt d S) {p:Nat} (hp:p < M.length):rt p < M.length:=by
 have:=h.forest.rt_lt (p:=p) (by rw [h.lf];exact hp)
 rwa [h.lf] at this
theorem fY.old (h:fY M a b F rt d S) {p:Nat} (hp:p < M.length):cD M (M++t.map fun n=>(o,n)) rt p=rt p:=by
 unfold cD
 rw [xH hp,if_pos (xM hp)]
 exact (h.iff _ _).2 (Cl.base (Or.inl (aBh M p)))
theorem fY.new (_h:fY M a b F rt d S) {p:Nat} (hp:M.length≤p) (hn:(aE (M.map Prod.snd++t)).named p):cD M (M++t.map fun n=>(o,n)) rt p=p:=by
 have h0:aY (M++t.map fun n=>(o,n)) p=p:=by
  obtain ⟨n,h1,h2⟩:=nS hn
  rw [←nK M o t,List.getElem?_map] at h1
  obtain ⟨x,h3,rfl⟩:=Option.map_eq_some_iff.1 h1
  exact mL h3 h2
 unfold cD
 rw [h0,if_neg (by omega)]
theorem fY.up (h:fY M a b F rt d S) {i j:Nat} (e:rt i=rt j):cD M (M++t.map fun n=>(o,n)) rt i=cD M (M++t.map fun n=>(o,n)) rt j:=by
 by_cases hi:i < M.length
 ·by_cases hj:j < M.length
  ·rw [h.old hi,h.old hj,e]
  ·have h1:=h.forest.out j (by rw [h.lf];omega)
   have h2:=h.rt_lt hi
   omega
 ·have h1:=h.forest.out i (by rw [h.lf];omega)
  by_cases hj:j < M.length
  ·have h2:=h.rt_lt hj
   omega
  ·have h2:=h.forest.out j (by rw [h.lf];omega)
   rw [h1,h2] at e
   rw [e]
theorem fY.in (h:fY M a b F rt d S) {i j:Nat} (hi:i < M.length) (e:cD M (M++t.map fun n=>(o,n)) rt i=cD M (M++t.map fun n=>(o,n)) rt j) (hn:(aE (M.map Prod.snd++t)).named j):j < M.length∧rt i=rt j:=by
 have h1:=h.rt_lt hi
 rw [h.old hi] at e
 by_cases hj:j < M.length
 ·exact ⟨hj,by rw [h.old hj] at e;exact e⟩
 ·rw [h.new (by omega) hn] at e
  omega
theorem fY.ends (h:fY M a b F rt d S) {p:Nat} (k:bS (aE (M.map Prod.snd)) (fun i j=>rt i=rt j) p):p < M.length→bS (aE (M.map Prod.snd++t)) (fun i j=>cD M (M++t.map fun n=>(o,n)) rt i=cD M (M++t.map fun n=>(o,n)) rt j) p:=by
 induction k with
 | mk i _ ih=>
  intro hi
  refine ⟨_,fun j hj hn x hx=>?_⟩
  obtain ⟨j1,j2⟩:=h.in hi hj hn
  have hn':=qD j1 hn
  rw [qC h.whole (by simpa using j1)] at hx
  exact ih j j2 hn' x hx (aBi h.whole hn' hx)
theorem fY.exp (h:fY M a b F rt d S) {x:List Nat} {l:List Nd} (k:aO (aE (M.map Prod.snd)) (fun i j=>rt i=rt j) rt x l):(∀i∈x,i < M.length)→aO (aE (M.map Prod.snd++t)) (fun i j=>cD M (M++t.map fun n=>(o,n)) rt i=cD M (M++t.map fun n=>(o,n)) rt j) (cD M (M++t.map fun n=>(o,n)) rt) x l:=by
 induction k with
 | nil=>intro _;exact aO.nil
 | @var i r l h1 _ ih=>
  intro hx
  have hi:=hx i (by simp)
  rw [←h.old (t:=t) (o:=o) hi]
  refine aO.var (fun j hj hn=>?_) (ih fun q hq=>hx q (by simp [hq]))
  obtain ⟨j1,j2⟩:=h.in hi hj hn
  exact h1 j j2 (qD j1 hn)
 | @name i j r l h1 h2 _ ih=>
  intro hx
  obtain ⟨j1,j2,j3⟩:=pB (t:=t) h2
  rw [←j3]
  refine aO.name (h.up h1) j2 ?_
  rw [qC h.whole (by simpa using j1)]
  refine ih fun q hq=>?_
  rcases List.mem_append.1 hq with hq | hq
  ·exact aBi h.whole h2 hq
  ·exact hx q (by simp [hq])
theorem fY.add (h:fY M a b F rt d S) (ht:aI t 1=true) :
  fY (M++t.map fun n=>(o,n)) a b (F++fW M o t t.length) (cD M (M++t.map fun n=>(o,n)) rt) (dX M (M++t.map fun n=>(o,n)) d) (S++List.replicate t.length 0):=by
 have hW1:eA (M.map Prod.snd++t):=h.whole.append (uI ht)
 have hll:(fW M o t t.length).length=t.length:=by simp [fW]
 have hlen:(M++t.map fun n=>(o,n)).length=M.length+t.length:=by simp
 have hF1:∀p,M.length≤p→p < M.length+t.length→(F++fW M o t t.length)[p]?=some (aY (M++t.map fun n=>(o,n)) p):=by
  intro p h1 h2
  have:=rH (M:=M++t.map fun n=>(o,n)) (p:=p) (by rw [hlen];exact h2)
  rw [aG7,List.getElem?_append_right (by rw [kM];exact h1),kM] at this
  rw [List.getElem?_append_right (by rw [h.lf];exact h1),h.lf]
  exact this
 have hF0:∀p,p < M.length→(F++fW M o t t.length)[p]?=F[p]?:=fun p hp=>List.getElem?_append_left (by rw [h.lf];exact hp)
 have hFl:(F++fW M o t t.length).length=M.length+t.length:=by rw [List.length_append,hll,h.lf]
 have hle:∀p,p < M.length+t.length→aY (M++t.map fun n=>(o,n)) p < M.length+t.length:=fun p hp=>by
  have:=xM (M:=M++t.map fun n=>(o,n)) (p:=p) (by rw [hlen];exact hp)
  rwa [hlen] at this
 have hroot:∀p,eE (M++t.map fun n=>(o,n)) a b p (cD M (M++t.map fun n=>(o,n)) rt p):=by
  intro p
  have h1:eE (M++t.map fun n=>(o,n)) a b p (aY (M++t.map fun n=>(o,n)) p):=Cl.base (Or.inl (aBh _ p).symm)
  by_cases hq:aY (M++t.map fun n=>(o,n)) p < M.length
  ·have h2:eE M a b (aY (M++t.map fun n=>(o,n)) p) (rt (aY (M++t.map fun n=>(o,n)) p)):=(h.iff _ _).1 (h.forest.rt_rt _).symm
   have e:cD M (M++t.map fun n=>(o,n)) rt p=rt (aY (M++t.map fun n=>(o,n)) p):=if_pos hq
   rw [e]
   exact h1.trans (aBj h.whole h2)
  ·have e:cD M (M++t.map fun n=>(o,n)) rt p=aY (M++t.map fun n=>(o,n)) p:=if_neg hq
   rw [e]
   exact h1
 have hmod:dE (aE (M.map Prod.snd++t)) (fun i j=>cD M (M++t.map fun n=>(o,n)) rt i=cD M (M++t.map fun n=>(o,n)) rt j) fun _ _=>False:=by
  intro x y e hx hy
  by_cases hxl:x < M.length
  ·obtain ⟨hyl,e'⟩:=h.in hxl e hy
   obtain ⟨c1,c2⟩:=h.cl x y e' (qD hxl hx) (qD hyl hy)
   refine ⟨?_,fun k p q hp hq=>?_⟩
   ·rw [(pB (t:=t) (qD hxl hx)).2.2,(pB (t:=t) (qD hyl hy)).2.2]
    exact c1
   ·rw [qC h.whole (by simpa using hxl)] at hp
    rw [qC h.whole (by simpa using hyl)] at hq
    refine dS.mono (fun i j hij=>?_) (c2 k p q hp hq)
    rcases hij with hij | hij
    ·exact dS.base (Or.inl (h.up hij))
    ·exact hij.elim
  ·have hyl:¬y < M.length:=fun hyl=>hxl (h.in hyl e.symm hx).1
   have e1:=h.new (t:=t) (o:=o) (by omega) hx
   have e2:=h.new (t:=t) (o:=o) (by omega) hy
   have:x=y:=by rw [←e1,←e2];exact e
   subst this
   refine ⟨rfl,fun k p q hp hq=>?_⟩
   rw [hp] at hq
   simp at hq
   subst hq
   exact dS.refl _
 have hdone:=hmod.done (B:=fun i j=>aY (M++t.map fun n=>(o,n)) i=aY (M++t.map fun n=>(o,n)) j∨(i=a∧j=b)) (oR _) (fun i j e=>by
   have h1:=hroot i
   have h2:=hroot j
   unfold eE at h1 h2
   rw [nK] at h1 h2
   have e':cD M (M++t.map fun n=>(o,n)) rt i=cD M (M++t.map fun n=>(o,n)) rt j:=e
   rw [e'] at h1
   exact h1.trans h2.symm) (fun i j e=>by
   rcases e with e | ⟨rfl,rfl⟩
   ·show cD M (M++t.map fun n=>(o,n)) rt i=cD M (M++t.map fun n=>(o,n)) rt j
    unfold cD
    rw [e]
   ·show cD M (M++t.map fun n=>(o,n)) rt i=cD M (M++t.map fun n=>(o,n)) rt j
    rw [h.old h.ha,h.old h.hb]
    exact (h.iff _ _).2 (Cl.base (Or.inr ⟨rfl,rfl⟩)))
 refine ⟨by rw [nK];exact hW1,by rw [hFl,hlen],by rw [List.length_append,List.length_replicate,h.ls,hlen],⟨?_,?_,?_,?_⟩,?_,by rw [nK];exact hmod,?_,?_,?_,by rw [hlen];have:=h.ha;omega,by rw [hlen];have:=h.hb;omega⟩
 ·intro p q hq
  have hp:=(List.getElem?_eq_some_iff.1 hq).1
  rw [hFl] at hp ⊢
  by_cases hpl:p < M.length
  ·rw [hF0 p hpl] at hq
   have:=h.forest.lt p q hq
   rw [h.lf] at this
   omega
  ·rw [hF1 p (by omega) hp] at hq
   simp at hq
   subst hq
   exact hle p hp
 ·intro p hq
  have hp:=(List.getElem?_eq_some_iff.1 hq).1
  rw [hFl] at hp
  by_cases hpl:p < M.length
  ·rw [hF0 p hpl] at hq
   rw [h.old hpl]
   exact h.forest.root p hq
  ·rw [hF1 p (by omega) hp] at hq
   simp at hq
   unfold cD
   rw [hq,if_neg (by omega)]
 ·intro p q hq hne
  have hp:=(List.getElem?_eq_some_iff.1 hq).1
  rw [hFl] at hp
  by_cases hpl:p < M.length
  ·rw [hF0 p hpl] at hq
   have hql:=h.forest.lt p q hq
   rw [h.lf] at hql
   rw [h.old hpl,h.old hql]
   unfold dX
   rw [if_pos hpl,if_pos hql]
   exact h.forest.step p q hq hne
  ·rw [hF1 p (by omega) hp] at hq
   simp at hq
   subst hq
   have hii:=aBh (M++t.map fun n=>(o,n)) p
   refine ⟨by unfold cD;rw [hii],?_⟩
   unfold dX
   rw [if_neg hpl,if_neg hne]
   by_cases hql:aY (M++t.map fun n=>(o,n)) p < M.length
   ·rw [if_pos hql,if_pos hql]
    omega
   ·rw [if_neg hql,if_pos hii,if_neg hql]
    omega
 ·intro p hp
  rw [hFl] at hp
  unfold cD
  rw [oA (M:=M++t.map fun n=>(o,n)) (by rw [hlen];exact hp),if_neg (by omega)]
 ·rw [nK]
  intro p hp
  by_cases hpl:p < M.length
  ·rw [h.old hpl]
   exact (pB (t:=t) (h.named p (qD hpl hp))).2.1
  ·rw [h.new (by omega) hp]
   exact hp
 ·intro i j
  unfold eE
  rw [nK]
  exact hdone.1 i j
 ·rw [nK]
  intro p n hn
  by_cases hpl:p < S.length
  ·rw [List.getElem?_append_left hpl] at hn
   rw [h.ls] at hpl
   rcases h.sz p n hn with e | e | ⟨e1,l,e2,e3⟩
   ·exact Or.inl e
   ·exact Or.inr (Or.inl e)
   ·exact Or.inr (Or.inr ⟨h.ends e1 hpl,l,h.exp e2 (by simpa using hpl),e3⟩)
  ·rw [List.getElem?_append_right (by omega)] at hn
   have:=(List.getElem?_eq_some_iff.1 hn).2
   simp at this
   exact Or.inl this.symm
 ·intro r hr
  by_cases hpl:r < S.length
  ·rw [List.getElem?_append_left hpl] at hr
   exact h.none r hr
  ·rw [List.getElem?_append_right (by omega)] at hr
   have:=(List.getElem?_eq_some_iff.1 hr).2
   simp at this
end
def bE (rest:List (Int×Lt)):List Tg:=rest.flatMap fun r=>r.2.2.map fun n=>(r.1,n)
def dO:Nat→List (Int×Lt)→List Nat
 | _,[]=>[]
 | n,r :: rs=>n :: dO (n+r.2.2.length) rs
def cE (rest:List (Int×Lt)) (ls:List (List Nd)):List Lt:=List.zipWith (fun r l=>(r.2.1,l)) rest ls
def uU (M:List Tg) (a b:Nat):Prop:=jS (aE (M.map Prod.snd)) (eE M a b)∧∀p,p < M.length→bS (aE (M.map Prod.snd)) (eE M a b) p
def gR (M0:List Tg) (a b:Nat) (rest:List (Int×Lt)) (out:List Lt) (yes:Bool) (e:Int):Prop:=
 (¬uU (M0++bE rest) a b∧out=[]∧yes=false∧e=0)∨
 (uU (M0++bE rest) a b∧∃(rep:Nat→Nat) (ls:List (List Nd)),(∀p q,rep p=rep q↔eE (M0++bE rest) a b p q)∧aL (fun p l=>aO (aE ((M0++bE rest).map Prod.snd)) (eE (M0++bE rest) a b) rep [p] l) (dO M0.length rest) ls∧
  ((500 < aN (aS (cE rest ls))∧out=[]∧yes=false∧e=4)∨(aN (aS (cE rest ls))≤500∧out=aS (cE rest ls)∧yes=true∧e=0)))
theorem aGz:∀(n:Nat) (rest:List (Int×Lt)),(dO n rest).length=rest.length
 | _,[]=>rfl
 | n,r :: rs=>by simp [dO,aGz _ rs]
theorem aTq {G:Gr} {R:Nat→Nat→Prop} {rp rd:Nat→Nat} {x:List Nat} {l:List Nd} (e:aO G R rp x l):∃m,aO G R rd x m∧aL (gN fun a b=>∃p,a=(rp p:Int)∧b=(rd p:Int)) l m:=by
 induction e with
 | nil=>exact ⟨[],aO.nil,aL.nil⟩
 | @var i r l h1 _ ih=>
  obtain ⟨m,a,b⟩:=ih
  exact ⟨_,aO.var h1 a,aL.cons (Or.inl ⟨rE _,rE _,rfl,i,rfl,rfl⟩) b⟩
 | @name i j r l h1 h2 _ ih=>
  obtain ⟨m,a,b⟩:=ih
  exact ⟨_,aO.name h1 h2 a,aL.cons (Or.inr ⟨h2,rfl⟩) b⟩
theorem aH0 {V:Int→Int→Prop}:∀(rest:List (Int×Lt)) {ls ms:List (List Nd)},aL (fun l m=>aL (gN V) l m) ls ms→aL (gZ V) (cE rest ls) (cE rest ms)
 | [],_,_,_=>aL.nil
 | _ :: _,_,_,aL.nil=>aL.nil
 | _ :: rs,_,_,aL.cons a h=>aL.cons ⟨rfl,a⟩ (aH0 rs h)
theorem aBk {M0:List Tg} {a b:Nat} {rest:List (Int×Lt)} {out out':List Lt} {y y':Bool} {e e':Int} (h:gR M0 a b rest out y e) (h':gR M0 a b rest out' y' e'):out=out'∧y=y'∧e=e':=by
 rcases h with ⟨h1,rfl,rfl,rfl⟩ | ⟨h1,rep,ls,hr,hl,h2⟩
 ·rcases h' with ⟨_,rfl,rfl,rfl⟩ | ⟨h1',_⟩
  ·exact ⟨rfl,rfl,rfl⟩
  ·exact absurd h1' h1
 ·rcases h' with ⟨h1',_⟩ | ⟨_,rep',ls',hr',hl',h2'⟩
  ·exact absurd h1 h1'
  ·have hD:iE (aE ((M0++bE rest).map Prod.snd)) (eE (M0++bE rest) a b):=Cl.isDown _ _
   have hV:lF fun x y=>∃p,x=(rep p:Int)∧y=(rep' p:Int):=by
    rintro x y x' y' ⟨p,rfl,rfl⟩ ⟨q,rfl,rfl⟩
    constructor
    ·intro e
     have:rep' p=rep' q:=(hr' _ _).2 ((hr p q).1 (by omega))
     omega
    ·intro e
     have:rep p=rep q:=(hr _ _).2 ((hr' p q).1 (by omega))
     omega
   have hls:aL (fun l m=>aL (gN fun x y=>∃p,x=(rep p:Int)∧y=(rep' p:Int)) l m) ls ls':=by
    have key:∀{x:List Nat} {ls ls':List (List Nd)},aL (fun p l=>aO (aE ((M0++bE rest).map Prod.snd)) (eE (M0++bE rest) a b) rep [p] l) x ls→aL (fun p l=>aO (aE ((M0++bE rest).map Prod.snd)) (eE (M0++bE rest) a b) rep' [p] l) x ls'→aL (fun l m=>aL (gN fun x y=>∃p,x=(rep p:Int)∧y=(rep' p:Int)) l m) ls ls':=by
     intro x ls ls' h
     induction h generalizing ls' with
     | nil=>intro h';cases h';exact aL.nil
     | cons c _ ih=>
      intro h'
      cases h' with
      | cons c' k=>
       refine aL.cons ?_ (ih k)
       obtain ⟨m,d1,d2⟩:=aTq (rd:=rep') c
       have:=aO.one hD h1.1 (sD _) (fun i j e=>(hr' i j).2 e) d1 _ c'
       subst this
       exact d2
    exact key hl hl'
   have ho:=aFg hV (aH0 rest hls)
   rw [←ho] at h2'
   rcases h2 with ⟨c1,rfl,rfl,rfl⟩ | ⟨c1,rfl,rfl,rfl⟩
   ·rcases h2' with ⟨_,rfl,rfl,rfl⟩ | ⟨c2,_⟩
    ·exact ⟨rfl,rfl,rfl⟩
    ·omega
   ·rcases h2' with ⟨c2,_⟩ | ⟨_,rfl,rfl,rfl⟩
    ·omega
    ·exact ⟨rfl,rfl,rfl⟩
section
variable {M:List Tg} {o:Int} {t:List Nd} {a b:Nat} {F:List Nat} {rt d:Nat→Nat} {S:List Int}
theorem fY.endsAll (h:fY M a b F rt d S) (ht:aI t 1=true) (hall:∀p,p < M.length→bS (aE (M.map Prod.snd)) (fun i j=>rt i=rt j) p) :
  ∀(k p:Nat),p+k=M.length+t.length→bS (aE (M.map Prod.snd++t)) (fun i j=>cD M (M++t.map fun n=>(o,n)) rt i=cD M (M++t.map fun n=>(o,n)) rt j) p:=by
 have hW1:eA (M.map Prod.snd++t):=h.whole.append (uI ht)
 intro k
 induction k using Nat.strongRecOn with
 | _ k ih=>
  intro p hp
  by_cases hpl:p < M.length
  ·exact h.ends (hall p hpl) hpl
  ·refine ⟨_,fun j hj hn x hx=>?_⟩
   have hj':cD M (M++t.map fun n=>(o,n)) rt p=cD M (M++t.map fun n=>(o,n)) rt j:=hj
   by_cases hjl:j < M.length
   ·have hn':=qD hjl hn
    rw [qC h.whole (by simpa using hjl)] at hx
    have hxl:=aBi h.whole hn' hx
    exact h.ends (hall x hxl) hxl
   ·rw [h.new (by omega) hn] at hj'
    obtain ⟨nj,hj1,hj2⟩:=nS hn
    have hjp:j=p:=by
     unfold cD at hj'
     split at hj'
     ·rename_i hq
      have:=h.rt_lt hq
      omega
     ·rw [←nK M o t,List.getElem?_map] at hj1
      obtain ⟨y,hy,rfl⟩:=Option.map_eq_some_iff.1 hj1
      cases hm:(M++t.map fun n=>(o,n))[p]? with
      | none=>rw [oA (by simpa using (List.getElem?_eq_none_iff.1 hm))] at hj';exact hj'.symm
      | some z=>
       cases hv:aH z.2 with
       | false=>rw [mL hm hv] at hj';exact hj'.symm
       | true=>
        obtain ⟨_,_,s,e3,e4,_⟩:=mM hm hv
        rw [hj',hy] at e3
        simp at e3
        subst e3
        rw [e4] at hj2
        cases hj2
    subst hjp
    rw [kE hj1] at hx
    have h4:=aA5 _ _ _ (hW1 j _ hj1) x hx
    have hjlt:j < (M.map Prod.snd++t).length:=(List.getElem?_eq_some_iff.1 hj1).1
    have h5:aF ((M.map Prod.snd++t).drop j) 1≤((M.map Prod.snd++t).drop j).length:=qA _ _
    rw [List.drop_eq_getElem_cons hjlt,(List.getElem?_eq_some_iff.1 hj1).2] at h5
    simp [aF] at h5
    simp at hjlt
    exact ih (M.length+t.length - x) (by omega) x (by omega)
end
theorem xN (r:Int×Lt) (rs:List (Int×Lt)):bE (r :: rs)=(r.2.2.map fun n=>(r.1,n))++bE rs:=by simp [bE]
theorem aH1 (M:List Tg) (r:Int×Lt) (rs:List (Int×Lt)):M++bE (r :: rs)=(M++r.2.2.map fun n=>(r.1,n))++bE rs:=by rw [xN,List.append_assoc]
def nL (M:List Tg) (a b:Nat) (ps:List Nat) (ls:List (List Nd)):Prop:=
 ∃F rt d S,fY M a b F rt d S∧(∀p,p < M.length→bS (aE (M.map Prod.snd)) (fun i j=>rt i=rt j) p)∧aL (fun p l=>aO (aE (M.map Prod.snd)) (fun i j=>rt i=rt j) rt [p] l) ps ls∧∀p∈ps,p < M.length
section
variable {M:List Tg} {a b:Nat} {ps:List Nat} {ls:List (List Nd)}
theorem nL.more (h:nL M a b ps ls) (o:Int) {t:List Nd} (ht:aI t 1=true):∃l,nL (M++t.map fun n=>(o,n)) a b (ps++[M.length]) (ls++[l]):=by
 obtain ⟨F,rt,d,S,hv,hen,hls,hlo⟩:=h
 have hs:=nK M o t
 have ht0:0 < t.length:=by
  cases t with
  | nil=>simp [aI] at ht
  | cons=>simp
 have hen1:∀p,p < M.length+t.length→bS (aE (M.map Prod.snd++t)) (fun i j=>cD M (M++t.map fun n=>(o,n)) rt i=cD M (M++t.map fun n=>(o,n)) rt j) p:=fun p hp=>hv.endsAll (o:=o) ht hen (M.length+t.length - p) p (by omega)
 obtain ⟨l,hl⟩:=(hen1 M.length (by omega)).exp (rep:=cD M (M++t.map fun n=>(o,n)) rt)
 refine ⟨l,_,_,_,_,hv.add (o:=o) ht,fun p hp=>by rw [hs];exact hen1 p (by simpa using hp),?_,fun p hp=>?_⟩
 ·rw [hs]
  have key:∀{ps:List Nat} {ls:List (List Nd)},aL (fun p l=>aO (aE (M.map Prod.snd)) (fun i j=>rt i=rt j) rt [p] l) ps ls→(∀p∈ps,p < M.length)→aL (fun p l=>aO (aE (M.map Prod.snd++t)) (fun i j=>cD M (M++t.map fun n=>(o,n)) rt i=cD M (M++t.map fun n=>(o,n)) rt j) (cD M (M++t.map fun n=>(o,n)) rt) [p] l) ps ls:=by
   intro ps ls h
   induction h with
   | nil=>intro _;exact aL.nil
   | cons c _ ih=>
    intro hp
    exact aL.cons (hv.exp (o:=o) c (fun i hi=>by simp at hi;subst hi;exact hp _ (by simp))) (ih fun p hq=>hp p (by simp [hq]))
  exact (key hls hlo).snoc hl
 ·rcases List.mem_append.1 hp with hp | hp
  ·have:=hlo p hp;simp;omega
  ·simp at hp;subst hp;simp;exact ht0
theorem nL.all:∀(rest:List (Int×Lt)) {M:List Tg} {ps:List Nat} {ls:List (List Nd)},nL M a b ps ls→(∀r∈rest,aI r.2.2 1=true)→∃ms,nL (M++bE rest) a b (ps++dO M.length rest) (ls++ms):=by
 intro rest
 induction rest with
 | nil=>
  intro M ps ls h _
  exact ⟨[],by simpa [bE,dO] using h⟩
 | cons r rs ih=>
  intro M ps ls h ht
  obtain ⟨l,h1⟩:=h.more r.1 (ht r (by simp))
  obtain ⟨ms,h2⟩:=ih h1 (fun x hx=>ht x (by simp [hx]))
  refine ⟨l :: ms,?_⟩
  rw [aH1]
  have e1:ps++dO M.length (r :: rs)=ps++[M.length]++dO (M++r.2.2.map fun n=>(r.1,n)).length rs:=by simp [dO]
  have e2:ls++l :: ms=ls++[l]++ms:=by simp
  rw [e1,e2]
  exact h2
end
theorem aTr:∀(rest:List (Int×Lt)) {M:List Tg} {a b:Nat},(∀r∈rest,aI r.2.2 1=true)→eA (M.map Prod.snd)→uU (M++bE rest) a b→jS (aE (M.map Prod.snd)) (eE M a b)∧∀p,p < M.length→bS (aE (M.map Prod.snd)) (eE M a b) p:=by
 intro rest
 induction rest with
 | nil=>
  intro M a b _ _ h
  simp only [bE,List.flatMap_nil,List.append_nil] at h
  exact h
 | cons r rs ih=>
  intro M a b ht hW h
  rw [aH1] at h
  have hs:=nK M r.1 r.2.2
  obtain ⟨h1,h2⟩:=ih (fun x hx=>ht x (by simp [hx])) (by rw [hs];exact hW.append (uI (ht r (by simp)))) h
  rw [hs] at h1 h2
  exact ⟨aTp hW h1,fun p hp=>aTo hW (h2 p (by simp;omega))⟩
theorem aTs {c:List Lt} {x:Lt} (h:x∈c):x∈bQ c:=by
 suffices ∀(c:List Lt) (acc:List Lt) (x:Lt),x∈acc∨x∈c→x∈c.foldl dK acc from this c [] x (Or.inr h)
 intro c
 induction c with
 | nil=>intro acc x h;simpa using h
 | cons y r ih=>
  intro acc x h
  simp only [List.foldl_cons]
  refine ih _ _ ?_
  have hs:∀z,z∈acc∨z=y→z∈dK acc y:=by
   intro z hz
   unfold dK
   split
   ·rename_i hm
    rcases hz with hz | rfl
    ·exact hz
    ·exact (vI _ _).1 hm
   ·simpa using hz
  rcases h with h | h
  ·exact Or.inl (hs x (Or.inl h))
  ·rcases List.mem_cons.1 h with rfl | h
   ·exact Or.inl (hs x (Or.inr rfl))
   ·exact Or.inr h
theorem aTt (c:List Lt):aN (cH c).1=aN c:=by
 suffices ∀(c:List Lt) (st:List Lt×List Int),aN (c.foldl cS st).1=aN st.1+aN c by
  have:=this c ([],[])
  simpa [cH,aN] using this
 intro c
 induction c with
 | nil=>intro st;simp [aN]
 | cons x r ih=>
  intro st
  simp only [List.foldl_cons]
  rw [ih]
  have h1:(dC x.2 st.2).1.length=x.2.length:=(tE x.2 st.2).1
  simp only [cS,oI,h1]
  have h2:aN (x :: r)=x.2.length+aN r:=by simp [aN]
  omega
theorem aTu {c:List Lt} {x:Lt} (h:x∈c) (hx:500 < x.2.length):500 < aN (aS c):=by
 unfold aS
 rw [aTt]
 have:=vJ (bQ c) x (aTs h)
 omega
theorem aH2:∀(rest:List (Int×Lt)) (ls:List (List Nd)),rest.length=ls.length→∀l∈ls,∃s,(s,l)∈cE rest ls
 | [],[],_,l,hl=>by simp at hl
 | r :: rs,m :: ms,h,l,hl=>by
  rcases List.mem_cons.1 hl with rfl | hl
  ·exact ⟨r.2.1,by simp [cE]⟩
  ·obtain ⟨s,hs⟩:=aH2 rs ms (by simpa using h) l hl
   exact ⟨s,by simp only [cE,List.zipWith_cons_cons];exact List.mem_cons_of_mem _ hs⟩
theorem nL.out {M0:List Tg} {a b:Nat} {rest:List (Int×Lt)} {ls:List (List Nd)} (h:nL (M0++bE rest) a b (dO M0.length rest) ls) :
  (500 < aN (aS (cE rest ls))→gR M0 a b rest [] false 4)∧(aN (aS (cE rest ls))≤500→gR M0 a b rest (aS (cE rest ls)) true 0):=by
 obtain ⟨F,rt,d,S,hv,hen,hls,hlo⟩:=h
 have hR:(fun i j=>rt i=rt j)=eE (M0++bE rest) a b:=by
  funext i j
  exact propext (hv.iff i j)
 rw [hR] at hen hls
 have hy:uU (M0++bE rest) a b:=by
  refine ⟨?_,hen⟩
  have:=hv.cl.done (B:=fun i j=>aY (M0++bE rest) i=aY (M0++bE rest) j∨(i=a∧j=b)) (oR rt) (fun i j e=>(hv.iff i j).1 e) (fun i j e=>(hv.iff i j).2 (Cl.base e))
  exact this.2
 exact ⟨fun hc=>Or.inr ⟨hy,rt,ls,hv.iff,hls,Or.inl ⟨hc,rfl,rfl,rfl⟩⟩,fun hc=>Or.inr ⟨hy,rt,ls,hv.iff,hls,Or.inr ⟨hc,rfl,rfl,rfl⟩⟩⟩
end Go.Proofs.YtbddofieljiihaaGreatDoor
