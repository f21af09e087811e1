/- Pure: each place of a term has a row in the document's table. The document's table: two rows are the same, and all that follows. Pure: the program's places laid on the document's rows. Pure: what the program answers by its places is what the document answers by its rows. Pure: Unify's answer, by the program's places and by the document's rows, is one. Pure: a term and what it is by terms in the place of its variables: the latter is what both are made. Pure: what two terms are made, made with the first of them, stays as it is. The places of terms may lie in another order. Pure: two terms are made the same either way round. -/
import Derived.Test.YthicbnejchpmgaaGreatDoorONumberD
import Derived.Test.YthicbnejchpmgaaGreatDoorUAppD
namespace Go.Proofs.YthicbnejchpmgaaGreatDoor
open Go.RowKit Go.Shelf Go.WideMaps
set_option maxRecDepth 100000
def aS (M:List Tg) (p:Nat):Nat:=match M[p]? with | some t=>if aG t.2 then M.findIdx (eK t.1 t.2.2) else p | none=>p
theorem oF {M:List Tg} {p:Nat} (h:M.length≤p):aS M p=p:=by unfold aS;rw [List.getElem?_eq_none h]
theorem mP {M:List Tg} {p:Nat} {t:Tg} (h:M[p]?=some t) (hv:aG t.2=false):aS M p=p:=by unfold aS;rw [h];simp [hv]
theorem mQ {M:List Tg} {p:Nat} {t:Tg} (h:M[p]?=some t) (hv:aG t.2=true):aS M p=M.findIdx (eK t.1 t.2.2)∧aS M p≤p∧∃s,M[aS M p]?=some s∧aG s.2=true∧s.1=t.1∧s.2.2=t.2.2:=by
 have hl:=(List.getElem?_eq_some_iff.1 h).1
 have he:M[p]=t:=(List.getElem?_eq_some_iff.1 h).2
 have hp:eK t.1 t.2.2 t=true:=by simp [eK,hv]
 have e:aS M p=M.findIdx (eK t.1 t.2.2):=by unfold aS;rw [h];simp [hv]
 have hle:M.findIdx (eK t.1 t.2.2)≤p:=by
  apply Nat.le_of_not_lt
  intro hlt
  have:=List.not_of_lt_findIdx hlt
  rw [he,hp] at this
  cases this
 have hlt:M.findIdx (eK t.1 t.2.2) < M.length:=by omega
 refine ⟨e,by omega,M[M.findIdx (eK t.1 t.2.2)],by rw [e];exact List.getElem?_eq_getElem hlt,?_⟩
 have:=List.findIdx_getElem (w:=hlt)
 simpa [eK] using this
def xJ (M:List Tg) (p q:Nat):Prop:=p=q∨∃s t,M[p]?=some s∧M[q]?=some t∧aG s.2=true∧aG t.2=true∧s.1=t.1∧s.2.2=t.2.2
theorem qL (M:List Tg) (p q:Nat):aS M p=aS M q↔xJ M p q:=by
 constructor
 ·intro e
  by_cases hp:∃s,M[p]?=some s∧aG s.2=true
  ·obtain ⟨s,hs,vs⟩:=hp
   obtain ⟨e1,e2,s',e3,e4,e5,e6⟩:=mQ hs vs
   by_cases hq:∃t,M[q]?=some t∧aG t.2=true
   ·obtain ⟨t,ht,vt⟩:=hq
    obtain ⟨d1,d2,t',d3,d4,d5,d6⟩:=mQ ht vt
    rw [e,d3] at e3
    simp at e3
    subst e3
    exact Or.inr ⟨s,t,hs,ht,vs,vt,by rw [←e5,d5],by rw [←e6,d6]⟩
   ·exfalso
    have hrq:aS M q=q:=by
     cases hm:M[q]? with
     | none=>exact oF (by simpa using hm)
     | some t=>
      refine mP hm ?_
      cases hv:aG t.2
      ·rfl
      ·exact absurd ⟨t,hm,hv⟩ hq
    rw [e,hrq] at e3
    exact hq ⟨s',e3,e4⟩
  ·have hrp:aS M p=p:=by
    cases hm:M[p]? with
    | none=>exact oF (by simpa using hm)
    | some t=>
     refine mP hm ?_
     cases hv:aG t.2
     ·rfl
     ·exact absurd ⟨t,hm,hv⟩ hp
   by_cases hq:∃t,M[q]?=some t∧aG t.2=true
   ·obtain ⟨t,ht,vt⟩:=hq
    obtain ⟨d1,d2,t',d3,d4,d5,d6⟩:=mQ ht vt
    rw [←e,hrp] at d3
    exact absurd ⟨t',d3,d4⟩ hp
   ·have hrq:aS M q=q:=by
     cases hm:M[q]? with
     | none=>exact oF (by simpa using hm)
     | some t=>
      refine mP hm ?_
      cases hv:aG t.2
      ·rfl
      ·exact absurd ⟨t,hm,hv⟩ hq
    rw [hrp,hrq] at e
    exact Or.inl e
 ·rintro (rfl | ⟨s,t,h1,h2,h3,h4,h5,h6⟩)
  ·rfl
  ·rw [(mQ h1 h3).1,(mQ h2 h4).1,h5,h6]
def oG (M:List Tg):List Nat:=(List.range M.length).map fun p=>aS M p
theorem kE (M:List Tg):(oG M).length=M.length:=by simp [oG]
theorem rP {M:List Tg} {p:Nat} (h:p < M.length):(oG M)[p]?=some (aS M p):=by simp [oG,h]
theorem xK {M N:List Tg} {p:Nat} (h:p < M.length):aS (M++N) p=aS M p:=by
 have hm:M[p]?=some M[p]:=List.getElem?_eq_getElem h
 have hmn:(M++N)[p]?=some M[p]:=by rw [List.getElem?_append_left h,hm]
 cases hv:aG M[p].2
 ·rw [mP hm hv,mP hmn hv]
 ·obtain ⟨e1,e2,s,e3,e4,e5,e6⟩:=mQ hm hv
  rw [(mQ hmn hv).1,e1,List.findIdx_append,if_pos (by omega)]
theorem aQt {M:List Tg} {p:Nat} (h:p < M.length):lO (M.take p) M[p].1 M[p].2=aS M p:=by
 have hm:M[p]?=some M[p]:=List.getElem?_eq_getElem h
 have hl:(M.take p).length=p:=by simp;omega
 unfold lO
 rw [hl]
 cases hv:aG M[p].2
 ·rw [mP hm hv];rfl
 ·obtain ⟨e1,e2,_⟩:=mQ hm hv
  rw [if_pos rfl,e1]
  have hsplit:M=M.take p++M.drop p:=(List.take_append_drop p M).symm
  have hf:M.findIdx (eK M[p].1 M[p].2.2)=if (M.take p).findIdx (eK M[p].1 M[p].2.2) < (M.take p).length then (M.take p).findIdx (eK M[p].1 M[p].2.2) else (M.drop p).findIdx (eK M[p].1 M[p].2.2)+(M.take p).length:=by
   generalize eK M[p].1 M[p].2.2=f
   conv=>lhs;rw [hsplit]
   rw [List.findIdx_append]
  unfold gX
  rw [hf,hl]
  split
  ·rename_i hlt
   rw [List.findIdx?_eq_some_iff_findIdx_eq.2 ⟨by rw [hl];exact hlt,rfl⟩]
   rfl
  ·rename_i hlt
   rw [List.findIdx?_eq_none_iff_findIdx_eq.2 (by have:=List.findIdx_le_length (xs:=M.take p) (p:=eK M[p].1 M[p].2.2);omega)]
   rw [List.drop_eq_getElem_cons h,List.findIdx_cons]
   have:eK M[p].1 M[p].2.2 M[p]=true:=by simp [eK,hv]
   simp [this]
theorem aFt (M:List Tg) (o:Int) (t:List Nd):oG (M++t.map fun n=>(o,n))=oG M++fZ M o t t.length:=by
 apply List.ext_getElem?
 intro p
 by_cases hp:p < M.length
 ·rw [rP (by simp;omega),List.getElem?_append_left (by rw [kE];exact hp),rP hp,xK hp]
 ·rw [List.getElem?_append_right (by rw [kE];omega),kE]
  by_cases hq:p - M.length < t.length
  ·have hpl:p < (M++t.map fun n=>(o,n)).length:=by simp;omega
   rw [rP hpl,←aQt hpl]
   have he:(M++t.map fun n=>(o,n))[p]=(o,t[p - M.length]):=by
    rw [List.getElem_append_right (by omega)];simp
   rw [he]
   have htk:(M++t.map fun n=>(o,n)).take p=M++(t.take (p - M.length)).map fun n=>(o,n):=by
    rw [List.take_append,List.take_of_length_le (by omega),List.map_take]
   rw [htk]
   simp [fZ,hq]
  ·rw [List.getElem?_eq_none (by rw [kE];simp;omega),List.getElem?_eq_none (by rw [aFg];omega)]
theorem xL (M:List Tg):fA (oG M) (aS M) (fun p=>if aS M p=p then 0 else 1):=by
 refine ⟨fun p q h=>?_,fun p h=>?_,fun p q h hne=>?_,fun p h=>oF (by rw [kE] at h;exact h)⟩
 ·have hp:=(List.getElem?_eq_some_iff.1 h).1
  rw [kE] at hp ⊢
  rw [rP hp] at h
  simp at h
  subst h
  have hm:M[p]?=some M[p]:=List.getElem?_eq_getElem hp
  cases hv:aG M[p].2
  ·rw [mP hm hv];exact hp
  ·have:=(mQ hm hv).2.1;omega
 ·have hp:=(List.getElem?_eq_some_iff.1 h).1
  rw [kE] at hp
  rw [rP hp] at h
  simpa using h
 ·have hp:=(List.getElem?_eq_some_iff.1 h).1
  rw [kE] at hp
  rw [rP hp] at h
  simp at h
  subst h
  have hm:M[p]?=some M[p]:=List.getElem?_eq_getElem hp
  cases hv:aG M[p].2
  ·rw [mP hm hv] at hne;exact absurd rfl hne
  ·obtain ⟨e1,e2,s,e3,e4,e5,e6⟩:=mQ hm hv
   have hs:aS M p=aS M (aS M p):=by
    rw [(mQ e3 e4).1,e1,e5,e6]
   refine ⟨hs,?_⟩
   rw [if_pos hs.symm,if_neg (fun e=>hne e)]
   exact Nat.zero_lt_one
theorem aFu (M:List Tg):dE (aD (M.map Prod.snd)) (fun i j=>aS M i=aS M j) fun _ _=>False:=by
 intro x y e hx hy
 rcases (qL M x y).1 e with rfl | ⟨s,t,h1,h2,h3,h4,_⟩
 ·refine ⟨rfl,fun k p q hp hq=>?_⟩
  rw [hp] at hq
  simp at hq
  subst hq
  exact dO.refl _
 ·obtain ⟨n,h5,h6⟩:=fY hx
  rw [List.getElem?_map,h1] at h5
  simp at h5
  subst h5
  rw [h3] at h6
  cases h6
theorem aFv (M:List Tg):iV (M.map Prod.snd) (aS M):=by
 intro p hp
 obtain ⟨n,h5,h6⟩:=fY hp
 rw [List.getElem?_map] at h5
 obtain ⟨t,h7,h8⟩:=Option.map_eq_some_iff.1 h5
 subst h8
 rw [mP h7 h6]
 exact hp
theorem mR {L t:List Nd} (hW:dC L) {p:Nat} (h:p < L.length):(aD (L++t)).ch p=(aD L).ch p:=by
 have h1:L[p]?=some L[p]:=List.getElem?_eq_getElem h
 have h2:(L++t)[p]?=some L[p]:=by rw [List.getElem?_append_left h,h1]
 rw [eP h1,eP h2,List.drop_append_of_le_length (by omega),aN4 _ _ _ _ (hW p _ h1)]
theorem aFw {L t:List Nd} {p:Nat} (h:p < t.length):(aD (L++t)).ch (L.length+p)=((aD t).ch p).map (· + L.length):=by
 have h1:t[p]?=some t[p]:=List.getElem?_eq_getElem h
 have h2:(L++t)[L.length+p]?=some t[p]:=by rw [List.getElem?_append_right (by omega)];simp [h]
 rw [eP h1,eP h2,←aN3]
 congr 1
 ·rw [List.drop_append,List.drop_eq_nil_of_le (by omega),List.nil_append];congr 1;omega
 ·omega
theorem aQu {L:List Nd} {E:Nat→Nat→Prop} (hE:∀i,E i i):∀(s:List Nd) (k b:Nat),s=L.drop b→cM s k→(∀x∈eU s k b,bG (aD L) E x)→∀p,b≤p→p < b+aF s k→bG (aD L) E p:=by
 intro s
 induction s with
 | nil=>
  intro k b _ _ _ p h1 h2
  cases k <;> simp [aF] at h2 <;> omega
 | cons n r ih=>
  intro k b hs hf hx p h1 h2
  cases k with
  | zero=>simp at h2;omega
  | succ k=>
   have hb:L[b]?=some n:=by
    have:=congrArg (fun l=>l[0]?) hs
    simpa using this.symm
   have hr:r=L.drop (b+1):=by
    have:=congrArg List.tail hs
    simpa using this
   have hlt:=(List.getElem?_eq_some_iff.1 hb).1
   have hself:bG (aD L) E b:=hx b (by rw [iD];simp)
   by_cases hp:p=b
   ·subst hp;exact hself
   ·simp only [cM] at hf
    simp only [aF] at h2
    refine ih (k+aZ n) (b+1) hr hf (fun x hxm=>?_) p (by omega) (by omega)
    rw [Nat.add_comm k,aE4] at hxm
    rcases List.mem_append.1 hxm with hxm | hxm
    ·cases hv:aG n
     ·refine hself.parts (hE b) ((eV hb).2 hv) ?_
      rw [eP hb,←hr]
      exact hxm
     ·rw [jC hv] at hxm
      simp [eU] at hxm
    ·refine hx x ?_
     rw [iD]
     refine List.mem_cons_of_mem _ ?_
     have he:aF (n :: r) 1=1+aF r (aZ n):=by simp [aF]
     rw [he,Nat.add_comm 1,List.drop_succ_cons,show b+(aF r (aZ n)+1)=b+1+aF r (aZ n) by omega]
     exact hxm
theorem aB5 {L:List Nd} {E:Nat→Nat→Prop} (hE:∀i,E i i) (hW:dC L) {i:Nat} (hi:i < L.length) (h:bG (aD L) E i):∀p,i≤p→p < i+aF (L.drop i) 1→bG (aD L) E p:=
 aQu hE _ 1 i rfl (hW.one hi) fun x hx=>by
  simp [eU] at hx
  subst hx
  exact h
def Ans (G:Gr) (C:Nat→Nat→Prop) (N:Nat) (all:Nat→Prop) (a:Nat) (l:List Nd) (yes:Bool) (e:Int):Prop:=
 (¬(fK G C∧∀i,i < N→all i→bG G C i)∧l=[]∧yes=false∧e=0)∨
 ((fK G C∧∀i,i < N→all i→bG G C i)∧∃m rp,(∀p q,rp p=rp q↔C p q)∧aO G C rp [a] m∧((500 < m.length∧l=[]∧yes=false∧e=4)∨(m.length≤500∧l=(bW m []).1∧yes=true∧e=0)))
abbrev aJ (o:Int) (t:List Nd):List Tg:=t.map fun n=>(o,n)
theorem mS (o:Int) (t:List Nd):(aJ o t).map Prod.snd=t:=by unfold aJ;rw [List.map_map];exact List.map_id _
abbrev gA (x y:List Nd):Nat→Nat→Prop:=Cl (aD (x++y)) fun i j=>aS (aJ 0 x++aJ 0 y) i=aS (aJ 0 x++aJ 0 y) j∨(i=0∧j=x.length)
def kP (x y:List Nd) (l:List Nd) (yes:Bool) (e:Int):Prop:=
 (¬(dT x=true∧dT y=true)∧l=[]∧yes=false∧e=5)∨
 ((dT x=true∧dT y=true)∧Ans (aD (x++y)) (gA x y) (x.length+y.length) (fun i=>i=0) 0 l yes e)
end Go.Proofs.YthicbnejchpmgaaGreatDoor
namespace Go.Proofs.YthicbnejchpmgaaGreatDoor
open Go.RowKit
set_option maxRecDepth 100000
def kQ (L:List Nd) (p:Nat):List Nd:=(L.drop p).take (aF (L.drop p) 1)
theorem aQv (L:List Nd):∀(k:Nat) (s:List Nd) (b:Nat),s=L.drop b→s.take (aF s k)=(eU s k b).flatMap (kQ L):=by
 intro k
 induction k with
 | zero=>intro s b _;simp
 | succ k ih=>
  intro s b hs
  rw [iD,List.flatMap_cons,←ih (s.drop (aF s 1)) (b+aF s 1) (by rw [hs,List.drop_drop]),Nat.add_comm k 1,qC,List.take_add]
  unfold kQ
  rw [←hs]
theorem aB6 {L:List Nd} {p:Nat} {n:Nd} (h:L[p]?=some n):kQ L p=n :: ((aD L).ch p).flatMap (kQ L):=by
 obtain ⟨hp,e⟩:=List.getElem?_eq_some_iff.1 h
 rw [eP h,←aQv L _ _ _ rfl]
 unfold kQ
 rw [List.drop_eq_getElem_cons hp,e]
 simp only [aF,Nat.zero_add]
 rw [Nat.add_comm 1,List.take_succ_cons]
theorem aFy {L:List Nd} {p:Nat} {n:Nd} (h:L[p]?=some n) (hv:aG n=true):kQ L p=[n]:=by
 rw [aB6 h,eP h,jC hv]
 simp
theorem aFz (σ:Int→List Nd) (a b:List Nd):subst σ (a++b)=subst σ a++subst σ b:=by simp [subst]
theorem aG0 (σ:Int→List Nd) (f:Nat→List Nd) (l:List Nat):subst σ (l.flatMap f)=l.flatMap fun p=>subst σ (f p):=by
 induction l with
 | nil=>rfl
 | cons a l ih=>rw [List.flatMap_cons,List.flatMap_cons,aFz,ih]
theorem uQ {n:Nd} (h:aG n=true):n=(⟨#[]⟩,n.2):=by
 obtain ⟨a,b⟩:=n
 have:a.toList=[]:=by simpa [aG] using h
 have e:a=⟨#[]⟩:=by
  rw [ByteArray.toList_eq] at this
  obtain ⟨d⟩:=a
  simp at this
  subst this
  rfl
 rw [e]
theorem aQw (l:List Nd):subst (fun y=>[(⟨#[]⟩,y)]) l=l:=by
 induction l with
 | nil=>rfl
 | cons n r ih=>
  rw [iP,ih]
  cases hv:aG n with
  | false=>rfl
  | true=>simp only [if_true];rw [←uQ hv];rfl
def iW (l:List Nd) (k:Nat):Prop:=cM l k∧aF l k=l.length
theorem aQx {a b:List Nd} {j k:Nat} (ha:iW a j) (hb:iW b k):iW (a++b) (j+k):=by
 have e1:aF (a++b) j=a.length:=by rw [tV a b j ha.1,ha.2]
 refine ⟨(sP _ _ _).2 ⟨aE6 a b j ha.1,?_⟩,?_⟩
 ·rw [e1,List.drop_left];exact hb.1
 ·rw [qC,e1,List.drop_left,hb.2,List.length_append]
theorem aB7 {σ:Int→List Nd}:∀(l:List Nd) (k:Nat),(∀n∈l,aG n=true→iW (σ n.2) 1)→iW l k→iW (subst σ l) k:=by
 intro l
 induction l with
 | nil=>intro k _ h;exact h
 | cons n r ih=>
  intro k hσ h
  cases k with
  | zero=>have:=h.2;simp at this
  | succ k=>
   have hr:iW r (k+aZ n):=⟨by have:=h.1;simpa [cM] using this,by have:=h.2;simp [aF] at this;omega⟩
   rw [iP]
   cases hv:aG n with
   | true=>
    rw [jC hv,Nat.add_zero] at hr
    have:=aQx (hσ n (by simp) hv) (ih k (fun m hm=>hσ m (by simp [hm])) hr)
    rw [Nat.add_comm] at this
    simpa using this
   | false=>
    have i1:=ih (k+aZ n) (fun m hm=>hσ m (by simp [hm])) hr
    refine ⟨by simpa [cM] using i1.1,?_⟩
    have:=i1.2
    simp [aF]
    omega
theorem aQy {L:List Nd} (hW:dC L) {p:Nat} (hp:p < L.length):iW (kQ L p) 1:=by
 have hf:=hW.one hp
 have hle:aF (L.drop p) 1≤(L.drop p).length:=lK _ _
 have key:∀(s:List Nd) (k:Nat),cM s k→iW (s.take (aF s k)) k:=by
  intro s
  induction s with
  | nil=>
   intro k hk
   cases k with
   | zero=>exact ⟨by simp,by simp⟩
   | succ k=>exact absurd hk (by simp [cM])
  | cons n r ih=>
   intro k hk
   cases k with
   | zero=>exact ⟨by simp,by simp⟩
   | succ k=>
    have i1:=ih (k+aZ n) (by simpa [cM] using hk)
    simp only [aF]
    rw [Nat.add_comm 1,List.take_succ_cons]
    refine ⟨by simpa [cM] using i1.1,?_⟩
    have:=i1.2
    simp only [aF,List.length_cons]
    omega
 exact key _ 1 hf
theorem aQz {f:Nat→List Nd}:∀(xs ys:List Nat),(∀p∈xs,iW (f p) 1)→(∀p∈ys,iW (f p) 1)→xs.length=ys.length→xs.flatMap f=ys.flatMap f→∀(k p q:Nat),xs[k]?=some p→ys[k]?=some q→f p=f q:=by
 intro xs
 induction xs with
 | nil=>intro ys _ _ _ _ k p q h;simp at h
 | cons a xs ih=>
  intro ys h1 h2 hl he k p q hp hq
  cases ys with
  | nil=>simp at hl
  | cons b ys=>
   rw [List.flatMap_cons,List.flatMap_cons] at he
   have t1:=h1 a (by simp)
   have t2:=h2 b (by simp)
   have c1:aF (f a++xs.flatMap f) 1=(f a).length:=by rw [tV _ _ _ t1.1,t1.2]
   have c2:aF (f b++ys.flatMap f) 1=(f b).length:=by rw [tV _ _ _ t2.1,t2.2]
   rw [he,c2] at c1
   have e1:f a=f b:=List.append_inj_left he c1.symm
   cases k with
   | zero=>
    simp at hp hq
    subst hp hq
    exact e1
   | succ k=>
    rw [e1] at he
    exact ih ys (fun p hp=>h1 p (by simp [hp])) (fun p hp=>h2 p (by simp [hp])) (by simpa using hl) (List.append_cancel_left he) k p q (by simpa using hp) (by simpa using hq)
theorem aR0 {L:List Nd} {Q:Nat→Prop} (hQ:∀p,Q p→(aD L).named p→∀x∈(aD L).ch p,Q x):∀(s:List Nd) (k b:Nat),s=L.drop b→cM s k→(∀x∈eU s k b,Q x)→∀p,b≤p→p < b+aF s k→Q p:=by
 intro s
 induction s with
 | nil=>
  intro k b _ _ _ p h1 h2
  cases k <;> simp [aF] at h2 <;> omega
 | cons n r ih=>
  intro k b hs hf hx p h1 h2
  cases k with
  | zero=>simp at h2;omega
  | succ k=>
   have hb:L[b]?=some n:=by
    have:=congrArg (fun l=>l[0]?) hs
    simpa using this.symm
   have hr:r=L.drop (b+1):=by
    have:=congrArg List.tail hs
    simpa using this
   have hself:Q b:=hx b (by rw [iD];simp)
   by_cases hp:p=b
   ·subst hp;exact hself
   ·simp only [cM] at hf
    simp only [aF] at h2
    refine ih (k+aZ n) (b+1) hr hf (fun x hxm=>?_) p (by omega) (by omega)
    rw [Nat.add_comm k,aE4] at hxm
    rcases List.mem_append.1 hxm with hxm | hxm
    ·cases hv:aG n
     ·refine hQ b hself ((eV hb).2 hv) x ?_
      rw [eP hb,←hr]
      exact hxm
     ·rw [jC hv] at hxm
      simp [eU] at hxm
    ·refine hx x ?_
     rw [iD]
     refine List.mem_cons_of_mem _ ?_
     have he:aF (n :: r) 1=1+aF r (aZ n):=by simp [aF]
     rw [he,Nat.add_comm 1,List.drop_succ_cons,show b+(aF r (aZ n)+1)=b+1+aF r (aZ n) by omega]
     exact hxm
section
variable {x z:List Nd} {θ:Int→List Nd}
def qM (θ:Int→List Nd) (L:List Nd) (p:Nat):List Nd:=subst θ (kQ L p)
theorem aR1 {L:List Nd} {p:Nat} {n:Nd} (h:L[p]?=some n) (hv:aG n=false):qM θ L p=n :: ((aD L).ch p).flatMap (qM θ L):=by
 unfold qM
 rw [aB6 h,iP,aG0]
 simp [hv]
theorem aR2 {L:List Nd} {p:Nat} {n:Nd} (h:L[p]?=some n) (hv:aG n=true):qM θ L p=θ n.2:=by
 unfold qM
 rw [aFy h hv,iP]
 simp [hv,subst]
theorem aR3 (hx:aI x 1=true) (hz:aI z 1=true) (hθ:∀n∈x,aG n=true→iW (θ n.2) 1) (h1:subst θ x=z) (h2:∀n∈z,aG n=true→θ n.2=[n]) (hl:z.length≤500) {l:List Nd} {yes:Bool} {e:Int}
  (h:Ans (aD (z++x)) (gA z x) (z.length+x.length) (fun i=>i=0) 0 l yes e):l=(bW z []).1∧yes=true∧e=0:=by
 have hW:dC (z++x):=(kN hz).append (kN hx)
 have hN:(z++x).length=z.length+x.length:=by simp
 have hz0:0 < z.length:=by
  cases z with
  | nil=>simp [aI] at hz
  | cons=>simp
 have hx0:0 < x.length:=by
  cases x with
  | nil=>simp [aI] at hx
  | cons=>simp
 have hall:∀n∈z++x,aG n=true→iW (θ n.2) 1:=by
  intro n hn hv
  rcases List.mem_append.1 hn with hm | hm
  ·rw [h2 n hm hv]
   refine ⟨by simp [cM,jC hv],by simp [aF,jC hv]⟩
  ·exact hθ n hm hv
 obtain ⟨V,hV⟩ : ∃V,qM θ (z++x)=V:=⟨_,rfl⟩
 have hVn:∀{p:Nat} {n:Nd},(z++x)[p]?=some n→aG n=false→V p=n :: ((aD (z++x)).ch p).flatMap V:=fun h hv=>by rw [←hV];exact aR1 h hv
 have hVv:∀{p:Nat} {n:Nd},(z++x)[p]?=some n→aG n=true→V p=θ n.2:=fun h hv=>by rw [←hV];exact aR2 h hv
 have hVk:∀p,p < (z++x).length→iW (V p) 1:=by
  intro p hp
  rw [←hV]
  refine aB7 _ 1 (fun n hn hv=>hall n ?_ hv) (aQy hW hp)
  exact List.mem_of_mem_drop (List.mem_of_mem_take hn)
 have hin:∀{p x':Nat},(aD (z++x)).named p→x'∈(aD (z++x)).ch p→x' < (z++x).length:=by
  intro p x' hp hx'
  obtain ⟨n,hn,_⟩:=fY hp
  rw [eP hn] at hx'
  have k1:=(rG _ _ _ (hW p _ hn) x' hx').2
  have hpl:=(List.getElem?_eq_some_iff.1 hn).1
  have k2:aF ((z++x).drop p) 1≤((z++x).drop p).length:=lK _ _
  rw [List.drop_eq_getElem_cons hpl,(List.getElem?_eq_some_iff.1 hn).2] at k2
  simp [aF] at k2 hpl
  simp
  omega
 have hV0:V 0=z:=by
  rw [←hV]
  unfold qM kQ
  rw [List.drop_zero,oW z 1 x hz,List.take_left]
  rw [aA9 (σ:=θ) (τ:=fun y=>[(⟨#[]⟩,y)]) fun n hn hv=>by rw [h2 n hn hv,←uQ hv]]
  exact aQw z
 have hVx:V z.length=z:=by
  rw [←hV]
  unfold qM kQ
  have:=oW x 1 [] hx
  rw [List.append_nil] at this
  rw [List.drop_left,this,List.take_length]
  exact h1
 have hE:∀p q,gA z x p q→p=q∨(p < (z++x).length∧q < (z++x).length∧V p=V q):=by
  intro p q hc
  refine Cl.le (R:=fun p q=>p=q∨(p < (z++x).length∧q < (z++x).length∧V p=V q)) ⟨fun _=>Or.inl rfl,?_,?_,?_⟩ ?_ hc
  ·rintro i j (rfl | ⟨a,b,c⟩)
   ·exact Or.inl rfl
   ·exact Or.inr ⟨b,a,c.symm⟩
  ·rintro i j k (rfl | ⟨a,b,c⟩) (rfl | ⟨a',b',c'⟩)
   ·exact Or.inl rfl
   ·exact Or.inr ⟨a',b',c'⟩
   ·exact Or.inr ⟨a,b,c⟩
   ·exact Or.inr ⟨a,b',c.trans c'⟩
  ·rintro i j k p q (rfl | ⟨a,b,c⟩) hi hj hp hq
   ·rw [hp] at hq
    simp at hq
    exact Or.inl hq
   ·obtain ⟨n,n1,n2⟩:=fY hi
    obtain ⟨m,m1,m2⟩:=fY hj
    rw [hVn n1 n2,hVn m1 m2] at c
    simp at c
    obtain ⟨rfl,c⟩:=c
    refine Or.inr ⟨hin hi (List.mem_of_getElem? hp),hin hj (List.mem_of_getElem? hq),?_⟩
    exact aQz _ _ (fun u hu=>hVk u (hin hi hu)) (fun u hu=>hVk u (hin hj hu)) (by rw [eP n1,eP m1,sO,sO]) c k p q hp hq
  ·rintro i j (hb | ⟨rfl,rfl⟩)
   ·rcases (qL _ _ _).1 hb with e | ⟨s,t,s1,t1,sv,tv,_,e⟩
    ·exact Or.inl e
    ·have hget:∀{p:Nat} {s:Tg},(aJ 0 z++aJ 0 x)[p]?=some s→(z++x)[p]?=some s.2:=by
      intro p s hs
      have:=congrArg (Option.map Prod.snd) hs
      rw [←List.getElem?_map,List.map_append,mS,mS] at this
      exact this
     have g1:=hget s1
     have g2:=hget t1
     refine Or.inr ⟨(List.getElem?_eq_some_iff.1 g1).1,(List.getElem?_eq_some_iff.1 g2).1,?_⟩
     rw [hVv g1 sv,hVv g2 tv,e]
   ·exact Or.inr ⟨by omega,by omega,by rw [hV0,hVx]⟩
 have hD:gD (aD (z++x)) (gA z x):=Cl.isDown _ _
 have hC:fK (aD (z++x)) (gA z x):=by
  intro i j c hi hj
  obtain ⟨n,n1,n2⟩:=fY hi
  obtain ⟨m,m1,m2⟩:=fY hj
  rw [jY n1,jY m1]
  rcases hE i j c with rfl | ⟨_,_,e⟩
  ·rw [n1] at m1;simpa using m1
  ·rw [hVn n1 n2,hVn m1 m2] at e
   simp at e
   exact e.1
 have hends:∀(k p:Nat),(V p).length≤k→bG (aD (z++x)) (gA z x) p:=by
  intro k
  induction k with
  | zero=>
   intro p hp
   refine ⟨_,fun j hj hn u hu=>?_⟩
   obtain ⟨n,n1,n2⟩:=fY hn
   have:V p=V j:=by
    rcases hE p j hj with rfl | ⟨_,_,e⟩
    ·rfl
    ·exact e
   rw [this,hVn n1 n2] at hp
   simp at hp
  | succ k ih=>
   intro p hp
   refine ⟨_,fun j hj hn u hu=>ih u ?_⟩
   obtain ⟨n,n1,n2⟩:=fY hn
   have:V p=V j:=by
    rcases hE p j hj with rfl | ⟨_,_,e⟩
    ·rfl
    ·exact e
   rw [this,hVn n1 n2] at hp
   obtain ⟨a,b,e⟩:=List.append_of_mem hu
   rw [e] at hp
   simp at hp
   omega
 have hcorr:∀p,z.length≤p→p < z.length+x.length→∃q,q < z.length∧gA z x p q:=by
  have e1:aF x 1=x.length:=by have:=oW x 1 [] hx;simpa using this
  have:=aR0 (L:=z++x) (Q:=fun p=>∃q,q < z.length∧gA z x p q) ?_ x 1 z.length (by rw [List.drop_left]) (aE5 x 1 hx) ?_
  ·intro p hp1 hp2
   exact this p hp1 (by omega)
  ·rintro p ⟨q,hq,hc⟩ hn u hu
   obtain ⟨n,n1,n2⟩:=fY hn
   have hqn:(z++x)[q]?=some z[q]:=by rw [List.getElem?_append_left hq,List.getElem?_eq_getElem hq]
   have hVq:V p=V q:=by
    rcases hE p q hc with rfl | ⟨_,_,e⟩
    ·rfl
    ·exact e
   have hqv:aG z[q]=false:=by
    cases hv:aG z[q] with
    | false=>rfl
    | true=>
     rw [hVn n1 n2,hVv hqn hv,h2 z[q] (List.getElem_mem _) hv] at hVq
     simp at hVq
     rw [hVq.1] at n2
     rw [n2] at hv
     cases hv
   have hqN:=(eV hqn).2 hqv
   obtain ⟨k,hk,rfl⟩:=List.getElem_of_mem hu
   have hlen:((aD (z++x)).ch p).length=((aD (z++x)).ch q).length:=oT _ p q hn hqN (hC p q hc hn hqN)
   have hqk:((aD (z++x)).ch q)[k]?=some ((aD (z++x)).ch q)[k]:=List.getElem?_eq_getElem (by omega)
   refine ⟨((aD (z++x)).ch q)[k],?_,Cl.down hc hn hqN (List.getElem?_eq_getElem hk) hqk⟩
   have hm:=List.mem_of_getElem? hqk
   generalize ((aD (z++x)).ch q)[k]=u at hm ⊢
   rw [mR (kN hz) hq] at hm
   have g1:z[q]?=some z[q]:=List.getElem?_eq_getElem hq
   rw [eP g1] at hm
   have k1:=(rG _ _ _ ((kN hz) q _ g1) _ hm).2
   have k2:aF (z.drop q) 1≤(z.drop q).length:=lK _ _
   rw [List.drop_eq_getElem_cons hq] at k2
   simp [aF] at k2
   omega
  ·intro u hu
   simp [eU] at hu
   subst hu
   exact ⟨0,hz0,Cl.symm (Cl.base (Or.inr ⟨rfl,rfl⟩))⟩
 rcases h with ⟨n,_⟩ | ⟨_,m,rp,r1,r2,r3⟩
 ·exact absurd ⟨hC,fun i _ hi=>hends _ i (Nat.le_refl _)⟩ n
 ·have hlike:∀{xs:List Nat} {l:List Nd},aO (aD (z++x)) (gA z x) rp xs l→(∀p∈xs,p < (z++x).length)→aK (fJ fun a b=>∃q n,z[q]?=some n∧aG n=true∧a=(rp q:Int)∧b=n.2) l (xs.flatMap V):=by
   intro xs l he
   induction he with
   | nil=>intro _;exact aK.nil
   | @var i r l hv _ ih=>
    intro hr
    have hi:=hr i (by simp)
    obtain ⟨q,hq,hc⟩ : ∃q,q < z.length∧gA z x i q:=by
     by_cases h3:i < z.length
     ·exact ⟨i,h3,Cl.refl i⟩
     ·exact hcorr i (by omega) (by rw [hN] at hi;exact hi)
    have hqn:(z++x)[q]?=some z[q]:=by rw [List.getElem?_append_left hq,List.getElem?_eq_getElem hq]
    have hqv:aG z[q]=true:=by
     cases h4:aG z[q] with
     | true=>rfl
     | false=>exact absurd ((eV hqn).2 h4) (hv q hc)
    have hVi:V i=[z[q]]:=by
     have:V i=V q:=by
      rcases hE i q hc with rfl | ⟨_,_,e⟩
      ·rfl
      ·exact e
     rw [this,hVv hqn hqv,h2 z[q] (List.getElem_mem _) hqv]
    rw [List.flatMap_cons,hVi]
    refine aK.cons (Or.inl ⟨nN _,hqv,?_,q,z[q],List.getElem?_eq_getElem hq,hqv,?_,rfl⟩) (ih fun p hp=>hr p (by simp [hp]))
    ·exact (congrArg Prod.fst (uQ hqv)).symm
    ·rw [(r1 i q).2 hc]
   | @name i j r l hc hn _ ih=>
    intro hr
    obtain ⟨n,n1,n2⟩:=fY hn
    have hVi:V i=V j:=by
     rcases hE i j hc with rfl | ⟨_,_,e⟩
     ·rfl
     ·exact e
    have:=ih fun p hp=>by
     rcases List.mem_append.1 hp with hp | hp
     ·exact hin hn hp
     ·exact hr p (by simp [hp])
    rw [List.flatMap_append] at this
    rw [List.flatMap_cons,hVi,hVn n1 n2,jY n1]
    exact aK.cons (Or.inr ⟨n2,rfl⟩) this
  have hm:=hlike r2 (by intro p hp;simp at hp;subst hp;omega)
  simp only [List.flatMap_cons,List.flatMap_nil,List.append_nil,hV0] at hm
  have hlen:=hm.length
  have hP:jJ fun a b=>∃q n,z[q]?=some n∧aG n=true∧a=(rp q:Int)∧b=n.2:=by
   rintro a b a' b' ⟨q,n,q1,q2,rfl,rfl⟩ ⟨q',n',q1',q2',rfl,rfl⟩
   have g1:(z++x)[q]?=some n:=by rw [List.getElem?_append_left (List.getElem?_eq_some_iff.1 q1).1];exact q1
   have g2:(z++x)[q']?=some n':=by rw [List.getElem?_append_left (List.getElem?_eq_some_iff.1 q1').1];exact q1'
   constructor
   ·intro e
    have hc:gA z x q q':=(r1 q q').1 (by omega)
    have hVq:V q=V q':=by
     rcases hE q q' hc with rfl | ⟨_,_,e⟩
     ·rfl
     ·exact e
    rw [hVv g1 q2,hVv g2 q2',h2 n (List.mem_of_getElem? q1) q2,h2 n' (List.mem_of_getElem? q1') q2'] at hVq
    simp at hVq
    rw [hVq]
   ·intro e
    have hput:∀{p:Nat} {n:Nd},(z++x)[p]?=some n→(aJ 0 z++aJ 0 x)[p]?=some ((0:Int),n):=by
     intro p n hp
     have e2:aJ 0 z++aJ 0 x=(z++x).map fun n=>((0:Int),n):=by simp [aJ]
     rw [e2,List.getElem?_map,hp]
     rfl
    have:rp q=rp q':=(r1 q q').2 (Cl.base (Or.inl ((qL _ _ _).2 (Or.inr ⟨_,_,hput g1,hput g2,q2,q2',rfl,e⟩))))
    omega
  have hren:=(xM hP hm (s:=[]) (t:=[]) aK.nil).1
  rcases r3 with ⟨q1,_⟩ | ⟨_,rfl,rfl,rfl⟩
  ·omega
  ·exact ⟨hren,rfl,rfl⟩
end
theorem aR4:∀(l:List Nd) (k:Nat),iW l k→(∀n∈l,dH n=true)→aI l k=true:=by
 intro l
 induction l with
 | nil=>
  intro k h _
  cases k with
  | zero=>rfl
  | succ k=>exact absurd h.1 (by simp [cM])
 | cons n r ih=>
  intro k h hn
  cases k with
  | zero=>have:=h.2;simp at this
  | succ k=>
   rw [lJ,hn n (by simp),Bool.true_and]
   exact ih _ ⟨by have:=h.1;simpa [cM] using this,by have:=h.2;simp [aF] at this;omega⟩ fun m hm=>hn m (by simp [hm])
theorem aG1 {L:List Nd} {R:Nat→Nat→Prop} {rep:Nat→Nat} {x:List Nat} {l:List Nd} (h:aO (aD L) R rep x l):iW l x.length∧∀n∈l,aG n=false→n∈L:=by
 induction h with
 | nil=>exact ⟨⟨by simp,by simp⟩,by simp⟩
 | @var i r l _ _ ih=>
  have hw:=jC (nN (rep i:Int))
  refine ⟨⟨?_,?_⟩,?_⟩
  ·simp only [List.length_cons,cM,hw,Nat.add_zero]
   exact ih.1.1
  ·have:=ih.1.2
   simp only [List.length_cons,aF,hw,Nat.add_zero]
   omega
  ·intro n hn hv
   rcases List.mem_cons.1 hn with rfl | hn
   ·rw [nN] at hv;cases hv
   ·exact ih.2 n hn hv
 | @name i j r l _ h2 _ ih=>
  obtain ⟨n,h3,h4⟩:=fY h2
  have hl:((aD L).ch j).length=aZ n:=by rw [eP h3,sO]
  obtain ⟨⟨i1,i2⟩,i3⟩:=ih
  rw [List.length_append,hl,Nat.add_comm] at i1 i2
  rw [jY h3]
  refine ⟨⟨?_,?_⟩,?_⟩
  ·simp only [List.length_cons,cM]
   exact i1
  ·simp only [List.length_cons,aF]
   omega
  ·intro m hm hv
   rcases List.mem_cons.1 hm with rfl | hm
   ·exact List.mem_of_getElem? h3
   ·exact i3 m hm hv
theorem aR5 {x y:List Nd} {R:Nat→Nat→Prop} {rep:Nat→Nat} (hx:aI x 1=true) (hD:gD (aD (x++y)) R) (hC:fK (aD (x++y)) R) (hrep:∀i j,R i j→rep i=rep j) (hv:∀(p q:Nat) (n m:Nd),x[p]?=some n→x[q]?=some m→aG n=true→aG m=true→n.2=m.2→R p q)
  (hE:∀p,p < x.length→bG (aD (x++y)) R p) {m:List Nd} (hm:aO (aD (x++y)) R rep [0] m):∃σ:Int→List Nd,m=subst σ x∧∀n∈x,aG n=true→∃p,aO (aD (x++y)) R rep [p] (σ n.2):=by
 have hx0:0 < x.length:=by
  cases x with
  | nil=>simp [aI] at hx
  | cons=>simp
 have hW:=kN hx
 have hW':∀p,p < x.length→∃l,aO (aD (x++y)) R rep [p] l:=fun p hp=>(hE p hp).exp
 obtain ⟨σ,hσ⟩ : ∃σ:Int→List Nd,∀(p:Nat) (n:Nd),x[p]?=some n→aG n=true→aO (aD (x++y)) R rep [p] (σ n.2):=by
  refine ⟨fun v=>Classical.epsilon fun l=>∃(p:Nat) (n:Nd),x[p]?=some n∧aG n=true∧n.2=v∧aO (aD (x++y)) R rep [p] l,fun p n hp hvn=>?_⟩
  obtain ⟨l,hl⟩:=hW' p (List.getElem?_eq_some_iff.1 hp).1
  obtain ⟨q,k,q1,q2,q3,q4⟩:=Classical.epsilon_spec (p:=fun l=>∃(p:Nat) (k:Nd),x[p]?=some k∧aG k=true∧k.2=n.2∧aO (aD (x++y)) R rep [p] l) ⟨l,p,n,hp,hvn,rfl,hl⟩
  exact q4.same hD hrep _ (aK.cons (hv q p k n q1 hp q2 hvn q3) aK.nil)
 have main:∀(k p:Nat),p+k=x.length→p < x.length→aO (aD (x++y)) R rep [p] (subst σ (kQ x p)):=by
  intro k
  induction k using Nat.strongRecOn with
  | _ k ih=>
   intro p hk hp
   have g1:x[p]?=some x[p]:=List.getElem?_eq_getElem hp
   have g2:(x++y)[p]?=some x[p]:=by rw [List.getElem?_append_left hp,g1]
   cases hvn:aG x[p] with
   | true=>
    rw [aFy g1 hvn,iP]
    simp only [hvn,if_true,subst,List.flatMap_nil,List.append_nil]
    exact hσ p _ g1 hvn
   | false=>
    rw [aB6 g1,iP,aG0]
    simp only [hvn,Bool.false_eq_true,if_false,List.cons_append,List.nil_append]
    have hn:=(eV g2).2 hvn
    have hch:(aD (x++y)).ch p=(aD x).ch p:=mR hW hp
    have hin:∀u∈(aD x).ch p,p < u∧u < x.length:=by
     intro u hu
     rw [eP g1] at hu
     have h4:=rG _ _ _ (hW p _ g1) u hu
     have h5:aF (x.drop p) 1≤(x.drop p).length:=lK _ _
     rw [List.drop_eq_getElem_cons hp] at h5
     simp [aF] at h5
     omega
    have hlist:∀us:List Nat,(∀u∈us,p < u∧u < x.length)→aO (aD (x++y)) R rep us (us.flatMap fun q=>subst σ (kQ x q)):=by
     intro us
     induction us with
     | nil=>intro _;exact aO.nil
     | cons u us ihu=>
      intro hus
      have hu:=hus u (by simp)
      exact aO.append (r:=[u]) (ih (x.length - u) (by omega) u (by omega) hu.2) (ihu fun q hq=>hus q (by simp [hq]))
    have:=aO.name (rep:=rep) (R:=R) (r:=[]) (hD.refl p) hn (by rw [List.append_nil,hch];exact hlist _ hin)
    rwa [jY g2] at this
 have h0:=main x.length 0 (by omega) hx0
 have hs0:kQ x 0=x:=by
  unfold kQ
  have:=oW x 1 [] hx
  rw [List.append_nil] at this
  rw [List.drop_zero,this,List.take_length]
 rw [hs0] at h0
 refine ⟨σ,hm.one hD hC (oT _) hrep _ h0,fun n hn hvn=>?_⟩
 obtain ⟨p,hp,rfl⟩:=List.getElem_of_mem hn
 exact ⟨p,hσ p _ (List.getElem?_eq_getElem hp) hvn⟩
def iK (s:List Int) (a b:Int):Prop:=∃k:Nat,s[k]?=some a∧b=(k:Int)
theorem aG2 (s:List Int) (x:Int):(dU s x < 0→x∉s)∧(0≤dU s x→iK s x (dU s x)):=by
 unfold dU iK
 rw [←List.reverse_reverse s]
 generalize s.reverse=r
 rw [List.reverse_reverse]
 induction r with
 | nil=>simp [pV]
 | cons y r ih=>
  simp only [pV]
  by_cases h:y=x
  ·subst h
   rw [if_pos rfl]
   refine ⟨fun h=>by omega,fun _=>⟨r.length,?_,rfl⟩⟩
   rw [List.reverse_cons,List.getElem?_append_right (by simp)]
   simp
  ·rw [if_neg h]
   refine ⟨fun h1 h2=>?_,fun h1=>?_⟩
   ·rw [List.reverse_cons] at h2
    rcases List.mem_append.1 h2 with h2 | h2
    ·exact ih.1 h1 h2
    ·simp at h2;exact h h2.symm
   ·obtain ⟨k,k1,k2⟩:=ih.2 h1
    refine ⟨k,?_,k2⟩
    rw [List.reverse_cons,List.getElem?_append_left (List.getElem?_eq_some_iff.1 k1).1]
    exact k1
theorem aR6 {V V':Int→Int→Prop} (h:∀a b,V a b→V' a b) {n m:Nd} (k:fJ V n m):fJ V' n m:=by
 rcases k with ⟨a,b,c,d⟩ | k
 ·exact Or.inl ⟨a,b,c,h _ _ d⟩
 ·exact Or.inr k
theorem aR7:∀(l:List Nd) (p:List Nd) (st:List Nd×List Int),st.2.Nodup→aK (fJ (iK st.2)) p st.1→(l.foldl bY st).2.Nodup∧aK (fJ (iK (l.foldl bY st).2)) (p++l) (l.foldl bY st).1:=by
 intro l
 induction l with
 | nil=>intro p st h1 h2;simpa using ⟨h1,h2⟩
 | cons n l ih=>
  intro p st h1 h2
  rw [List.foldl_cons]
  have key:(bY st n).2.Nodup∧aK (fJ (iK (bY st n).2)) (p++[n]) (bY st n).1:=by
   unfold bY
   cases hv:aG n with
   | false=>exact ⟨h1,h2.snoc (Or.inr ⟨hv,rfl⟩)⟩
   | true=>
    simp only [if_true]
    by_cases hp:dU st.2 n.2 < 0
    ·rw [if_pos hp]
     have hnm:=(aG2 st.2 n.2).1 hp
     refine ⟨?_,?_⟩
     ·rw [List.nodup_append]
      exact ⟨h1,by simp,fun a ha b hb=>by simp at hb;subst hb;exact fun e=>hnm (e▸ha)⟩
     ·have hup:∀a b,iK st.2 a b→iK (st.2++[n.2]) a b:=by
       rintro a b ⟨k,k1,k2⟩
       exact ⟨k,by rw [List.getElem?_append_left (List.getElem?_eq_some_iff.1 k1).1];exact k1,k2⟩
      refine aK.snoc (h2.mono fun a b k=>aR6 hup k) (Or.inl ⟨hv,hv,rfl,st.2.length,?_,rfl⟩)
      rw [List.getElem?_append_right (Nat.le_refl _)]
      simp
    ·rw [if_neg hp]
     exact ⟨h1,h2.snoc (Or.inl ⟨hv,hv,rfl,(aG2 st.2 n.2).2 (by omega)⟩)⟩
  have:=ih (p++[n]) (bY st n) key.1 key.2
  rwa [List.append_assoc,List.singleton_append] at this
theorem aG3 (l:List Nd):(bW l []).2.Nodup∧aK (fJ (iK (bW l []).2)) l (bW l []).1:=aR7 l [] ([],[]) (by simp) aK.nil
theorem iK.pairs {s:List Int} (h:s.Nodup):jJ (iK s):=by
 rintro a b a' b' ⟨k,k1,rfl⟩ ⟨k',k1',rfl⟩
 obtain ⟨h1,rfl⟩:=List.getElem?_eq_some_iff.1 k1
 obtain ⟨h2,rfl⟩:=List.getElem?_eq_some_iff.1 k1'
 constructor
 ·intro e
  have:=(List.getElem_inj h).1 e
  omega
 ·intro e
  have:k=k':=by omega
  subst this
  rfl
def gB (n:Nd):Nd:=if aG n then (n.1,59 - n.2) else n
theorem aG4 {V:Int→Int→Prop} {l m:List Nd} (h:aK (fJ V) l m) {ρ:Int→Int} (hρ:∀a b,V a b→ρ a=b):m=subst (fun y=>[(⟨#[]⟩,ρ y)]) l:=by
 induction h with
 | nil=>rfl
 | @cons n k _ _ h1 _ ih=>
  rw [iP,←ih]
  rcases h1 with ⟨a,b,c,d⟩ | ⟨a,rfl⟩
  ·rw [if_pos a,hρ _ _ d,←uQ b];rfl
  ·rw [if_neg (by simp [a])];rfl
theorem aR8 (σ τ:Int→List Nd) (l:List Nd):subst τ (subst σ l)=subst (fun v=>subst τ (σ v)) l:=by
 induction l with
 | nil=>rfl
 | cons n r ih=>
  rw [iP,iP,aFz,ih]
  cases hv:aG n with
  | true=>simp
  | false=>simp [subst,hv]
theorem aR9 {x y l o:List Nd} {e g:Int} {yes:Bool} (h:kP x y l true e) (hl:l.length≤60) (hx20:∀n∈x,aG n=true→n.2 < 20) (ha20:∀n∈l.map gB,aG n=true→20≤n.2) (h2:kP (l.map gB) x o yes g):o=l∧yes=true∧g=0:=by
 rcases h with ⟨_,_,hh,_⟩ | ⟨⟨tx,ty⟩,h⟩
 ·cases hh
 have hx:aI x 1=true:=by have:=tx;unfold dT at this;simp at this;exact this.1
 have hy:aI y 1=true:=by have:=ty;unfold dT at this;simp at this;exact this.1
 rcases h with ⟨_,_,hh,_⟩ | ⟨⟨hC,hE⟩,m,rp,r1,r2,r3⟩
 ·cases hh
 have hlm:l=(bW m []).1:=by
  rcases r3 with ⟨_,_,hh,_⟩ | ⟨_,hh,_⟩
  ·cases hh
  ·exact hh
 have hx0:0 < x.length:=by
  cases x with
  | nil=>simp [aI] at hx
  | cons=>simp
 have hD:gD (aD (x++y)) (gA x y):=Cl.isDown _ _
 have hrep:∀i j,gA x y i j→rp i=rp j:=fun i j c=>(r1 i j).2 c
 have hput:∀{p:Nat} {n:Nd},x[p]?=some n→(aJ 0 x++aJ 0 y)[p]?=some ((0:Int),n):=by
  intro p n hp
  have e2:aJ 0 x++aJ 0 y=(x++y).map fun n=>((0:Int),n):=by simp [aJ]
  rw [e2,List.getElem?_map,List.getElem?_append_left (List.getElem?_eq_some_iff.1 hp).1,hp]
  rfl
 have hEall:∀p,p < x.length→bG (aD (x++y)) (gA x y) p:=by
  intro p hp
  refine aB5 Cl.refl ((kN hx).append (kN hy)) (i:=0) (by simp;omega) (hE 0 (by omega) rfl) p (Nat.zero_le _) ?_
  rw [List.drop_zero,oW x 1 y hx]
  omega
 obtain ⟨σ,hσ,hσ2⟩:=aR5 hx hD hC hrep (fun p q n k hp hq hn hk e=>Cl.base (Or.inl ((qL _ _ _).2 (Or.inr ⟨_,_,hput hp,hput hq,hn,hk,rfl,e⟩)))) hEall r2
 obtain ⟨hnd,hlike⟩:=aG3 m
 have hml:m.length=l.length:=by rw [hlm];exact hlike.length
 obtain ⟨s,hs⟩ : ∃s,(bW m []).2=s:=⟨_,rfl⟩
 rw [hs] at hnd hlike
 rw [←hlm] at hlike
 have hsl:s.length≤60:=by
  have:=(oN m []).2
  rw [hs] at this
  simp at this
  omega
 have hlike2:aK (fJ fun a b=>∃c,iK s a c∧b=59 - c) m (l.map gB):=by
  clear hml hl h2 r2 r3 hlm hσ ha20 hs
  induction hlike with
  | nil=>exact aK.nil
  | @cons n k _ _ a _ ih=>
   refine aK.cons ?_ ih
   unfold gB
   rcases a with ⟨a1,a2,a3,a4⟩ | ⟨a1,rfl⟩
   ·rw [if_pos a2]
    refine Or.inl ⟨a1,?_,a3,_,a4,rfl⟩
    unfold aG at a2 ⊢
    exact a2
   ·rw [if_neg (by simp [a1])]
    exact Or.inr ⟨a1,rfl⟩
 have hP2:jJ fun a b=>∃c,iK s a c∧b=59 - c:=by
  rintro a b a' b' ⟨c,c1,rfl⟩ ⟨c',c1',rfl⟩
  have:=iK.pairs hnd a c a' c' c1 c1'
  constructor
  ·intro e;have:=this.1 e;omega
  ·intro e;exact this.2 (by omega)
 obtain ⟨ρ,hρ⟩ : ∃ρ:Int→Int,∀a b,(∃c,iK s a c∧b=59 - c)→ρ a=b:=by
  refine ⟨fun a=>Classical.epsilon fun b=>∃c,iK s a c∧b=59 - c,fun a b hab=>?_⟩
  have:=Classical.epsilon_spec (p:=fun b=>∃c,iK s a c∧b=59 - c) ⟨b,hab⟩
  exact (hP2 a _ a b this hab).1 rfl
 obtain ⟨z,hz⟩ : ∃z,l.map gB=z:=⟨_,rfl⟩
 rw [hz] at hlike2 h2 ha20
 have hzl:z.length≤60:=by rw [←hz];simpa using hl
 have hzs:=aG4 hlike2 hρ
 rw [hσ,aR8] at hzs
 have hren:=(xM hP2 hlike2 (s:=[]) (t:=[]) aK.nil).1
 rw [←hlm] at hren
 obtain ⟨tk,tn⟩:=aG1 r2
 have hzk:iW z 1:=by
  rw [aG4 hlike2 hρ]
  refine aB7 m 1 (fun n _ _=>?_) tk
  have hw:=jC (nN (ρ n.2))
  exact ⟨by simp [cM,hw],by simp [aF,hw]⟩
 have hok:∀n∈x++y,dH n=true:=by
  intro n hn
  rcases List.mem_append.1 hn with hn | hn
  ·exact aAt hx n hn
  ·exact aAt hy n hn
 have hzok:∀n∈z,dH n=true:=by
  have key:∀{m z:List Nd},aK (fJ fun a b=>∃c,iK s a c∧b=59 - c) m z→(∀n∈m,aG n=false→n∈x++y)→∀n∈z,dH n=true:=by
   intro m z hh
   induction hh with
   | nil=>intro _ n hn;simp at hn
   | @cons a b _ _ h1 _ ih=>
    intro hm n hn
    rcases List.mem_cons.1 hn with rfl | hn
    ·rcases h1 with ⟨_,b2,_,c,⟨k,k1,rfl⟩,e⟩ | ⟨a1,rfl⟩
     ·have hk:=(List.getElem?_eq_some_iff.1 k1).1
      unfold dH
      rw [if_pos b2]
      simp
      omega
     ·exact hok _ (hm _ (by simp) a1)
    ·exact ih (fun n hn=>hm n (by simp [hn])) n hn
  exact key hlike2 tn
 have hzt:aI z 1=true:=aR4 z 1 hzk hzok
 rcases h2 with ⟨hn,_⟩ | ⟨_,h2⟩
 ·exact absurd ⟨by unfold dT;simp [hzt,hzl],tx⟩ hn
 refine (fun (q:o=(bW z []).1∧yes=true∧g=0)=>⟨q.1.trans hren.symm,q.2⟩) (aR3 (θ:=fun v=>if v < 20 then subst (fun y=>[(⟨#[]⟩,ρ y)]) (σ v) else [(⟨#[]⟩,v)]) hx hzt (fun n hn hv=>?_) ?_ (fun n hn hv=>?_) (by omega) h2)
 ·rw [if_pos (hx20 n hn hv)]
  obtain ⟨p,hp⟩:=hσ2 n hn hv
  refine aB7 _ 1 (fun k _ _=>?_) (aG1 hp).1
  have hw:=jC (nN (ρ k.2))
  exact ⟨by simp [cM,hw],by simp [aF,hw]⟩
 ·rw [hzs]
  exact aA9 fun n hn hv=>by rw [if_pos (hx20 n hn hv)]
 ·have:=ha20 n hn hv
  rw [if_neg (by omega),←uQ hv]
def dR (a y x p:Nat):Nat:=if p < a then p else if p < a+y then p+x else if p < a+y+x then p - y else p
section
variable {A X Y B:List Tg}
theorem aRa (p:Nat):(A++Y++X++B)[p]?=(A++X++Y++B)[dR A.length Y.length X.length p]?:=by
 unfold dR
 by_cases h1:p < A.length
 ·rw [if_pos h1,List.append_assoc,List.append_assoc,List.append_assoc,List.append_assoc,List.getElem?_append_left h1,List.getElem?_append_left h1]
 ·rw [if_neg h1]
  by_cases h2:p < A.length+Y.length
  ·rw [if_pos h2,List.append_assoc,List.getElem?_append_left (by simp;omega),List.getElem?_append_right (by omega)]
   rw [List.getElem?_append_left (by simp;omega),List.getElem?_append_right (by simp;omega)]
   congr 1
   simp
   omega
  ·rw [if_neg h2]
   by_cases h3:p < A.length+Y.length+X.length
   ·rw [if_pos h3,List.getElem?_append_left (by simp;omega),List.getElem?_append_right (by simp;omega)]
    rw [List.append_assoc,List.getElem?_append_left (by simp;omega),List.getElem?_append_right (by omega)]
    congr 1
    simp
    omega
   ·rw [if_neg h3,List.getElem?_append_right (by simp;omega),List.getElem?_append_right (by simp;omega)]
    congr 1
    simp
    omega
theorem aG5 (a y x:Nat) {p q:Nat} (h:dR a y x p=dR a y x q):p=q:=by
 unfold dR at h
 split at h <;> split at h <;> (try split at h) <;> (try split at h) <;> (try split at h) <;> (try split at h) <;> omega
theorem aB8 (a y x q:Nat):∃p,dR a y x p=q∧(q < a+x+y→p < a+y+x):=by
 by_cases h1:q < a
 ·exact ⟨q,by unfold dR;rw [if_pos h1],fun _=>by omega⟩
 ·by_cases h2:q < a+x
  ·refine ⟨q+y,?_,fun _=>by omega⟩
   unfold dR
   rw [if_neg (by omega),if_neg (by omega),if_pos (by omega)]
   omega
  ·by_cases h3:q < a+x+y
   ·refine ⟨q - x,?_,fun _=>by omega⟩
    unfold dR
    rw [if_neg (by omega),if_pos (by omega)]
    omega
   ·exact ⟨q,by unfold dR;rw [if_neg (by omega),if_neg (by omega),if_neg (by omega)],fun h=>absurd h h3⟩
end
theorem aRb {x y:List Nd} (hx:dC x) (hy:dC y) {p:Nat} (hp:p < x.length+y.length):(aD (y++x)).ch (dR 0 x.length y.length p)=((aD (x++y)).ch p).map (dR 0 x.length y.length):=by
 have inn:∀{T:List Nd} (hT:dC T) {q u:Nat},q < T.length→u∈(aD T).ch q→u < T.length:=by
  intro T hT q u hq hu
  have h1:T[q]?=some T[q]:=List.getElem?_eq_getElem hq
  rw [eP h1] at hu
  have h4:=(rG _ _ _ (hT q _ h1) u hu).2
  have h5:aF (T.drop q) 1≤(T.drop q).length:=lK _ _
  rw [List.drop_eq_getElem_cons hq] at h5
  simp [aF] at h5
  omega
 by_cases h:p < x.length
 ·have e:dR 0 x.length y.length p=y.length+p:=by
   unfold dR
   repeat' split
   all_goals omega
  rw [e,aFw h,mR hx h]
  refine List.map_congr_left fun u hu=>?_
  have:=inn hx h hu
  unfold dR
  repeat' split
  all_goals omega
 ·obtain ⟨q,rfl⟩ : ∃q,p=x.length+q:=⟨p - x.length,by omega⟩
  have hq:q < y.length:=by omega
  have e:dR 0 x.length y.length (x.length+q)=q:=by
   unfold dR
   repeat' split
   all_goals omega
  rw [e,aFw hq,mR hy hq,List.map_map]
  refine (List.map_id _).symm.trans (List.map_congr_left fun u hu=>?_)
  have:=inn hy hq hu
  simp only [Function.comp,id]
  unfold dR
  repeat' split
  all_goals omega
theorem aRc {x y:List Nd} (hx:aI x 1=true) (hy:aI y 1=true):Laid (aD (x++y)) (aD (y++x)) (fun i j=>aS (aJ 0 x++aJ 0 y) i=aS (aJ 0 x++aJ 0 y) j∨(i=0∧j=x.length)) (fun i j=>aS (aJ 0 y++aJ 0 x) i=aS (aJ 0 y++aJ 0 x) j∨(i=0∧j=y.length)) (dR 0 x.length y.length):=by
 have hx0:0 < x.length:=by
  cases x with
  | nil=>simp [aI] at hx
  | cons=>simp
 have hy0:0 < y.length:=by
  cases y with
  | nil=>simp [aI] at hy
  | cons=>simp
 have hat:∀p:Nat,(aJ 0 x++aJ 0 y)[p]?=(aJ 0 y++aJ 0 x)[dR 0 x.length y.length p]?:=by
  intro p
  have:=@aRa [] (aJ 0 y) (aJ 0 x) [] p
  simpa using this
 have hat2:∀p:Nat,(x++y)[p]?=(y++x)[dR 0 x.length y.length p]?:=by
  intro p
  have:=congrArg (Option.map Prod.snd) (hat p)
  rw [←List.getElem?_map,←List.getElem?_map,List.map_append,List.map_append,mS,mS] at this
  exact this
 have hlab:∀p,(aD (x++y)).lab p=(aD (y++x)).lab (dR 0 x.length y.length p):=by
  intro p
  show ((x++y)[p]?).getD _=((y++x)[_]?).getD _
  rw [hat2]
 have hnm:∀p,(aD (x++y)).named p↔(aD (y++x)).named (dR 0 x.length y.length p):=by
  intro p
  unfold Gr.named
  rw [hlab]
 have s0:dR 0 x.length y.length 0=y.length:=by
  unfold dR
  repeat' split
  all_goals omega
 have s1:dR 0 x.length y.length x.length=0:=by
  unfold dR
  repeat' split
  all_goals omega
 have hsame:∀p q,xJ (aJ 0 x++aJ 0 y) p q↔xJ (aJ 0 y++aJ 0 x) (dR 0 x.length y.length p) (dR 0 x.length y.length q):=by
  intro p q
  unfold xJ
  rw [←hat,←hat]
  constructor
  ·rintro (rfl | h)
   ·exact Or.inl rfl
   ·exact Or.inr h
  ·rintro (h | h)
   ·exact Or.inl (aG5 _ _ _ h)
   ·exact Or.inr h
 refine ⟨hnm,fun p _=>hlab p,fun p hp=>?_,fun p q e=>?_,?_,?_,fun r _=>?_⟩
 ·obtain ⟨n,a,_⟩:=fY hp
  have:=(List.getElem?_eq_some_iff.1 a).1
  exact aRb (kN hx) (kN hy) (by simpa using this)
 ·rw [aG5 _ _ _ e]
  exact Cl.refl _
 ·rintro p q (h | ⟨rfl,rfl⟩)
  ·exact Cl.base (Or.inl ((qL _ _ _).2 ((hsame p q).1 ((qL _ _ _).1 h))))
  ·rw [s0,s1]
   exact Cl.symm (Cl.base (Or.inr ⟨rfl,rfl⟩))
 ·rintro r s (h | ⟨rfl,rfl⟩)
  ·obtain ⟨p,rfl,_⟩:=aB8 0 x.length y.length r
   obtain ⟨q,rfl,_⟩:=aB8 0 x.length y.length s
   exact ⟨p,q,rfl,rfl,Cl.base (Or.inl ((qL _ _ _).2 ((hsame p q).2 ((qL _ _ _).1 h))))⟩
  ·exact ⟨x.length,0,s1,s0,Cl.symm (Cl.base (Or.inr ⟨rfl,rfl⟩))⟩
 ·obtain ⟨p,h,_⟩:=aB8 0 x.length y.length r
  exact ⟨p,h⟩
theorem aRd {x y l l':List Nd} {b b':Bool} {e e':Int} (h:kP x y l b e) (k:kP y x l' b' e'):l=l'∧b=b'∧e=e':=by
 rcases h with ⟨n1,rfl,rfl,rfl⟩ | ⟨n1,h⟩
 ·rcases k with ⟨_,rfl,rfl,rfl⟩ | ⟨n2,_⟩
  ·exact ⟨rfl,rfl,rfl⟩
  ·exact absurd ⟨n2.2,n2.1⟩ n1
 ·rcases k with ⟨n2,_⟩ | ⟨_,k⟩
  ·exact absurd ⟨n1.2,n1.1⟩ n2
  ·have hx:aI x 1=true:=by have:=n1.1;unfold dT at this;simp at this;exact this.1
   have hy:aI y 1=true:=by have:=n1.2;unfold dT at this;simp at this;exact this.1
   have hx0:0 < x.length:=by
    cases x with
    | nil=>simp [aI] at hx
    | cons=>simp
   have hL:=aRc hx hy
   have s0:dR 0 x.length y.length 0=y.length:=by
    unfold dR
    repeat' split
    all_goals omega
   have hD:gD (aD (y++x)) (gA y x):=Cl.isDown _ _
   have hroot:gA y x y.length 0:=Cl.symm (Cl.base (Or.inr ⟨rfl,rfl⟩))
   have hsame:(fK (aD (x++y)) (gA x y)∧∀i,i < x.length+y.length→i=0→bG (aD (x++y)) (gA x y) i)↔(fK (aD (y++x)) (gA y x)∧∀i,i < y.length+x.length→i=0→bG (aD (y++x)) (gA y x) i):=by
    constructor
    ·rintro ⟨c1,c2⟩
     refine ⟨hL.clash.1 c1,?_⟩
     rintro i _ rfl
     have:=hL.ends_to (c2 0 (by omega) rfl)
     rw [s0] at this
     exact this.same hD hroot
    ·rintro ⟨c1,c2⟩
     refine ⟨hL.clash.2 c1,?_⟩
     rintro i _ rfl
     exact hL.ends_from ((c2 0 (by omega) rfl).same hD (hD.symm _ _ hroot)) 0 s0
   rcases h with ⟨m1,rfl,rfl,rfl⟩ | ⟨m1,m,rp,p1,p2,p3⟩
   ·rcases k with ⟨m2,rfl,rfl,rfl⟩ | ⟨m2,_⟩
    ·exact ⟨rfl,rfl,rfl⟩
    ·exact absurd (hsame.2 m2) m1
   ·rcases k with ⟨m2,_⟩ | ⟨m2,m',rd,d1,d2,d3⟩
    ·exact absurd (hsame.1 m1) m2
    ·obtain ⟨m3,k1,k2⟩:=hL.exp (rd:=rd) p2
     simp only [List.map_cons,List.map_nil,s0] at k1
     have k3:=k1.same hD (fun i j hij=>(d1 i j).2 hij) [0] (aK.cons hroot aK.nil)
     have hm:m3=m':=k3.one hD m2.1 (oT _) (fun i j hij=>(d1 i j).2 hij) m' d2
     subst hm
     have hlen:=k2.length
     have hren:=(xM (hL.pairs p1 d1) k2 (s:=[]) (t:=[]) aK.nil).1
     rcases p3 with ⟨q1,rfl,rfl,rfl⟩ | ⟨q1,rfl,rfl,rfl⟩
     ·rcases d3 with ⟨_,rfl,rfl,rfl⟩ | ⟨r1,_⟩
      ·exact ⟨rfl,rfl,rfl⟩
      ·omega
     ·rcases d3 with ⟨r1,_⟩ | ⟨_,rfl,rfl,rfl⟩
      ·omega
      ·exact ⟨hren,rfl,rfl⟩
end Go.Proofs.YthicbnejchpmgaaGreatDoor
