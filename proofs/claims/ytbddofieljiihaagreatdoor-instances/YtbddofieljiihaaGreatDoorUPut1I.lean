/- Pure: each place of a term has a row in the document's table. What holds while the document joins classes. The document's table: two rows are the same, and all that follows. Pure: the program's places laid on the document's rows. Pure: what the program answers by its places is what the document answers by its rows. Pure: Unify's answer, by the program's places and by the document's rows, is one. Pure: a term and what it is by terms in the place of its variables: the latter is what both are made. Pure: what two terms are made, made with the first of them, stays as it is. The program: terms are made room for. The program: terms are put into new ones. -/
import Derived.Test.YtbddofieljiihaaGreatDoorONumberI
import Derived.Test.YtbddofieljiihaaGreatDoorUAppI
namespace Go.Proofs.YtbddofieljiihaaGreatDoor
open Go.RowKit Go.Shelf Go.WideMaps
set_option maxRecDepth 100000
theorem bS.iff {G:Gr} {R S:Nat→Nat→Prop} (h:∀i j,R i j↔S i j) {i:Nat}:bS G R i↔bS G S i:=by
 have e:R=S:=by funext i j;exact propext (h i j)
 rw [e]
def aY (M:List Tg) (p:Nat):Nat:=match M[p]? with | some t=>if aH t.2 then M.findIdx (eM t.1 t.2.2) else p | none=>p
theorem oA {M:List Tg} {p:Nat} (h:M.length≤p):aY M p=p:=by unfold aY;rw [List.getElem?_eq_none h]
theorem mL {M:List Tg} {p:Nat} {t:Tg} (h:M[p]?=some t) (hv:aH t.2=false):aY M p=p:=by unfold aY;rw [h];simp [hv]
theorem mM {M:List Tg} {p:Nat} {t:Tg} (h:M[p]?=some t) (hv:aH t.2=true):aY M p=M.findIdx (eM t.1 t.2.2)∧aY M p≤p∧∃s,M[aY M p]?=some s∧aH s.2=true∧s.1=t.1∧s.2.2=t.2.2:=by
 have hl:=(List.getElem?_eq_some_iff.1 h).1
 have he:M[p]=t:=(List.getElem?_eq_some_iff.1 h).2
 have hp:eM t.1 t.2.2 t=true:=by simp [eM,hv]
 have e:aY M p=M.findIdx (eM t.1 t.2.2):=by unfold aY;rw [h];simp [hv]
 have hle:M.findIdx (eM t.1 t.2.2)≤p:=by
  apply Nat.le_of_not_lt
  intro hlt
  have:=List.not_of_lt_findIdx hlt
  rw [he,hp] at this
  cases this
 have hlt:M.findIdx (eM t.1 t.2.2) < M.length:=by omega
 refine ⟨e,by omega,M[M.findIdx (eM t.1 t.2.2)],by rw [e];exact List.getElem?_eq_getElem hlt,?_⟩
 have:=List.findIdx_getElem (w:=hlt)
 simpa [eM] using this
def aSb (M:List Tg) (p q:Nat):Prop:=p=q∨∃s t,M[p]?=some s∧M[q]?=some t∧aH s.2=true∧aH t.2=true∧s.1=t.1∧s.2.2=t.2.2
theorem aSc (M:List Tg) (p q:Nat):aY M p=aY M q↔aSb M p q:=by
 constructor
 ·intro e
  by_cases hp:∃s,M[p]?=some s∧aH s.2=true
  ·obtain ⟨s,hs,vs⟩:=hp
   obtain ⟨e1,e2,s',e3,e4,e5,e6⟩:=mM hs vs
   by_cases hq:∃t,M[q]?=some t∧aH t.2=true
   ·obtain ⟨t,ht,vt⟩:=hq
    obtain ⟨d1,d2,t',d3,d4,d5,d6⟩:=mM ht vt
    rw [e,d3] at e3
    simp at e3
    subst e3
    exact Or.inr ⟨s,t,hs,ht,vs,vt,by rw [←e5,d5],by rw [←e6,d6]⟩
   ·exfalso
    have hrq:aY M q=q:=by
     cases hm:M[q]? with
     | none=>exact oA (by simpa using hm)
     | some t=>
      refine mL hm ?_
      cases hv:aH t.2
      ·rfl
      ·exact absurd ⟨t,hm,hv⟩ hq
    rw [e,hrq] at e3
    exact hq ⟨s',e3,e4⟩
  ·have hrp:aY M p=p:=by
    cases hm:M[p]? with
    | none=>exact oA (by simpa using hm)
    | some t=>
     refine mL hm ?_
     cases hv:aH t.2
     ·rfl
     ·exact absurd ⟨t,hm,hv⟩ hp
   by_cases hq:∃t,M[q]?=some t∧aH t.2=true
   ·obtain ⟨t,ht,vt⟩:=hq
    obtain ⟨d1,d2,t',d3,d4,d5,d6⟩:=mM ht vt
    rw [←e,hrp] at d3
    exact absurd ⟨t',d3,d4⟩ hp
   ·have hrq:aY M q=q:=by
     cases hm:M[q]? with
     | none=>exact oA (by simpa using hm)
     | some t=>
      refine mL hm ?_
      cases hv:aH t.2
      ·rfl
      ·exact absurd ⟨t,hm,hv⟩ hq
    rw [hrp,hrq] at e
    exact Or.inl e
 ·rintro (rfl | ⟨s,t,h1,h2,h3,h4,h5,h6⟩)
  ·rfl
  ·rw [(mM h1 h3).1,(mM h2 h4).1,h5,h6]
def oY (M:List Tg):List Nat:=(List.range M.length).map fun p=>aY M p
theorem kM (M:List Tg):(oY M).length=M.length:=by simp [oY]
theorem rH {M:List Tg} {p:Nat} (h:p < M.length):(oY M)[p]?=some (aY M p):=by simp [oY,h]
theorem xH {M N:List Tg} {p:Nat} (h:p < M.length):aY (M++N) p=aY M p:=by
 have hm:M[p]?=some M[p]:=List.getElem?_eq_getElem h
 have hmn:(M++N)[p]?=some M[p]:=by rw [List.getElem?_append_left h,hm]
 cases hv:aH M[p].2
 ·rw [mL hm hv,mL hmn hv]
 ·obtain ⟨e1,e2,s,e3,e4,e5,e6⟩:=mM hm hv
  rw [(mM hmn hv).1,e1,List.findIdx_append,if_pos (by omega)]
theorem aSd {M:List Tg} {p:Nat} (h:p < M.length):lJ (M.take p) M[p].1 M[p].2=aY M p:=by
 have hm:M[p]?=some M[p]:=List.getElem?_eq_getElem h
 have hl:(M.take p).length=p:=by simp;omega
 unfold lJ
 rw [hl]
 cases hv:aH M[p].2
 ·rw [mL hm hv];rfl
 ·obtain ⟨e1,e2,_⟩:=mM hm hv
  rw [if_pos rfl,e1]
  have hsplit:M=M.take p++M.drop p:=(List.take_append_drop p M).symm
  have hf:M.findIdx (eM M[p].1 M[p].2.2)=if (M.take p).findIdx (eM M[p].1 M[p].2.2) < (M.take p).length then (M.take p).findIdx (eM M[p].1 M[p].2.2) else (M.drop p).findIdx (eM M[p].1 M[p].2.2)+(M.take p).length:=by
   generalize eM M[p].1 M[p].2.2=f
   conv=>lhs;rw [hsplit]
   rw [List.findIdx_append]
  unfold gQ
  rw [hf,hl]
  split
  ·rename_i hlt
   rw [List.findIdx?_eq_some_iff_findIdx_eq.2 ⟨by rw [hl];exact hlt,rfl⟩]
   rfl
  ·rename_i hlt
   rw [List.findIdx?_eq_none_iff_findIdx_eq.2 (by have:=List.findIdx_le_length (xs:=M.take p) (p:=eM M[p].1 M[p].2.2);omega)]
   rw [List.drop_eq_getElem_cons h,List.findIdx_cons]
   have:eM M[p].1 M[p].2.2 M[p]=true:=by simp [eM,hv]
   simp [this]
theorem aG7 (M:List Tg) (o:Int) (t:List Nd):oY (M++t.map fun n=>(o,n))=oY M++fW M o t t.length:=by
 apply List.ext_getElem?
 intro p
 by_cases hp:p < M.length
 ·rw [rH (by simp;omega),List.getElem?_append_left (by rw [kM];exact hp),rH hp,xH hp]
 ·rw [List.getElem?_append_right (by rw [kM];omega),kM]
  by_cases hq:p - M.length < t.length
  ·have hpl:p < (M++t.map fun n=>(o,n)).length:=by simp;omega
   rw [rH hpl,←aSd hpl]
   have he:(M++t.map fun n=>(o,n))[p]=(o,t[p - M.length]):=by
    rw [List.getElem_append_right (by omega)];simp
   rw [he]
   have htk:(M++t.map fun n=>(o,n)).take p=M++(t.take (p - M.length)).map fun n=>(o,n):=by
    rw [List.take_append,List.take_of_length_le (by omega),List.map_take]
   rw [htk]
   simp [fW,hq]
  ·rw [List.getElem?_eq_none (by rw [kM];simp;omega),List.getElem?_eq_none (by rw [aFu];omega)]
theorem aBd (M:List Tg):eZ (oY M) (aY M) (fun p=>if aY M p=p then 0 else 1):=by
 refine ⟨fun p q h=>?_,fun p h=>?_,fun p q h hne=>?_,fun p h=>oA (by rw [kM] at h;exact h)⟩
 ·have hp:=(List.getElem?_eq_some_iff.1 h).1
  rw [kM] at hp ⊢
  rw [rH hp] at h
  simp at h
  subst h
  have hm:M[p]?=some M[p]:=List.getElem?_eq_getElem hp
  cases hv:aH M[p].2
  ·rw [mL hm hv];exact hp
  ·have:=(mM hm hv).2.1;omega
 ·have hp:=(List.getElem?_eq_some_iff.1 h).1
  rw [kM] at hp
  rw [rH hp] at h
  simpa using h
 ·have hp:=(List.getElem?_eq_some_iff.1 h).1
  rw [kM] at hp
  rw [rH hp] at h
  simp at h
  subst h
  have hm:M[p]?=some M[p]:=List.getElem?_eq_getElem hp
  cases hv:aH M[p].2
  ·rw [mL hm hv] at hne;exact absurd rfl hne
  ·obtain ⟨e1,e2,s,e3,e4,e5,e6⟩:=mM hm hv
   have hs:aY M p=aY M (aY M p):=by
    rw [(mM e3 e4).1,e1,e5,e6]
   refine ⟨hs,?_⟩
   rw [if_pos hs.symm,if_neg (fun e=>hne e)]
   exact Nat.zero_lt_one
theorem aSe (M:List Tg):dE (aE (M.map Prod.snd)) (fun i j=>aY M i=aY M j) fun _ _=>False:=by
 intro x y e hx hy
 rcases (aSc M x y).1 e with rfl | ⟨s,t,h1,h2,h3,h4,_⟩
 ·refine ⟨rfl,fun k p q hp hq=>?_⟩
  rw [hp] at hq
  simp at hq
  subst hq
  exact dS.refl _
 ·obtain ⟨n,h5,h6⟩:=nS hx
  rw [List.getElem?_map,h1] at h5
  simp at h5
  subst h5
  rw [h3] at h6
  cases h6
theorem aSf (M:List Tg):iJ (M.map Prod.snd) (aY M):=by
 intro p hp
 obtain ⟨n,h5,h6⟩:=nS hp
 rw [List.getElem?_map] at h5
 obtain ⟨t,h7,h8⟩:=Option.map_eq_some_iff.1 h5
 subst h8
 rw [mL h7 h6]
 exact hp
theorem qC {L t:List Nd} (hW:eA L) {p:Nat} (h:p < L.length):(aE (L++t)).ch p=(aE L).ch p:=by
 have h1:L[p]?=some L[p]:=List.getElem?_eq_getElem h
 have h2:(L++t)[p]?=some L[p]:=by rw [List.getElem?_append_left h,h1]
 rw [kE h1,kE h2,List.drop_append_of_le_length (by omega),aOx _ _ _ _ (hW p _ h1)]
theorem aSg {L:List Nd} {E:Nat→Nat→Prop} (hE:∀i,E i i):∀(s:List Nd) (k b:Nat),s=L.drop b→dL s k→(∀x∈gK s k b,bS (aE L) E x)→∀p,b≤p→p < b+aF s k→bS (aE L) E p:=by
 intro s
 induction s with
 | nil=>
  intro k b _ _ _ p h1 h2
  cases k <;> simp [aF] at h2 <;> omega
 | cons n r ih=>
  intro k b hs hf hx p h1 h2
  cases k with
  | zero=>simp at h2;omega
  | succ k=>
   have hb:L[b]?=some n:=by
    have:=congrArg (fun l=>l[0]?) hs
    simpa using this.symm
   have hr:r=L.drop (b+1):=by
    have:=congrArg List.tail hs
    simpa using this
   have hlt:=(List.getElem?_eq_some_iff.1 hb).1
   have hself:bS (aE L) E b:=hx b (by rw [lC];simp)
   by_cases hp:p=b
   ·subst hp;exact hself
   ·simp only [dL] at hf
    simp only [aF] at h2
    refine ih (k+aX n) (b+1) hr hf (fun x hxm=>?_) p (by omega) (by omega)
    rw [Nat.add_comm k,aOw] at hxm
    rcases List.mem_append.1 hxm with hxm | hxm
    ·cases hv:aH n
     ·refine hself.parts (hE b) ((fV hb).2 hv) ?_
      rw [kE hb,←hr]
      exact hxm
     ·rw [lG hv] at hxm
      simp [gK] at hxm
    ·refine hx x ?_
     rw [lC]
     refine List.mem_cons_of_mem _ ?_
     have he:aF (n :: r) 1=1+aF r (aX n):=by simp [aF]
     rw [he,Nat.add_comm 1,List.drop_succ_cons,show b+(aF r (aX n)+1)=b+1+aF r (aX n) by omega]
     exact hxm
theorem aG8 {L:List Nd} {E:Nat→Nat→Prop} (hE:∀i,E i i) (hW:eA L) {i:Nat} (hi:i < L.length) (h:bS (aE L) E i):∀p,i≤p→p < i+aF (L.drop i) 1→bS (aE L) E p:=
 aSg hE _ 1 i rfl (hW.one hi) fun x hx=>by
  simp [gK] at hx
  subst hx
  exact h
abbrev aQ (o:Int) (t:List Nd):List Tg:=t.map fun n=>(o,n)
theorem xI (o:Int) (t:List Nd):(aQ o t).map Prod.snd=t:=by unfold aQ;rw [List.map_map];exact List.map_id _
end Go.Proofs.YtbddofieljiihaaGreatDoor
namespace Go.Proofs.YtbddofieljiihaaGreatDoor
open Go.RowKit
set_option maxRecDepth 100000
theorem aSh (σ:Int→List Nd) (a b:List Nd):subst σ (a++b)=subst σ a++subst σ b:=by simp [subst]
theorem aSi {n:Nd} (h:aH n=true):n=(⟨#[]⟩,n.2):=by
 obtain ⟨a,b⟩:=n
 have:a.toList=[]:=by simpa [aH] using h
 have e:a=⟨#[]⟩:=by
  rw [ByteArray.toList_eq] at this
  obtain ⟨d⟩:=a
  simp at this
  subst this
  rfl
 rw [e]
theorem aSj (l:List Nd):subst (fun y=>[(⟨#[]⟩,y)]) l=l:=by
 induction l with
 | nil=>rfl
 | cons n r ih=>
  rw [mG,ih]
  cases hv:aH n with
  | false=>rfl
  | true=>simp only [if_true];rw [←aSi hv];rfl
def lL (l:List Nd) (k:Nat):Prop:=dL l k∧aF l k=l.length
theorem aG9 {l:List Nd} {k:Nat} (h:aI l k=true):lL l k:=⟨aEo l k h,by have:=uB l k [] h;simpa using this⟩
theorem aGa {a b:List Nd} {j k:Nat} (ha:lL a j) (hb:lL b k):lL (a++b) (j+k):=by
 have e1:aF (a++b) j=a.length:=by rw [aA6 a b j ha.1,ha.2]
 refine ⟨(sC _ _ _).2 ⟨aEp a b j ha.1,?_⟩,?_⟩
 ·rw [e1,List.drop_left];exact hb.1
 ·rw [qY,e1,List.drop_left,hb.2,List.length_append]
theorem aSk {σ:Int→List Nd}:∀(l:List Nd) (k:Nat),(∀n∈l,aH n=true→lL (σ n.2) 1)→lL l k→lL (subst σ l) k:=by
 intro l
 induction l with
 | nil=>intro k _ h;exact h
 | cons n r ih=>
  intro k hσ h
  cases k with
  | zero=>have:=h.2;simp at this
  | succ k=>
   have hr:lL r (k+aX n):=⟨by have:=h.1;simpa [dL] using this,by have:=h.2;simp [aF] at this;omega⟩
   rw [mG]
   cases hv:aH n with
   | true=>
    rw [lG hv,Nat.add_zero] at hr
    have:=aGa (hσ n (by simp) hv) (ih k (fun m hm=>hσ m (by simp [hm])) hr)
    rw [Nat.add_comm] at this
    simpa using this
   | false=>
    have i1:=ih (k+aX n) (fun m hm=>hσ m (by simp [hm])) hr
    refine ⟨by simpa [dL] using i1.1,?_⟩
    have:=i1.2
    simp [aF]
    omega
theorem aGb:∀(l:List Nd) (k:Nat),lL l k→(∀n∈l,dG n=true)→aI l k=true:=by
 intro l
 induction l with
 | nil=>
  intro k h _
  cases k with
  | zero=>rfl
  | succ k=>exact absurd h.1 (by simp [dL])
 | cons n r ih=>
  intro k h hn
  cases k with
  | zero=>have:=h.2;simp at this
  | succ k=>
   rw [kI,hn n (by simp),Bool.true_and]
   exact ih _ ⟨by have:=h.1;simpa [dL] using this,by have:=h.2;simp [aF] at this;omega⟩ fun m hm=>hn m (by simp [hm])
def hH (s:List Int) (a b:Int):Prop:=∃k:Nat,s[k]?=some a∧b=(k:Int)
theorem aGc (s:List Int) (x:Int):(dY s x < 0→x∉s)∧(0≤dY s x→hH s x (dY s x)):=by
 unfold dY hH
 rw [←List.reverse_reverse s]
 generalize s.reverse=r
 rw [List.reverse_reverse]
 induction r with
 | nil=>simp [pK]
 | cons y r ih=>
  simp only [pK]
  by_cases h:y=x
  ·subst h
   rw [if_pos rfl]
   refine ⟨fun h=>by omega,fun _=>⟨r.length,?_,rfl⟩⟩
   rw [List.reverse_cons,List.getElem?_append_right (by simp)]
   simp
  ·rw [if_neg h]
   refine ⟨fun h1 h2=>?_,fun h1=>?_⟩
   ·rw [List.reverse_cons] at h2
    rcases List.mem_append.1 h2 with h2 | h2
    ·exact ih.1 h1 h2
    ·simp at h2;exact h h2.symm
   ·obtain ⟨k,k1,k2⟩:=ih.2 h1
    refine ⟨k,?_,k2⟩
    rw [List.reverse_cons,List.getElem?_append_left (List.getElem?_eq_some_iff.1 k1).1]
    exact k1
theorem aGd {V V':Int→Int→Prop} (h:∀a b,V a b→V' a b) {n m:Nd} (k:gN V n m):gN V' n m:=by
 rcases k with ⟨a,b,c,d⟩ | k
 ·exact Or.inl ⟨a,b,c,h _ _ d⟩
 ·exact Or.inr k
theorem aSl:∀(l:List Nd) (p:List Nd) (st:List Nd×List Int),st.2.Nodup→aL (gN (hH st.2)) p st.1→(l.foldl bV st).2.Nodup∧aL (gN (hH (l.foldl bV st).2)) (p++l) (l.foldl bV st).1:=by
 intro l
 induction l with
 | nil=>intro p st h1 h2;simpa using ⟨h1,h2⟩
 | cons n l ih=>
  intro p st h1 h2
  rw [List.foldl_cons]
  have key:(bV st n).2.Nodup∧aL (gN (hH (bV st n).2)) (p++[n]) (bV st n).1:=by
   unfold bV
   cases hv:aH n with
   | false=>exact ⟨h1,h2.snoc (Or.inr ⟨hv,rfl⟩)⟩
   | true=>
    simp only [if_true]
    by_cases hp:dY st.2 n.2 < 0
    ·rw [if_pos hp]
     have hnm:=(aGc st.2 n.2).1 hp
     refine ⟨?_,?_⟩
     ·rw [List.nodup_append]
      exact ⟨h1,by simp,fun a ha b hb=>by simp at hb;subst hb;exact fun e=>hnm (e▸ha)⟩
     ·have hup:∀a b,hH st.2 a b→hH (st.2++[n.2]) a b:=by
       rintro a b ⟨k,k1,k2⟩
       exact ⟨k,by rw [List.getElem?_append_left (List.getElem?_eq_some_iff.1 k1).1];exact k1,k2⟩
      refine aL.snoc (h2.mono fun a b k=>aGd hup k) (Or.inl ⟨hv,hv,rfl,st.2.length,?_,rfl⟩)
      rw [List.getElem?_append_right (Nat.le_refl _)]
      simp
    ·rw [if_neg hp]
     exact ⟨h1,h2.snoc (Or.inl ⟨hv,hv,rfl,(aGc st.2 n.2).2 (by omega)⟩)⟩
  have:=ih (p++[n]) (bV st n) key.1 key.2
  rwa [List.append_assoc,List.singleton_append] at this
theorem hH.pairs {s:List Int} (h:s.Nodup):lF (hH s):=by
 rintro a b a' b' ⟨k,k1,rfl⟩ ⟨k',k1',rfl⟩
 obtain ⟨h1,rfl⟩:=List.getElem?_eq_some_iff.1 k1
 obtain ⟨h2,rfl⟩:=List.getElem?_eq_some_iff.1 k1'
 constructor
 ·intro e
  have:=(List.getElem_inj h).1 e
  omega
 ·intro e
  have:k=k':=by omega
  subst this
  rfl
theorem aSm (σ τ:Int→List Nd) (l:List Nd):subst τ (subst σ l)=subst (fun v=>subst τ (σ v)) l:=by
 induction l with
 | nil=>rfl
 | cons n r ih=>
  rw [mG,mG,aSh,ih]
  cases hv:aH n with
  | true=>simp
  | false=>simp [subst,hv]
end Go.Proofs.YtbddofieljiihaaGreatDoor
namespace Go.Proofs.YtbddofieljiihaaGreatDoor
open Go.RowKit Go.Shelf Go.WideMaps
set_option maxRecDepth 100000
theorem aSn {w:World} {mp:Nat} (h:w.heap[mp]?=some (.map #[] 0)):w.ownsMap Tryz.prog 194 eR mp 0 (.map []):=by
 have hl:=(Array.getElem?_eq_some_iff.1 h).1
 have hm:(World.alloc {w with heap:=w.heap.extract 0 mp} (.map #[] 0)).ownsMap Tryz.prog 194 eR ({w with heap:=w.heap.extract 0 mp}:World).heap.size 0 (.map []):=World.ownsMap_made _ _ _ _
 have hsz:({w with heap:=w.heap.extract 0 mp}:World).heap.size=mp:=by simp;omega
 rw [hsz] at hm
 refine aBa hm ?_
 rw [h]
 have:=heap_alloc_new ({w with heap:=w.heap.extract 0 mp}:World) (.map #[] 0)
 rw [hsz] at this
 exact this.symm
theorem xJ {W:World} {B k n size:Nat} {c:Array Value} {e:TypeId} (hB:B≤k) (h:W.heap[k]?=some (.cells c e)) (hc:c.size=n * size) (hn:n≤1000000):W.ownsRow B e size (.slice (some ⟨k,0,none⟩) 0 n) 0 []:=
 ⟨by simp,Or.inr ⟨k,n,c,rfl,hB,h,Nat.zero_le _,by unfold maxLen;omega,hc,by simp⟩⟩
structure aBe (w:World) (tb mp:Nat) (vn ve vl vs:Value) (w':World):Prop where
 tm:bW w' w.heap.size tb vn ve vl vs (.map (some mp)) [] [] [] []
 first:fD w' mp []
 low:Below w.heap.size w w'
 ne:mp≠tb
 mlow:w.heap.size≤mp
theorem aSo {w W:World} {n k1 k2 k3 k4 km tb:Nat} {c1 c2:Array Value} (hn:n≤1000000) (hs1:c1.size=n * 2) (hs2:c2.size=n * 1) (hb:Below w.heap.size w W) (h1:W.heap[k1]?=some (.cells c1 106)) (h2:W.heap[k2]?=some (.cells c2 3)) (h3:W.heap[k3]?=some (.cells c2 3)) (h4:W.heap[k4]?=some (.cells c2 3)) (hm:W.heap[km]?=some (.map #[] 0))
  (ht:W.heap[tb]?=some (.cells #[.slice (some ⟨k1,0,none⟩) 0 n,.slice (some ⟨k2,0,none⟩) 0 n,.slice (some ⟨k3,0,none⟩) 0 n,.slice (some ⟨k4,0,none⟩) 0 n,.map (some km)] 176))
  (l1:w.heap.size≤k1∧w.heap.size≤k2∧w.heap.size≤k3∧w.heap.size≤k4∧w.heap.size≤km∧w.heap.size≤tb) (l2:k2≠k3∧k2≠k4∧k3≠k4∧km≠tb) :
  aBe w tb km (.slice (some ⟨k1,0,none⟩) 0 n) (.slice (some ⟨k2,0,none⟩) 0 n) (.slice (some ⟨k3,0,none⟩) 0 n) (.slice (some ⟨k4,0,none⟩) 0 n) W:=by
 obtain ⟨a1,a2,a3,a4,a5,a6⟩:=l1
 obtain ⟨b1,b2,b3,b4⟩:=l2
 refine ⟨⟨ht,a6,xJ a1 h1 hs1 hn,xJ a2 h2 hs2 hn,xJ a3 h3 hs2 hn,xJ a4 h4 hs2 hn,?_,?_,?_,?_,?_,?_⟩,⟨0,.map [],aSn hm,lK.start,Nat.le_refl _⟩,hb,b4,a5⟩
 all_goals simp [Value.ownBlock]
 all_goals assumption
abbrev Ob:=Option Nat
def vS (n:Nat):Ob→Value
 | some k=>.slice (some ⟨k,0,none⟩) 0 n
 | none=>undef
def vM:Ob→Value
 | some k=>.map (some k)
 | none=>undef
def aGe (o1 o2 o3 o4 o5:Ob):Array Bool:=#[true,o1.isSome,true,o2.isSome,true,o3.isSome,true,o4.isSome,o5.isSome,false,false,false]
def mN (n:Nat) (o1 o2 o3 o4 o5:Ob):Act:={tmps:=#[.int .i64 n,undef,.pointer none,.int .i64 n,vS n o1,.int .i64 n,vS n o2,.int .i64 n,vS n o3,.int .i64 n,vS n o4,vM o5,undef,undef],defers:=[]}
def oZ (b1 b2 b3 b4 b5:Bool):List Nat:=(if b1 then [] else [1])++(if b2 then [] else [3])++(if b3 then [] else [5])++(if b4 then [] else [7])++(if b5 then [] else [8])
def oB (o1 o2 o3 o4 o5:Ob):List Nat:=oZ o1.isSome o2.isSome o3.isSome o4.isSome o5.isSome
structure eU (w:World) (c1 c2:Array Value) (o1 o2 o3 o4 o5:Ob) (W:World):Prop where
 low:Below w.heap.size w W
 h1:∀k,o1=some k→w.heap.size≤k∧W.heap[k]?=some (.cells c1 106)
 h2:∀k,o2=some k→w.heap.size≤k∧W.heap[k]?=some (.cells c2 3)
 h3:∀k,o3=some k→w.heap.size≤k∧W.heap[k]?=some (.cells c2 3)
 h4:∀k,o4=some k→w.heap.size≤k∧W.heap[k]?=some (.cells c2 3)
 h5:∀k,o5=some k→w.heap.size≤k∧W.heap[k]?=some (.map #[] 0)
 n23:∀k,o2=some k→o3≠some k
 n24:∀k,o2=some k→o4≠some k
 n34:∀k,o3=some k→o4≠some k
section
variable {w W:World} {c1 c2:Array Value} {o1 o2 o3 o4 o5:Ob}
theorem eU.start (h:Below w.heap.size w W):eU w c1 c2 none none none none none W:=⟨h,(fun _ e=>nomatch e),(fun _ e=>nomatch e),(fun _ e=>nomatch e),(fun _ e=>nomatch e),(fun _ e=>nomatch e),(fun _ e=>nomatch e),(fun _ e=>nomatch e),(fun _ e=>nomatch e)⟩
theorem eU.lt (h:eU w c1 c2 o1 o2 o3 o4 o5 W):(o1≠some W.heap.size∧o2≠some W.heap.size)∧o3≠some W.heap.size∧o4≠some W.heap.size∧o5≠some W.heap.size:=by
 refine ⟨⟨fun e=>?_,fun e=>?_⟩,fun e=>?_,fun e=>?_,fun e=>?_⟩
 ·have:=(Array.getElem?_eq_some_iff.1 (h.h1 _ e).2).1;omega
 ·have:=(Array.getElem?_eq_some_iff.1 (h.h2 _ e).2).1;omega
 ·have:=(Array.getElem?_eq_some_iff.1 (h.h3 _ e).2).1;omega
 ·have:=(Array.getElem?_eq_some_iff.1 (h.h4 _ e).2).1;omega
 ·have:=(Array.getElem?_eq_some_iff.1 (h.h5 _ e).2).1;omega
theorem uP {x y:Obj} {k:Nat} (h:W.heap[k]?=some x):(W.alloc y).heap[k]?=some x:=by
 rw [heap_alloc_old W y (Array.getElem?_eq_some_iff.1 h).1,h]
theorem eU.alloc (h:eU w c1 c2 o1 o2 o3 o4 o5 W) (x:Obj):eU w c1 c2 o1 o2 o3 o4 o5 (W.alloc x):=
 ⟨h.low.alloc h.low.size x,fun k e=>⟨(h.h1 k e).1,uP (h.h1 k e).2⟩,fun k e=>⟨(h.h2 k e).1,uP (h.h2 k e).2⟩,fun k e=>⟨(h.h3 k e).1,uP (h.h3 k e).2⟩,fun k e=>⟨(h.h4 k e).1,uP (h.h4 k e).2⟩,fun k e=>⟨(h.h5 k e).1,uP (h.h5 k e).2⟩,h.n23,h.n24,h.n34⟩
theorem eU.s1 (h:eU w c1 c2 o1 o2 o3 o4 o5 W):eU w c1 c2 (some W.heap.size) o2 o3 o4 o5 (W.alloc (.cells c1 106)):=by
 have k:=h.alloc (.cells c1 106)
 exact ⟨k.low,fun j e=>by simp at e;subst e;exact ⟨h.low.size,heap_alloc_new _ _⟩,k.h2,k.h3,k.h4,k.h5,k.n23,k.n24,k.n34⟩
theorem eU.s2 (h:eU w c1 c2 o1 o2 o3 o4 o5 W):eU w c1 c2 o1 (some W.heap.size) o3 o4 o5 (W.alloc (.cells c2 3)):=by
 have k:=h.alloc (.cells c2 3)
 exact ⟨k.low,k.h1,fun j e=>by simp at e;subst e;exact ⟨h.low.size,heap_alloc_new _ _⟩,k.h3,k.h4,k.h5,fun j e=>by simp at e;subst e;exact h.lt.2.1,fun j e=>by simp at e;subst e;exact h.lt.2.2.1,k.n34⟩
theorem eU.s3 (h:eU w c1 c2 o1 o2 o3 o4 o5 W):eU w c1 c2 o1 o2 (some W.heap.size) o4 o5 (W.alloc (.cells c2 3)):=by
 have k:=h.alloc (.cells c2 3)
 exact ⟨k.low,k.h1,k.h2,fun j e=>by simp at e;subst e;exact ⟨h.low.size,heap_alloc_new _ _⟩,k.h4,k.h5,fun j e e'=>by simp at e';subst e';exact h.lt.1.2 e,k.n24,fun j e=>by simp at e;subst e;exact h.lt.2.2.1⟩
theorem eU.s4 (h:eU w c1 c2 o1 o2 o3 o4 o5 W):eU w c1 c2 o1 o2 o3 (some W.heap.size) o5 (W.alloc (.cells c2 3)):=by
 have k:=h.alloc (.cells c2 3)
 exact ⟨k.low,k.h1,k.h2,k.h3,fun j e=>by simp at e;subst e;exact ⟨h.low.size,heap_alloc_new _ _⟩,k.h5,k.n23,fun j e e'=>by simp at e';subst e';exact h.lt.1.2 e,fun j e e'=>by simp at e';subst e';exact h.lt.2.1 e⟩
theorem eU.s5 (h:eU w c1 c2 o1 o2 o3 o4 o5 W):eU w c1 c2 o1 o2 o3 o4 (some W.heap.size) (W.alloc (.map #[] 0)):=by
 have k:=h.alloc (.map #[] 0)
 exact ⟨k.low,k.h1,k.h2,k.h3,k.h4,fun j e=>by simp at e;subst e;exact ⟨h.low.size,heap_alloc_new _ _⟩,k.n23,k.n24,k.n34⟩
end
def rI (o1 o2 o3 o4 o5:Ob):Nat:=(oB o1 o2 o3 o4 o5).length
theorem aSp {n:Nat} {c1 c2:Array Value} {w:World} {ops:Array Oper} {Q:Exit→Act→World→Prop} {q1 q2 q3 q4 q5:Oper}
  (e1:ops[1]?=some q1) (e2:ops[3]?=some q2) (e3:ops[5]?=some q3) (e4:ops[7]?=some q4) (e5:ops[8]?=some q5)
  (g:q1.guard=none∧q2.guard=none∧q3.guard=none∧q4.guard=none∧q5.guard=none) (d:q1.dst=some 4∧q2.dst=some 6∧q3.dst=some 8∧q4.dst=some 10∧q5.dst=some 11)
  (r1:∀(o1 o2 o3 o4 o5:Ob) (W:World),(execOp (mN n o1 o2 o3 o4 o5).eval q1).run Tryz.prog W=.ok (.value (.slice (some ⟨W.heap.size,0,none⟩) 0 n)) (W.alloc (.cells c1 106)))
  (r2:∀(o1 o2 o3 o4 o5:Ob) (W:World),(execOp (mN n o1 o2 o3 o4 o5).eval q2).run Tryz.prog W=.ok (.value (.slice (some ⟨W.heap.size,0,none⟩) 0 n)) (W.alloc (.cells c2 3)))
  (r3:∀(o1 o2 o3 o4 o5:Ob) (W:World),(execOp (mN n o1 o2 o3 o4 o5).eval q3).run Tryz.prog W=.ok (.value (.slice (some ⟨W.heap.size,0,none⟩) 0 n)) (W.alloc (.cells c2 3)))
  (r4:∀(o1 o2 o3 o4 o5:Ob) (W:World),(execOp (mN n o1 o2 o3 o4 o5).eval q4).run Tryz.prog W=.ok (.value (.slice (some ⟨W.heap.size,0,none⟩) 0 n)) (W.alloc (.cells c2 3)))
  (r5:∀(o1 o2 o3 o4 o5:Ob) (W:World),(execOp (mN n o1 o2 o3 o4 o5).eval q5).run Tryz.prog W=.ok (.value (.map (some W.heap.size))) (W.alloc (.map #[] 0)))
  (hr:∀(b1 b2 b3 b4 b5:Bool),(b1 && b2 && b3 && b4 && b5)=false→Region.ready .any ops #[true,b1,true,b2,true,b3,true,b4,b5,false,false,false]=oZ b1 b2 b3 b4 b5)
  (hend:∀(k1 k2 k3 k4 k5:Nat) (W:World),eU w c1 c2 (some k1) (some k2) (some k3) (some k4) (some k5) W→wpAny Tryz.prog .any ops Q 3 (aGe (some k1) (some k2) (some k3) (some k4) (some k5)) (mN n (some k1) (some k2) (some k3) (some k4) (some k5)) W) :
  ∀(m:Nat) (o1 o2 o3 o4 o5:Ob) (W:World),rI o1 o2 o3 o4 o5=m→eU w c1 c2 o1 o2 o3 o4 o5 W→wpAny Tryz.prog .any ops Q (m+3) (aGe o1 o2 o3 o4 o5) (mN n o1 o2 o3 o4 o5) W:=by
 obtain ⟨g1,g2,g3,g4,g5⟩:=g
 obtain ⟨d1,d2,d3,d4,d5⟩:=d
 intro m
 induction m with
 | zero=>
  intro o1 o2 o3 o4 o5 W hm hI
  have h0:=List.eq_nil_of_length_eq_zero hm
  cases o1 <;> cases o2 <;> cases o3 <;> cases o4 <;> cases o5 <;> first | (simp [oB,oZ] at h0;done) | exact hend _ _ _ _ _ _ hI
 | succ m ih=>
  intro o1 o2 o3 o4 o5 W hm hI
  have hne:oB o1 o2 o3 o4 o5≠[]:=fun e=>by unfold rI at hm;rw [e] at hm;simp at hm
  rw [show m+1+3=(m+3)+1 by omega]
  refine wpAny_all (rs:=oB o1 o2 o3 o4 o5) (hr _ _ _ _ _ (by cases o1 <;> cases o2 <;> cases o3 <;> cases o4 <;> cases o5 <;> first | rfl | exact absurd rfl hne)) hne fun i hi=>?_
  have hi':(i=1∧o1=none)∨(i=3∧o2=none)∨(i=5∧o3=none)∨(i=7∧o4=none)∨(i=8∧o5=none):=by
   clear hr hend ih r1 r2 r3 r4 r5
   cases o1 <;> cases o2 <;> cases o3 <;> cases o4 <;> cases o5 <;> simp [oB,oZ] at hi ⊢ <;> omega
  rcases hi' with ⟨rfl,rfl⟩ | ⟨rfl,rfl⟩ | ⟨rfl,rfl⟩ | ⟨rfl,rfl⟩ | ⟨rfl,rfl⟩
  ·refine sB e1 g1 (r1 _ _ _ _ _ W) ?_
   rw [d1]
   exact ih (some W.heap.size) o2 o3 o4 o5 _ (by unfold rI oB oZ at *;simp at *;omega) hI.s1
  ·refine sB e2 g2 (r2 _ _ _ _ _ W) ?_
   rw [d2]
   exact ih o1 (some W.heap.size) o3 o4 o5 _ (by unfold rI oB oZ at *;simp at *;omega) hI.s2
  ·refine sB e3 g3 (r3 _ _ _ _ _ W) ?_
   rw [d3]
   exact ih o1 o2 (some W.heap.size) o4 o5 _ (by unfold rI oB oZ at *;simp at *;omega) hI.s3
  ·refine sB e4 g4 (r4 _ _ _ _ _ W) ?_
   rw [d4]
   exact ih o1 o2 o3 (some W.heap.size) o5 _ (by unfold rI oB oZ at *;simp at *;omega) hI.s4
  ·refine sB e5 g5 (r5 _ _ _ _ _ W) ?_
   rw [d5]
   exact ih o1 o2 o3 o4 (some W.heap.size) _ (by unfold rI oB oZ at *;simp at *;omega) hI.s5
set_option maxHeartbeats 4000000 in
theorem aGf (n:Nat) (hn:n≤1000000) (w:World) :
  Calls Tryz.prog 119 #[.int .i64 n] w fun e w'=>∃tb mp vn ve vl vs,e=.returned (.pointer (some ⟨tb,0,none⟩))∧aBe w tb mp vn ve vl vs w':=by
 obtain ⟨iN,hN,hN0,hN1,hN2⟩:=info_parts pL
 obtain ⟨iI,hI,hI0,hI1,hI2⟩:=info_parts qM
 have hmm:=@run_makeMap Tryz.prog
 obtain ⟨c1,hc1,hmk1⟩ : ∃c1:Array Value,c1.size=n * 2∧∀w:World,(Instr.makeSlice 72 (.int .i64 0) (.int .i64 n)).run Tryz.prog w=.ok (.slice (some ⟨w.heap.size,0,none⟩) 0 n) (w.alloc (.cells c1 106)):=
  ⟨madeCells (Value.agg #[.string ⟨#[]⟩,.int .i64 0]).cells (n * iN.size),by rw [size_madeCells,hN1],fun w=>by
   have:=run_make (P:=Tryz.prog) w 72 106 iN _ Tryz.underlying72 hN hN0 .i64 .i64 0 n (Int.le_refl _) (by omega) (by rw [hN2];omega) (by omega)
   simpa using this⟩
 obtain ⟨c2,hc2,hmk2⟩ : ∃c2:Array Value,c2.size=n * 1∧∀w:World,(Instr.makeSlice 31 (.int .i64 0) (.int .i64 n)).run Tryz.prog w=.ok (.slice (some ⟨w.heap.size,0,none⟩) 0 n) (w.alloc (.cells c2 3)):=
  ⟨madeCells (Value.int .i64 0).cells (n * iI.size),by rw [size_madeCells,hI1],fun w=>by
   have:=run_make (P:=Tryz.prog) w 31 3 iI _ Tryz.underlying31 hI hI0 .i64 .i64 0 n (Int.le_refl _) (by omega) (by rw [hI2];omega) (by omega)
   simpa using this⟩
 have HC1:=aA hc1
 have HC2:=aA hc2
 clear hN hN0 hN1 hN2 hI hI0 hI1 hI2 hc1 hc2
 go_enter Tryz.func119,Tryz.ntmps119
 go_upto_region 1 with (fail)
 refine wp_region_any (by kernel_rfl) ?_
 refine wpAny_take (i:=0) (v:=.int .i64 n) rfl (by kernel_rfl) (by kernel_rfl) (by kernel_rfl) (fun _ _ _ h=>h) (Or.inl ⟨by rfl,fun w=>rfl⟩) ?_
 refine wpAny_take (i:=2) (v:=.int .i64 n) rfl (by kernel_rfl) (by kernel_rfl) (by kernel_rfl) (fun _ _ _ h=>h) (Or.inl ⟨by rfl,fun w=>rfl⟩) ?_
 refine wpAny_take (i:=4) (v:=.int .i64 n) rfl (by kernel_rfl) (by kernel_rfl) (by kernel_rfl) (fun _ _ _ h=>h) (Or.inl ⟨by rfl,fun w=>rfl⟩) ?_
 refine wpAny_take (i:=6) (v:=.int .i64 n) rfl (by kernel_rfl) (by kernel_rfl) (by kernel_rfl) (fun _ _ _ h=>h) (Or.inl ⟨by rfl,fun w=>rfl⟩) ?_
 refine aSp (w:=w) (c1:=c1) (c2:=c2) (n:=n) rfl rfl rfl rfl rfl ⟨rfl,rfl,rfl,rfl,rfl⟩ ⟨rfl,rfl,rfl,rfl,rfl⟩ ?_ ?_ ?_ ?_ ?_ ?_ ?_ 5 none none none none none _ rfl ?_
 ·intro o1 o2 o3 o4 o5 W;simp [execOp,mN,Act.eval,hmk1]
 ·intro o1 o2 o3 o4 o5 W;simp [execOp,mN,Act.eval,hmk2]
 ·intro o1 o2 o3 o4 o5 W;simp [execOp,mN,Act.eval,hmk2]
 ·intro o1 o2 o3 o4 o5 W;simp [execOp,mN,Act.eval,hmk2]
 ·intro o1 o2 o3 o4 o5 W;simp [execOp,mN,hmm]
 ·intro b1 b2 b3 b4 b5 h
  cases b1 <;> cases b2 <;> cases b3 <;> cases b4 <;> cases b5 <;> first | (cases h;done) | kernel_rfl
 ·intro k1 k2 k3 k4 k5 W hI
  change wpAny Tryz.prog .any _ _ 3 #[true,true,true,true,true,true,true,true,true,false,false,false] {tmps:=#[.int .i64 n,undef,.pointer none,.int .i64 n,.slice (some ⟨k1,0,none⟩) 0 n,.int .i64 n,.slice (some ⟨k2,0,none⟩) 0 n,.int .i64 n,.slice (some ⟨k3,0,none⟩) 0 n,.int .i64 n,.slice (some ⟨k4,0,none⟩) 0 n,.map (some k5),undef,undef],defers:=[]} W
  refine wpAny_take (i:=9) (v:=.agg #[.slice (some ⟨k1,0,none⟩) 0 n,.slice (some ⟨k2,0,none⟩) 0 n,.slice (some ⟨k3,0,none⟩) 0 n,.slice (some ⟨k4,0,none⟩) 0 n,.map (some k5)]) rfl (by kernel_rfl) (by kernel_rfl) (by kernel_rfl) (fun _ _ _ h=>h) (Or.inl ⟨by rfl,fun w=>by go_simp⟩) ?_
  refine wpAny_all (rs:=[10]) (by kernel_rfl) (by simp) fun i hi=>?_
  obtain rfl:i=10:=by simpa using hi
  refine sB (v:=.pointer (some ⟨W.heap.size,0,none⟩)) (w':=W.alloc (.cells #[.slice (some ⟨k1,0,none⟩) 0 n,.slice (some ⟨k2,0,none⟩) 0 n,.slice (some ⟨k3,0,none⟩) 0 n,.slice (some ⟨k4,0,none⟩) 0 n,.map (some k5)] 176)) rfl rfl (by rfl) ?_
  refine wpAny_take (i:=11) (v:=.pointer (some ⟨W.heap.size,0,none⟩)) rfl (by kernel_rfl) (by kernel_rfl) (by kernel_rfl) (fun _ _ _ h=>h) (Or.inl ⟨by rfl,fun w=>by rfl⟩) ?_
  refine wpAny_done (by kernel_rfl) ?_ _
  have hI':=hI.alloc (.cells #[.slice (some ⟨k1,0,none⟩) 0 n,.slice (some ⟨k2,0,none⟩) 0 n,.slice (some ⟨k3,0,none⟩) 0 n,.slice (some ⟨k4,0,none⟩) 0 n,.map (some k5)] 176)
  have HN:=aA (aSo (tb:=W.heap.size) hn HC1.out HC2.out hI'.low (hI'.h1 k1 rfl).2 (hI'.h2 k2 rfl).2 (hI'.h3 k3 rfl).2 (hI'.h4 k4 rfl).2 (hI'.h5 k5 rfl).2 (heap_alloc_new _ _) ⟨(hI.h1 k1 rfl).1,(hI.h2 k2 rfl).1,(hI.h3 k3 rfl).1,(hI.h4 k4 rfl).1,(hI.h5 k5 rfl).1,hI.low.size⟩ ⟨fun e=>hI.n23 k2 rfl (by rw [e]),fun e=>hI.n24 k2 rfl (by rw [e]),fun e=>hI.n34 k3 rfl (by rw [e]),fun e=>hI.lt.2.2.2 (by rw [e])⟩)
  clear hI hI'
  go_wp2
  go_ret
  exact ⟨_,_,_,_,_,_,rfl,HN.out⟩
 ·exact eU.start (aJ ⟨1,rfl⟩)
structure jD (B tb mp:Nat) (M:List Tg) (w:World):Prop where
 tm:∃vn ve vl vs,bW w B tb vn ve vl vs (.map (some mp)) (M.map Prod.snd) (dU (M.map Prod.snd)) (oY M) (List.replicate M.length 0)
 first:fD w mp M
 whole:eA (M.map Prod.snd)
 big:B≤w.heap.size
 ne:mp≠tb
 mlow:B≤mp
theorem jD.new {w w':World} {tb mp:Nat} {vn ve vl vs:Value} (h:aBe w tb mp vn ve vl vs w'):jD w.heap.size tb mp [] w':=
 ⟨⟨vn,ve,vl,vs,h.tm⟩,h.first,fun i n e=>by simp at e,h.low.size,h.ne,h.mlow⟩
theorem xK {B tb mp:Nat} {M:List Tg} {w:World} (h:jD B tb mp M w) (o:Int) (a:Option Addr) (c:Nat) (t:List Nd) (hn:dB w a t) (ht:aI t 1=true) (hlow:∀p,a=some p→p.block < B) (hlen:M.length+t.length≤1000000) (ho : -1000≤o∧o≤1000) :
  Calls Tryz.prog 121 #[.pointer (some ⟨tb,0,none⟩),.int .i64 o,.slice a t.length c] w fun e w'=>e=.returned (.int .i64 M.length)∧jD B tb mp (M++aQ o t) w'∧Below B w w':=by
 obtain ⟨vn,ve,vl,vs,htm⟩:=h.tm
 have hl:(M.map Prod.snd).length=M.length:=by simp
 refine (aFx B tb mp vn ve vl vs (M.map Prod.snd) (oY M) (List.replicate M.length 0) M o a c t w htm rfl h.whole h.first (by rw [kM,hl]) (by rw [List.length_replicate,hl]) h.big h.ne h.mlow ht hn hlow (by rw [hl];exact hlen) ho).mono ?_
 rintro e w' ⟨vn',ve',vl',vs',rfl,h1,h2,h3,_⟩
 have hs:(M++aQ o t).map Prod.snd=M.map Prod.snd++t:=by rw [List.map_append,xI]
 refine ⟨by rw [hl],⟨⟨vn',ve',vl',vs',?_⟩,h2,by rw [hs];exact h.whole.append (uI ht),Nat.le_trans h.big h3.low.size,h.ne,h.mlow⟩,h3.low⟩
 rw [hs,aG7,List.length_append,List.replicate_append_replicate.symm]
 simpa using h1
theorem aSq {L:List Nd} (hW:eA L) {E:Nat→Nat→Prop} {rep:Nat→Nat} {x:List Nat} {l:List Nd} (h:aO (aE L) E rep x l) (hx:∀i∈x,i < L.length):∀n∈l,(aH n=true∧∃i,i < L.length∧n=(⟨#[]⟩,(rep i:Int)))∨(aH n=false∧n∈L):=by
 induction h with
 | nil=>intro n hn;simp at hn
 | @var i r l h1 _ ih=>
  intro n hn
  rcases List.mem_cons.1 hn with rfl | hn
  ·exact Or.inl ⟨rE _,i,hx i (by simp),rfl⟩
  ·exact ih (fun j hj=>hx j (by simp [hj])) n hn
 | @name i j r l h1 h2 _ ih=>
  intro n hn
  obtain ⟨m,hm,hv⟩:=nS h2
  have hjl:=(List.getElem?_eq_some_iff.1 hm).1
  rcases List.mem_cons.1 hn with rfl | hn
  ·right
   rw [nT hm]
   exact ⟨hv,List.mem_of_getElem? hm⟩
  ·refine ih (fun p hp=>?_) n hn
   rcases List.mem_append.1 hp with hp | hp
   ·rw [kE hm] at hp
    have h4:=(aA5 _ _ _ (hW j _ hm) p hp).2
    have h5:aF (L.drop j) 1≤(L.drop j).length:=qA _ _
    rw [List.drop_eq_getElem_cons hjl,(List.getElem?_eq_some_iff.1 hm).2] at h5
    simp [aF] at h5
    omega
   ·exact hx p (by simp [hp])
theorem uQ {w:World} {a:Option Addr} {l:List Nd} (h:dB w a l) (ht:aI l 1=true):∀p,a=some p→p.block < w.heap.size:=by
 intro p hp
 have h0:0 < l.length:=by
  cases l with
  | nil=>simp [aI] at ht
  | cons=>simp
 obtain ⟨b,o,e,h1,_⟩:=h.cell 0 h0
 rw [hp] at e
 simp at e
 rw [e]
 exact World.block_lt_of_cell? w _ h1
end Go.Proofs.YtbddofieljiihaaGreatDoor
