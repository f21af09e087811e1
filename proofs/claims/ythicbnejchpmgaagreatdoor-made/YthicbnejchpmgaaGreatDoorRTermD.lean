/- The document's own answer: is a list of nodes a term? Covering: terms in the place of variables, by which literals come to be among others. Rows of one's own: helpers. The document's own answer: are literals a clause in order, of a size that may be. Small words that several texts want. What the matcher holds, and what stays as it was while it works. What the matcher holds behind a step. How many parts a node wants. A list of nodes is appended to nothing: one step of a statement whose order is drawn. -/
import Derived.Test.YthicbnejchpmgaaGreatDoorBase0D
import Derived.Deep.AppendLies
import Derived.Deep.RegionLaw
namespace Go.Proofs.YthicbnejchpmgaaGreatDoor
def aF:List Nd→Nat→Nat
 | _,0=>0
 | [],_+1=>0
 | n :: r,q+1=>1+aF r (q+aZ n)
@[simp] theorem aWc (l:List Nd):aF l 0=0:=by cases l <;> rfl
theorem lJ (n:Nd) (r:List Nd) (q:Nat):aI (n :: r) (q+1)=(dH n && aI r (q+aZ n)):=by
 simp only [aI]
 cases dH n <;> simp
theorem aA2 (l:List Nd):∀p q,aI l (p+q)=true→aI (l.take (aF l p)) p=true∧aI (l.drop (aF l p)) q=true:=by
 induction l with
 | nil=>
  intro p q h
  cases p with
  | zero=>simpa [aI] using h
  | succ p=>simp [aI] at h
 | cons n r ih=>
  intro p q h
  cases p with
  | zero=>simpa [aI] using h
  | succ p=>
   rw [show p+1+q=(p+q)+1 by omega,lJ,Bool.and_eq_true] at h
   have:=ih (p+aZ n) q (by rw [←h.2];congr 1;omega)
   simp only [aF,Nat.add_comm 1,List.take_succ_cons,List.drop_succ_cons]
   exact ⟨by rw [lJ,h.1,this.1];rfl,this.2⟩
theorem oW (t:List Nd):∀p s,aI t p=true→aF (t++s) p=t.length:=by
 induction t with
 | nil=>intro p s h;simp [aI] at h;subst h;simp
 | cons n r ih=>
  intro p s h
  cases p with
  | zero=>simp [aI] at h
  | succ p=>
   rw [lJ,Bool.and_eq_true] at h
   simp [aF,ih _ s h.2]
   omega
theorem lK (l:List Nd):∀q,aF l q≤l.length:=by
 induction l with
 | nil=>intro q;cases q <;> simp [aF]
 | cons n r ih=>intro q;cases q with
  | zero=>simp
  | succ q=>have:=ih (q+aZ n);simp [aF];omega
theorem aO1 (l:List Nd) (q:Nat) (h:l≠[]):0 < aF l (q+1):=by
 cases l with
 | nil=>exact absurd rfl h
 | cons n r=>simp [aF];omega
theorem aO2 {l:List Nd} {q:Nat} (h:aI l (q+1)=true):l≠[]:=by
 rintro rfl;simp [aI] at h
abbrev aW:=List (Int×List Nd)
def look (L:aW) (x:Int):Option (List Nd):=L.lookup x
theorem uB (L:aW) (x y:Int) (t:List Nd):look (L++[(x,t)]) y=(look L y).or (if y=x then some t else none):=by
 unfold look
 rw [List.lookup_append]
 simp [List.lookup]
 by_cases h:y=x
 ·simp [h]
 ·rw [show (y == x)=false by simpa using h]
  simp [h]
theorem uC (L M:aW) (y:Int):look (L++M) y=(look L y).or (look M y):=by
 unfold look;rw [List.lookup_append]
def subst (σ:Int→List Nd) (l:List Nd):List Nd:=l.flatMap fun n=>if aG n then σ n.2 else [n]
theorem iP (σ:Int→List Nd) (n:Nd) (r:List Nd):subst σ (n :: r)=(if aG n then σ n.2 else [n])++subst σ r:=by simp [subst]
def Tm (σ:Int→List Nd):Prop:=∀x,aI (σ x) 1=true
def gV (σ:Int→List Nd) (L:aW):Prop:=∀x t,look L x=some t→σ x=t
theorem gV.snoc {σ:Int→List Nd} {L:aW} {x:Int} {t:List Nd} (h:look L x=none):gV σ (L++[(x,t)])↔gV σ L∧σ x=t:=by
 constructor
 ·intro k
  refine ⟨fun y s hy=>k y s (by rw [uB,hy];rfl),k x t (by rw [uB,h];simp)⟩
 ·rintro ⟨k,e⟩ y s hy
  rw [uB] at hy
  cases hl:look L y with
  | some u=>rw [hl] at hy;simp at hy;rw [←hy];exact k y u hl
  | none=>
   rw [hl] at hy
   by_cases hxy:y=x
   ·subst hxy;simp at hy;rw [←hy];exact e
   ·simp [hxy] at hy
theorem gV.left {σ:Int→List Nd} {L M:aW} (h:gV σ (L++M)):gV σ L:=fun x t hx=>h x t (by rw [uC,hx];rfl)
def cN:List Nd→List Nd→aW→Option aW
 | [],[],L=>some L
 | [],_ :: _,_=>none
 | n :: r,b,L=>
  if aG n then
   match look L n.2 with
   | some t=>if t=b.take (aF b 1) then cN r (b.drop (aF b 1)) L else none
   | none=>cN r (b.drop (aF b 1)) (L++[(n.2,b.take (aF b 1))])
  else match b with
   | []=>none
   | m :: b'=>if n=m then cN r b' L else none
theorem aA3 {n:Nd} {r b:List Nd} {L:aW} {t:List Nd} (hv:aG n=true) (hl:look L n.2=some t):cN (n :: r) b L=if t=b.take (aF b 1) then cN r (b.drop (aF b 1)) L else none:=by
 rw [cN.eq_def];simp [hv,hl]
theorem aA4 {n:Nd} {r b:List Nd} {L:aW} (hv:aG n=true) (hl:look L n.2=none):cN (n :: r) b L=cN r (b.drop (aF b 1)) (L++[(n.2,b.take (aF b 1))]):=by
 rw [cN.eq_def];simp [hv,hl]
theorem aA5 {n m:Nd} {r b:List Nd} {L:aW} (hv:aG n=false):cN (n :: r) (m :: b) L=if n=m then cN r b L else none:=by
 rw [cN.eq_def];simp [hv]
theorem uD {σ:Int→List Nd} (hσ:Tm σ) {n:Nd} {r b:List Nd} (hv:aG n=true):subst σ (n :: r)=b↔σ n.2=b.take (aF b 1)∧subst σ r=b.drop (aF b 1):=by
 rw [iP,if_pos hv]
 constructor
 ·rintro rfl
  rw [oW _ _ _ (hσ n.2)]
  simp
 ·rintro ⟨h1,h2⟩
  rw [h1,h2,List.take_append_drop]
theorem jC {n:Nd} (hv:aG n=true):aZ n=0:=by simp [aZ,hv]
theorem aEr (a:List Nd):∀(b:List Nd) (q:Nat) (L:aW),aI a q=true→aI b q=true→
  (∀L',cN a b L=some L'→∀σ,Tm σ→(gV σ L'↔gV σ L∧subst σ a=b))∧(cN a b L=none→∀σ,Tm σ→gV σ L→subst σ a≠b):=by
 induction a with
 | nil=>
  intro b q L ha hb
  cases q with
  | succ q=>simp [aI] at ha
  | zero=>
   cases b with
   | nil=>simp [cN,subst]
   | cons m b=>simp [aI] at hb
 | cons n r ih=>
  intro b q L ha hb
  cases q with
  | zero=>simp [aI] at ha
  | succ q=>
   rw [lJ,Bool.and_eq_true] at ha
   by_cases hv:aG n=true
   ·have hs:=aA2 b 1 q (by rw [←hb];congr 1;omega)
    have hq:aI r q=true:=by simpa [jC hv] using ha.2
    cases hl:look L n.2 with
    | some t=>
     rw [aA3 hv hl]
     by_cases ht:t=b.take (aF b 1)
     ·rw [if_pos ht]
      obtain ⟨i1,i2⟩:=ih (b.drop (aF b 1)) q L hq hs.2
      refine ⟨fun L' h σ hσ=>?_,fun h σ hσ he hx=>?_⟩
      ·rw [i1 L' h σ hσ,uD hσ hv]
       constructor
       ·rintro ⟨e,f⟩;exact ⟨e,(e _ _ hl).trans ht,f⟩
       ·rintro ⟨e,_,f⟩;exact ⟨e,f⟩
      ·exact i2 h σ hσ he ((uD hσ hv).1 hx).2
     ·rw [if_neg ht]
      refine ⟨fun L' h=>by simp at h,fun _ σ hσ he hx=>ht ?_⟩
      rw [←he _ _ hl]
      exact ((uD hσ hv).1 hx).1
    | none=>
     rw [aA4 hv hl]
     obtain ⟨i1,i2⟩:=ih (b.drop (aF b 1)) q (L++[(n.2,b.take (aF b 1))]) hq hs.2
     refine ⟨fun L' h σ hσ=>?_,fun h σ hσ he hx=>?_⟩
     ·rw [i1 L' h σ hσ,gV.snoc hl,uD hσ hv,and_assoc]
     ·obtain ⟨x1,x2⟩:=(uD hσ hv).1 hx
      exact i2 h σ hσ ((gV.snoc hl).2 ⟨he,x1⟩) x2
   ·have hv':aG n=false:=by simpa using hv
    cases b with
    | nil=>simp [aI] at hb
    | cons m b=>
     rw [lJ,Bool.and_eq_true] at hb
     rw [aA5 hv']
     by_cases hm:n=m
     ·subst hm
      rw [if_pos rfl]
      obtain ⟨i1,i2⟩:=ih b (q+aZ n) L ha.2 hb.2
      refine ⟨fun L' h σ hσ=>?_,fun h σ hσ he hx=>?_⟩
      ·rw [i1 L' h σ hσ,iP,hv'];simp
      ·rw [iP,hv'] at hx;simp at hx;exact i2 h σ hσ he hx
     ·rw [if_neg hm]
      refine ⟨fun L' h=>by simp at h,fun _ σ hσ he hx=>?_⟩
      rw [iP,hv'] at hx;simp at hx;exact hm hx.1
def aA6 (x:Int) (a:List Nd):Prop:=∃n∈a,aG n=true∧n.2=x
theorem aO3 (a:List Nd):∀(b:List Nd) (q:Nat) (L L':aW),aI a q=true→aI b q=true→cN a b L=some L'→
  ∃M,L'=L++M∧∀p∈M,aA6 p.1 a∧look L p.1=none:=by
 induction a with
 | nil=>
  intro b q L L' _ _ h
  cases b with
  | nil=>simp [cN] at h;exact ⟨[],by simp [h],by simp⟩
  | cons m b=>simp [cN] at h
 | cons n r ih=>
  intro b q L L' ha hb h
  cases q with
  | zero=>simp [aI] at ha
  | succ q=>
   rw [lJ,Bool.and_eq_true] at ha
   by_cases hv:aG n=true
   ·have hs:=aA2 b 1 q (by rw [←hb];congr 1;omega)
    have hq:aI r q=true:=by simpa [jC hv] using ha.2
    cases hl:look L n.2 with
    | some t=>
     rw [aA3 hv hl] at h
     by_cases ht:t=b.take (aF b 1)
     ·rw [if_pos ht] at h
      obtain ⟨M,h1,h2⟩:=ih _ q L L' hq hs.2 h
      exact ⟨M,h1,fun p hp=>⟨by obtain ⟨m,m1,m2⟩:=(h2 p hp).1;exact ⟨m,List.mem_cons_of_mem _ m1,m2⟩,(h2 p hp).2⟩⟩
     ·rw [if_neg ht] at h;simp at h
    | none=>
     rw [aA4 hv hl] at h
     obtain ⟨M,h1,h2⟩:=ih _ q _ L' hq hs.2 h
     refine ⟨(n.2,b.take (aF b 1)) :: M,by rw [h1];simp,fun p hp=>?_⟩
     rcases List.mem_cons.1 hp with rfl | hp
     ·exact ⟨⟨n,by simp,hv,rfl⟩,hl⟩
     ·refine ⟨by obtain ⟨m,m1,m2⟩:=(h2 p hp).1;exact ⟨m,List.mem_cons_of_mem _ m1,m2⟩,?_⟩
      have:=(h2 p hp).2
      rw [uB] at this
      cases hh:look L p.1 with
      | none=>rfl
      | some u=>rw [hh] at this;simp at this
   ·have hv':aG n=false:=by simpa using hv
    cases b with
    | nil=>simp [aI] at hb
    | cons m b=>
     rw [lJ,Bool.and_eq_true] at hb
     rw [aA5 hv'] at h
     by_cases hm:n=m
     ·subst hm
      rw [if_pos rfl] at h
      obtain ⟨M,h1,h2⟩:=ih _ _ L L' ha.2 hb.2 h
      exact ⟨M,h1,fun p hp=>⟨by obtain ⟨m,m1,m2⟩:=(h2 p hp).1;exact ⟨m,List.mem_cons_of_mem _ m1,m2⟩,(h2 p hp).2⟩⟩
     ·rw [if_neg hm] at h;simp at h
def iF (d c:List Lt) (L:aW):Prop:=∃σ,Tm σ∧gV σ L∧∀l∈c,(l.1,subst σ l.2)∈d
def Tms (c:List Lt):Prop:=∀l∈c,aI l.2 1=true
def iH (x y:Lt) (L:aW):Option aW:=if x.1=y.1 then cN x.2 y.2 L else none
theorem aA7 {x y:Lt} {L L':aW} (hx:aI x.2 1=true) (hy:aI y.2 1=true) (h:iH x y L=some L') (σ:Int→List Nd) (hσ:Tm σ):gV σ L'↔gV σ L∧(x.1,subst σ x.2)=y:=by
 unfold iH at h
 by_cases hb:x.1=y.1
 ·rw [if_pos hb] at h
  rw [(aEr x.2 y.2 1 L hx hy).1 L' h σ hσ,Prod.ext_iff]
  simp [hb]
 ·rw [if_neg hb] at h;simp at h
theorem aO5 {x y:Lt} {L:aW} (hx:aI x.2 1=true) (hy:aI y.2 1=true) (h:iH x y L=none) (σ:Int→List Nd) (hσ:Tm σ) (he:gV σ L):(x.1,subst σ x.2)≠y:=by
 unfold iH at h
 by_cases hb:x.1=y.1
 ·rw [if_pos hb] at h
  intro e
  exact (aEr x.2 y.2 1 L hx hy).2 h σ hσ he (by rw [←e])
 ·intro e;exact hb (by rw [←e])
theorem aO6 {x y:Lt} {L L':aW} (hx:aI x.2 1=true) (hy:aI y.2 1=true) (h:iH x y L=some L'):∃M,L'=L++M∧∀p∈M,aA6 p.1 x.2∧look L p.1=none:=by
 unfold iH at h
 by_cases hb:x.1=y.1
 ·rw [if_pos hb] at h;exact aO3 x.2 y.2 1 L L' hx hy h
 ·rw [if_neg hb] at h;simp at h
theorem aO7 {d c rest:List Lt} {L:aW} {x:Lt} (hd:Tms d) (hx:aI x.2 1=true) (hm:∀l,l∈c↔l=x∨l∈rest) :
  iF d c L↔∃y∈d,∃L',iH x y L=some L'∧iF d rest L':=by
 constructor
 ·rintro ⟨σ,h1,h2,h3⟩
  refine ⟨_,h3 x ((hm x).2 (Or.inl rfl)),?_⟩
  have hy:=hd _ (h3 x ((hm x).2 (Or.inl rfl)))
  cases hL:iH x (x.1,subst σ x.2) L with
  | none=>exact absurd rfl (aO5 hx hy hL σ h1 h2)
  | some L'=>exact ⟨L',rfl,σ,h1,(aA7 hx hy hL σ h1).2 ⟨h2,rfl⟩,fun l hl=>h3 l ((hm l).2 (Or.inr hl))⟩
 ·rintro ⟨y,hy,L',hL,σ,h1,h2,h3⟩
  obtain ⟨e,f⟩:=(aA7 hx (hd y hy) hL σ h1).1 h2
  refine ⟨σ,h1,e,fun l hl=>?_⟩
  rcases (hm l).1 hl with rfl | hl
  ·rw [f];exact hy
  ·exact h3 l hl
def Made (d c:List Lt) (L:aW):Prop:=∀σ,Tm σ→gV σ L→∀l∈c,(l.1,subst σ l.2)∈d
def iQ (c:List Lt) (L L':aW):Prop:=∃M,L'=L++M∧∀p∈M,(∃l∈c,aA6 p.1 l.2)∧look L p.1=none
def aA8 (L:aW) (g r:List Lt):Prop:=∀x∈g,∀y∈r,∀n∈x.2,aG n=true→look L n.2=none→n∉y.2
theorem aA9 {σ τ:Int→List Nd} {l:List Nd} (h:∀n∈l,aG n=true→σ n.2=τ n.2):subst σ l=subst τ l:=by
 induction l with
 | nil=>rfl
 | cons n r ih=>
  rw [iP,iP,ih fun m hm=>h m (List.mem_cons_of_mem _ hm)]
  by_cases hv:aG n=true
  ·rw [if_pos hv,if_pos hv,h n (by simp) hv]
  ·rw [if_neg hv,if_neg hv]
theorem aO8 {n m:Nd} (hn:aG n=true) (hm:aG m=true) (h:n.2=m.2):n=m:=by
 obtain ⟨s,x⟩:=n
 obtain ⟨t,y⟩:=m
 simp only at h
 subst h
 have hs:s.toList=t.toList:=by
  simp [aG] at hn hm
  rw [hn,hm]
 rw [vX.1 hs]
theorem iQ.refl (c:List Lt) (L:aW):iQ c L L:=⟨[],by simp,by simp⟩
theorem iQ.trans {c c' e:List Lt} {L L' L'':aW} (h:iQ c L L') (k:iQ c' L' L'') (h1:∀l∈c,l∈e) (h2:∀l∈c',l∈e):iQ e L L'':=by
 obtain ⟨M,rfl,hM⟩:=h
 obtain ⟨M',rfl,hM'⟩:=k
 refine ⟨M++M',by simp,fun p hp=>?_⟩
 rcases List.mem_append.1 hp with hp | hp
 ·obtain ⟨⟨l,hl,hx⟩,hn⟩:=hM p hp
  exact ⟨⟨l,h1 l hl,hx⟩,hn⟩
 ·obtain ⟨⟨l,hl,hx⟩,hn⟩:=hM' p hp
  refine ⟨⟨l,h2 l hl,hx⟩,?_⟩
  rw [uC] at hn
  cases hh:look L p.1 with
  | none=>rfl
  | some u=>rw [hh] at hn;simp at hn
theorem wT {L:aW} {x:Int} {t:List Nd} (h:look L x=some t):(x,t)∈L:=by
 unfold look at h
 induction L with
 | nil=>simp at h
 | cons p r ih=>
  obtain ⟨y,s⟩:=p
  rw [List.lookup_cons] at h
  by_cases hxy:(x == y)=true
  ·rw [hxy] at h;simp at h hxy;subst hxy h;simp
  ·simp only [hxy] at h
   exact List.mem_cons_of_mem _ (ih h)
theorem iQ.ext {c:List Lt} {L L':aW} (h:iQ c L L') {σ:Int→List Nd} (k:gV σ L'):gV σ L:=by
 obtain ⟨M,rfl,_⟩:=h;exact k.left
theorem aO9 {d c g r:List Lt} {L L':aW} (hm:∀l,l∈c↔l∈g∨l∈r) (ha:aA8 L g r) (hg:iQ g L L') (hT:∀x t,look L' x=some t→aI t 1=true) (hM:Made d g L'):iF d c L↔iF d r L':=by
 constructor
 ·rintro ⟨σ,h1,h2,h3⟩
  refine ⟨fun x=>(look L' x).getD (σ x),fun x=>?_,fun x t hx=>by simp [hx],fun l hl=>?_⟩
  ·show aI ((look L' x).getD (σ x)) 1=true
   cases hh:look L' x with
   | none=>exact h1 x
   | some t=>exact hT x t hh
  ·have:=h3 l ((hm l).2 (Or.inr hl))
   rw [show subst (fun x=>(look L' x).getD (σ x)) l.2=subst σ l.2 from ?_]
   ·exact this
   ·refine aA9 fun n hn hv=>?_
    cases hh:look L n.2 with
    | some t=>
     obtain ⟨M,rfl,_⟩:=hg
     show (look (L++M) n.2).getD (σ n.2)=σ n.2
     rw [uC,hh]
     simp only [Option.some_or,Option.getD_some]
     exact (h2 _ _ hh).symm
    | none=>
     cases hk:look L' n.2 with
     | none=>simp only [Option.getD_none]
     | some t=>
      exfalso
      obtain ⟨M,rfl,hMM⟩:=hg
      rw [uC,hh] at hk
      obtain ⟨⟨x,hx,m,hm1,hm2,hm3⟩,_⟩:=hMM _ (wT (by simpa using hk))
      simp only at hm3
      have hnm:=aO8 hm2 hv hm3
      exact ha x hx l hl m hm1 hm2 (by rw [hm3];exact hh) (by rw [hnm];exact hn)
 ·rintro ⟨σ,h1,h2,h3⟩
  refine ⟨σ,h1,hg.ext h2,fun l hl=>?_⟩
  rcases (hm l).1 hl with hl | hl
  ·exact hM σ h1 h2 l hl
  ·exact h3 l hl
theorem aOa {d:List Lt} {L:aW} (hT:∀x t,look L x=some t→aI t 1=true):iF d [] L:=by
 refine ⟨fun x=>(look L x).getD [(⟨#[]⟩,0)],fun x=>?_,fun x t hx=>by simp [hx],by simp⟩
 show aI ((look L x).getD [(⟨#[]⟩,0)]) 1=true
 cases hh:look L x with
 | none=>
  have he:(⟨#[]⟩ : ByteArray).toList=[]:=by rw [ByteArray.toList_eq]
  simp [aI,dH,aZ,aG,he]
 | some t=>exact hT x t hh
structure kL (L:aW):Prop where
 keys:∀p∈L,0≤p.1∧p.1 < 60
 once:(L.map Prod.fst).Nodup
 terms:∀p∈L,aI p.2 1=true∧p.2.length≤60
theorem kL.nil:kL []:=⟨by simp,by simp,by simp⟩
theorem kL.look {L:aW} (h:kL L):∀x t,look L x=some t→aI t 1=true:=fun _ _ hx=>(h.terms _ (wT hx)).1
theorem aOb {L:aW} {x:Int} (h:look L x=none):x∉L.map Prod.fst:=by
 intro hx
 obtain ⟨p,hp,rfl⟩:=List.mem_map.1 hx
 unfold Go.Proofs.YthicbnejchpmgaaGreatDoor.look at h
 have:=List.lookup_eq_none_iff.1 h p hp
 simp at this
theorem kL.snoc {L:aW} {x:Int} {t:List Nd} (h:kL L) (hl:Go.Proofs.YthicbnejchpmgaaGreatDoor.look L x=none) (h0:0≤x) (h1:x < 60) (ht:aI t 1=true) (hs:t.length≤60):kL (L++[(x,t)]):=by
 refine ⟨fun p hp=>?_,?_,fun p hp=>?_⟩
 ·rcases List.mem_append.1 hp with hp | hp
  ·exact h.keys p hp
  ·simp at hp;subst hp;exact ⟨h0,h1⟩
 ·rw [List.map_append,List.nodup_append]
  refine ⟨h.once,by simp,fun a ha b hb e=>aOb hl ?_⟩
  simp at hb
  subst hb e
  exact ha
 ·rcases List.mem_append.1 hp with hp | hp
  ·exact h.terms p hp
  ·simp at hp;subst hp;exact ⟨ht,hs⟩
theorem kL.few {L:aW} (h:kL L):L.length≤60:=by
 have h2:∀x∈L.map Prod.fst,x∈(List.range 60).map (fun n:Nat=>(n:Int)):=by
  intro x hx
  obtain ⟨p,hp,rfl⟩:=List.mem_map.1 hx
  have:=h.keys p hp
  exact List.mem_map.2 ⟨p.1.toNat,by simp;omega,by omega⟩
 have h3:=List.Nodup.length_le_of_subset h.once h2
 simpa using h3
theorem kL.left {L M:aW} (h:kL (L++M)):kL L:=
 ⟨fun p hp=>h.keys p (List.mem_append_left _ hp),by have:=h.once;rw [List.map_append,List.nodup_append] at this;exact this.1,fun p hp=>h.terms p (List.mem_append_left _ hp)⟩
theorem aEs {n:Nd} (h:dH n=true) (hv:aG n=true):0≤n.2∧n.2 < 60:=by simpa [dH,hv] using h
theorem aOc (l:List Nd) (k p:Nat) (h:k < l.length):aF (l.drop k) (p+1)=1+aF (l.drop (k+1)) (p+aZ l[k]):=by
 rw [List.drop_eq_getElem_cons h];rfl
theorem aAa (l:List Nd) (k q:Nat) (h:k < l.length):aI (l.drop k) (q+1)=(dH l[k] && aI (l.drop (k+1)) (q+aZ l[k])):=by
 rw [List.drop_eq_getElem_cons h,lJ]
theorem aOd (b:List Nd) (j:Nat) (L:aW) (hj:j=b.length):cN [] (b.drop j) L=some L:=by
 subst hj;simp [cN]
theorem aOe (a b:List Nd) (k j:Nat) (L:aW) (t:List Nd) (hk:k < a.length) (hv:aG a[k]=true) (hl:look L a[k].2=some t) :
  cN (a.drop k) (b.drop j) L=if t=(b.drop j).take (aF (b.drop j) 1) then cN (a.drop (k+1)) (b.drop (j+aF (b.drop j) 1)) L else none:=by
 rw [List.drop_eq_getElem_cons hk,aA3 hv hl,List.drop_drop]
theorem aOf (a b:List Nd) (k j:Nat) (L:aW) (hk:k < a.length) (hv:aG a[k]=true) (hl:look L a[k].2=none) :
  cN (a.drop k) (b.drop j) L=cN (a.drop (k+1)) (b.drop (j+aF (b.drop j) 1)) (L++[(a[k].2,(b.drop j).take (aF (b.drop j) 1))]):=by
 rw [List.drop_eq_getElem_cons hk,aA4 hv hl,List.drop_drop]
theorem aOg (a b:List Nd) (k j:Nat) (L:aW) (hk:k < a.length) (hj:j < b.length) (hv:aG a[k]=false) :
  cN (a.drop k) (b.drop j) L=if a[k]=b[j] then cN (a.drop (k+1)) (b.drop (j+1)) L else none:=by
 rw [List.drop_eq_getElem_cons hk,List.drop_eq_getElem_cons hj,aA5 hv]
theorem aEt {l:List Nd} {k q:Nat} (h:aI (l.drop k) (q+1)=true):k < l.length:=by
 rcases Nat.lt_or_ge k l.length with hk | hk
 ·exact hk
 ·rw [List.drop_eq_nil_of_le hk] at h;simp [aI] at h
theorem aOh {l:List Nd} {k:Nat} (hk:k≤l.length) (h:aI (l.drop k) 0=true):k=l.length:=by
 rcases Nat.lt_or_ge k l.length with hl | hl
 ·rw [yQ l k hl] at h;simp at h
 ·omega
end Go.Proofs.YthicbnejchpmgaaGreatDoor
namespace Go.Proofs.YthicbnejchpmgaaGreatDoor
open Go.RowKit
set_option maxRecDepth 100000
def iJ (w:World) (v v':Value):Prop:=v'.ownBlock=v.ownBlock∨∃g,v'.ownBlock=some g∧w.heap.size≤g
theorem iJ.refl (w:World) (v:Value):iJ w v v:=Or.inl rfl
theorem iJ.trans {w w1:World} {v v1 v2:Value} (h:iJ w v v1) (k:iJ w1 v1 v2) (hs:w.heap.size≤w1.heap.size):iJ w v v2:=by
 rcases k with k | ⟨g,k,hg⟩
 ·rcases h with h | ⟨g,h,hg⟩
  ·exact Or.inl (k.trans h)
  ·exact Or.inr ⟨g,k.trans h,hg⟩
 ·exact Or.inr ⟨g,k,by omega⟩
theorem aEu {w W W':World} {v v1:Value} (h:w.grownBy W v.ownBlock) (hm:iJ w v v1) (hg:W.grownBy W' v1.ownBlock):w.grownBy W' v.ownBlock:=
 ⟨hg.os.trans h.os,hg.tape.trans h.tape,hg.output.trans h.output,Nat.le_trans h.size hg.size,fun k hk ho=>by
  rw [hg.block k (Nat.lt_of_lt_of_le hk h.size) (fun e=>by
   rcases hm with hm | ⟨g,hm,hgg⟩
   ·exact ho (e.trans hm)
   ·rw [hm] at e;simp at e;omega),h.block k hk ho]⟩
theorem fH {w w':World} {o:Option Nat} (h:Below w.heap.size w w'):w.grownBy w' o:=⟨h.os,h.tape,h.output,h.size,fun k hk _=>h.block k hk⟩
theorem aOi (l:List Nd):∀u∈aQ l,u.oneCell'=true:=by
 intro u hu
 simp only [aQ,List.mem_flatMap] at hu
 obtain ⟨n,_,hu⟩:=hu
 simp at hu
 rcases hu with rfl | rfl <;> rfl
def qH (w:World) (B:Nat) (v:Value) (l:List Nd):Prop:=w.ownsRow B 28 2 v l.length (aQ l)
theorem dB {w w':World} {B:Nat} {e:TypeId} {size:Nat} {v:Value} {n:Nat} {xs:List Value} {o:Option Nat} (h:w.ownsRow B e size v n xs) (hg:w.grownBy w' o) (ho:v.ownBlock=none∨v.ownBlock≠o):w'.ownsRow B e size v n xs:=by
 obtain ⟨h1,⟨rfl,h2⟩ | ⟨g,cap,cur,rfl,hb,hh,hr⟩⟩:=h
 ·exact ⟨h1,Or.inl ⟨rfl,h2⟩⟩
 ·refine ⟨h1,Or.inr ⟨g,cap,cur,rfl,hb,?_,hr⟩⟩
  rw [hg.block g (Array.getElem?_eq_some_iff.1 hh).1 ?_,hh]
  rintro rfl
  rcases ho with ho | ho
  ·simp [Value.ownBlock] at ho
  ·simp [Value.ownBlock] at ho
theorem qI {w:World} {B:Nat} {e:TypeId} {size:Nat} {v:Value} {n:Nat} {xs:List Value} (h:w.ownsRow B e size v n xs):v.ownBlock≠some w.heap.size:=fun e=>by have:=(bU h _ e).2;omega
theorem dF {w:World} {B tb:Nat} {e T:TypeId} {size:Nat} {v:Value} {n:Nat} {xs:List Value} {cs:Array Value} (h:w.ownsRow B e size v n xs) (hb:w.heap[tb]?=some (.cells cs T)) (he:e≠T):v.ownBlock≠some tb:=by
 obtain ⟨_,⟨rfl,_⟩ | ⟨g,cap,cur,rfl,_,hg,_⟩⟩:=h
 ·simp [Value.ownBlock]
 ·simp [Value.ownBlock]
  rintro rfl
  rw [hg] at hb
  simp at hb
  exact he hb.2
theorem jD {w:World} {B tb j:Nat} {e T:TypeId} {size:Nat} {v x:Value} {n:Nat} {xs:List Value} {cs:Array Value} (h:w.ownsRow B e size v n xs) (hb:w.heap[tb]?=some (.cells cs T)) (he:e≠T):(w.setCell ⟨tb,j,none⟩ x).ownsRow B e size v n xs:=
 dB h (bZ w ⟨tb,j,none⟩ x) (Or.inr (dF h hb he))
theorem aAb {w:World} {B:Nat} {v:Value} {l:List Nd} (h:w.ownsRow B 28 2 v l.length (aQ l)) :
  ∃a cap,v=.slice a l.length cap∧∀k n,l[k]?=some n→∃g,a=some ⟨g,0,none⟩∧w.cell? ⟨g,k * 2,none⟩=some (.string n.1)∧w.cell? ⟨g,k * 2+1,none⟩=some (.int .i64 n.2):=by
 obtain ⟨h1,⟨rfl,h2⟩ | ⟨g,cap,cur,rfl,hb,hh,hc,hm,hz,ht⟩⟩:=h
 ·refine ⟨none,0,by rw [h2],fun k n hk=>?_⟩
  have:=(List.getElem?_eq_some_iff.1 hk).1
  omega
 ·have ho:w.ownsRow B 28 2 (.slice (some ⟨g,0,none⟩) l.length cap) l.length (aQ l):=⟨h1,Or.inr ⟨g,cap,cur,rfl,hb,hh,hc,hm,hz,ht⟩⟩
  refine ⟨_,_,rfl,fun k n hk=>⟨g,rfl,?_,?_⟩⟩
  ·obtain ⟨hl,rfl⟩:=List.getElem?_eq_some_iff.1 hk
   rw [ho.cellAt (k * 2) (by omega),(sH l k hl).1]
  ·obtain ⟨hl,rfl⟩:=List.getElem?_eq_some_iff.1 hk
   rw [ho.cellAt (k * 2+1) (by omega),(sH l k hl).2]
theorem wU (w:World) (x y:Value) (t:TypeId):(w.alloc (.cells #[x,y] t)).cell? ⟨w.heap.size,0,none⟩=some x∧(w.alloc (.cells #[x,y] t)).cell? ⟨w.heap.size,1,none⟩=some y:=by
 have h:(w.alloc (.cells #[x,y] t)).heap[w.heap.size]?=some (.cells #[x,y] t):=by
  show (w.heap.push _)[w.heap.size]?=_
  simp
 constructor
 ·unfold World.cell?;rw [h];rfl
 ·unfold World.cell?;rw [h];rfl
theorem aAc (w:World) (base:Nat) (t ty e:TypeId) (i:TypeInfo) (z:Value) (size bytes:Nat) (ht:Tryz.prog.underlying t=some (.slice e)) (hi:Tryz.prog.info? e=some i) (hz:i.zero=some z)
  (hsize:i.size=size) (hby:i.bytes=bytes) (hsz:0 < size)
  (v:Value) (n:Nat) (xs:List Value) (hown:w.ownsRow base e size v n xs) (hv:v.ownBlock≠none)
  (a:Addr) (m c:Nat) (news:List Value) (hl:news.length=m * size) (hnews:∀j u,news[j]?=some u→w.cell? (a.add j)=some u) (h1:∀u∈news,u.oneCell'=true)
  (h63:n+m≤maxLen) (hbytes:(n+m) * bytes≤140737488355328) {v':Value} {w':World} (hr:(Builtin.append_ #[t,t] ty #[v,.slice (some a) m c]).run Tryz.prog w=.ok v' w') :
  v'.ownBlock=v.ownBlock∨v'.ownBlock=some w.heap.size:=by
 subst hsize
 subst hby
 have hsmall:n+m≤9223372036854775807:=by simp only [maxLen] at h63;omega
 rcases hown.2 with ⟨rfl,rfl⟩ | ⟨g,cap,cur,rfl,hbg,hg,hnc,hcm,hcs,htake⟩
 ·exact absurd rfl hv
 ·by_cases hroom:n+m≤cap
  ·have hfit:n * i.size+news.length≤cur.size:=by rw [hl,hcs,←Nat.add_mul];exact Nat.mul_le_mul_right _ hroom
   have hr':=run_append_room (P:=Tryz.prog) w t ty e i ht hi g n cap cur hg a m c news hl hnews h1 hroom hfit
   rw [hr'] at hr
   simp at hr
   rw [←hr.1]
   exact Or.inl rfl
  ·have holds:∀j u,xs[j]?=some u→w.cell? ((⟨g,0,none⟩ : Addr).add j)=some u:=hown.cells (g:=g) rfl
   have hr':=run_append_grow (P:=Tryz.prog) w t ty e i z ht hi hz ⟨g,0,none⟩ n cap xs hown.1 holds a m c news hl hnews (by omega) (by omega) (growslice_fits (by omega) hbytes)
   rw [hr'] at hr
   simp at hr
   rw [←hr.1]
   exact Or.inr rfl
theorem sV {ops:Array Oper} {i:Nat} {o:Oper} {a:Act} {w w':World} {v:Value} {K:Act→World→Prop} {Q:Exit→Act→World→Prop} (hi:ops[i]?=some o) (hg:o.guard=none) (hr:(execOp a.eval o).run Tryz.prog w=.ok (.value v) w') (h:K (a.put o.dst v) w'):wpOp Tryz.prog ops Q i K a w:=by
 refine wpOp_step hi fun K' hK=>?_
 rw [if_pos (by simp [Region.wanted,hg])]
 unfold Oper.wp
 rw [hr]
 exact hK _ _ h
def jE (l:List Nd):Bool:=dT l && !aG (l.headD (⟨#[]⟩,0))
def bV (c:List Lt):Bool:=dV c && (c.all fun l=>jE l.2) && decide (c=aT c)
theorem aEv (l:List Nd) (seen:List Int):(bW l seen).1.map Prod.fst=l.map Prod.fst:=by
 suffices ∀(l:List Nd) (st:List Nd×List Int),(l.foldl bY st).1.map Prod.fst=st.1.map Prod.fst++l.map Prod.fst by
  have h:=this l ([],seen);simpa [bW] using h
 intro l
 induction l with
 | nil=>intro st;simp
 | cons x r ih=>
  intro st
  rw [List.foldl_cons,ih]
  have:(bY st x).1.map Prod.fst=st.1.map Prod.fst++[x.1]:=by
   unfold bY
   split
   ·split <;> simp
   ·simp
  rw [this]
  simp
theorem aOj (c:List Lt):∀x∈(cX c).1,∃y∈c,x.2.map Prod.fst=y.2.map Prod.fst:=by
 suffices ∀(c:List Lt) (st:List Lt×List Int),∀x∈(c.foldl dM st).1,x∈st.1∨∃y∈c,x.2.map Prod.fst=y.2.map Prod.fst by
  intro x hx
  rcases this c ([],[]) x hx with h | h
  ·simp at h
  ·exact h
 intro c
 induction c with
 | nil=>intro st x hx;exact Or.inl hx
 | cons y r ih=>
  intro st x hx
  rcases ih (dM st y) x hx with h | ⟨z,hz,hz'⟩
  ·rcases List.mem_append.1 (show x∈st.1++[(y.1,(bW y.2 st.2).1)] from h) with h | h
   ·exact Or.inl h
   ·simp at h
    subst h
    exact Or.inr ⟨y,by simp,aEv _ _⟩
  ·exact Or.inr ⟨z,by simp [hz],hz'⟩
theorem aOk (c:List Lt):∀x∈aT c,∃y∈c,x.2.map Prod.fst=y.2.map Prod.fst:=by
 intro x hx
 obtain ⟨y,hy,h⟩:=aOj _ x hx
 exact ⟨y,(sK c).2.2 y hy,h⟩
def sW (c:List Lt):Prop:=∀x∈c,x.2.length≤5864062014805∧∀n∈x.2,n.1.size≤140737488355328
theorem sW.ord {c:List Lt} (h:sW c):sW (aT c):=by
 intro x hx
 obtain ⟨y,hy,hxy⟩:=aOk c x hx
 have hl:x.2.length=y.2.length:=by have:=congrArg List.length hxy;simpa using this
 refine ⟨by rw [hl];exact (h y hy).1,fun n hn=>?_⟩
 have:n.1∈y.2.map Prod.fst:=by rw [←hxy];exact List.mem_map.2 ⟨n,hn,rfl⟩
 obtain ⟨m,hm,hmn⟩:=List.mem_map.1 this
 rw [←hmn]
 exact (h y hy).2 m hm
theorem aEw {w:World} {B:Nat} {v:Value} {Q:List (Lt×Value)} {d:List Lt} (hd:Q.map Prod.fst=d) (ho:w.ownsRow B 66 2 v Q.length (aU Q)) (hQ:∀q∈Q,w.ownsRow B 28 2 q.2 q.1.2.length (aQ q.1.2)) (hf:d.length≤4398046511104) (hs:sW d) :
  ∃a cap,v=.slice a d.length cap∧bS w a d:=by
 subst hd
 obtain ⟨a,cap,rfl,hc⟩:=sL ho
 refine ⟨a,cap,by simp,hf,fun k hk=>?_⟩
 have hk':k < Q.length:=by simpa using hk
 obtain ⟨g,rfl,h1,h2⟩:=hc k hk'
 have hq:=hQ Q[k] (List.getElem_mem _)
 have hm:Q[k].1∈Q.map Prod.fst:=List.mem_map.2 ⟨Q[k],List.getElem_mem _,rfl⟩
 obtain ⟨aa,acp,hv,hn⟩:=nX hq (hs _ hm).1 (fun j hj=>(hs _ hm).2 _ (List.getElem_mem _))
 rw [hv] at h2
 refine ⟨g,0,aa,acp,rfl,?_,?_,?_⟩
 ·rw [Nat.zero_add,h1];simp
 ·rw [Nat.zero_add,h2];simp
 ·simpa using hn
theorem aOl:dT []=false:=by decide
def wV (w:World) (a:Option Addr) (c:List Lt):Prop:=∀k,k < c.length→∀b o aa n cap,a=some ⟨b,o,none⟩→w.cell? ⟨b,o+k * 2+1,none⟩=some (.slice aa n cap)→n≤cap
theorem aEx {w:World} {g:Nat} {s x:Value} {t:TypeId} (h:w.heap[g]?=some (.cells #[s,x] t)):w.cell? ⟨g,0,none⟩=some s∧w.cell? ⟨g,1,none⟩=some x:=⟨by simp [World.cell?,h],by simp [World.cell?,h]⟩
theorem aEy {l:List Nd} (h:jE l=true):aI l 1=true∧l.length≤60:=by
 have:dT l=true:=by simp [jE] at h;exact h.1
 simpa [dT] using this
end Go.Proofs.YthicbnejchpmgaaGreatDoor
namespace Go.Proofs.YthicbnejchpmgaaGreatDoor
open Go.RowKit
def kA (w:World) (B k:Nat):Prop:=k < B∨∀cs T fr,w.heap[k]?=some (.cells cs T fr)→T≠149∧T≠3
structure Fr (B:Nat) (w w':World):Prop where
 os:w'.os=w.os
 tape:w'.tape=w.tape
 output:w'.output=w.output
 size:w.heap.size≤w'.heap.size
 block:∀k,k < w.heap.size→kA w B k→w'.heap[k]?=w.heap[k]?
theorem Fr.refl (B:Nat) (w:World):Fr B w w:=⟨rfl,rfl,rfl,Nat.le_refl _,fun _ _ _=>rfl⟩
theorem kA.fr {B k:Nat} {w w':World} (h:kA w B k) (hk:k < w.heap.size) (f:Fr B w w'):kA w' B k:=by
 have e:=f.block k hk h
 rcases h with h | h
 ·exact Or.inl h
 ·exact Or.inr fun cs T fr hx=>h cs T fr (by rw [←e];exact hx)
theorem Fr.trans {B:Nat} {a b c:World} (h:Fr B a b) (k:Fr B b c):Fr B a c:=
 ⟨k.os.trans h.os,k.tape.trans h.tape,k.output.trans h.output,Nat.le_trans h.size k.size,fun i hi hs=>by
  rw [k.block i (Nat.lt_of_lt_of_le hi h.size) (hs.fr hi h),h.block i hi hs]⟩
theorem Fr.of_below {B:Nat} {w w':World} (h:Below w.heap.size w w'):Fr B w w':=⟨h.os,h.tape,h.output,h.size,fun k hk _=>h.block k hk⟩
theorem Fr.below {B:Nat} {w w':World} (h:Fr B w w') (hB:B≤w.heap.size):Below B w w':=⟨h.os,h.tape,h.output,h.size,fun k hk=>h.block k (by omega) (Or.inl hk)⟩
theorem Fr.cell {B:Nat} {w w':World} (h:Fr B w w') {a:Addr} {v:Value} (hc:w.cell? a=some v) (hs:kA w B a.block):w'.cell? a=some v:=
 (World.cell?_of_block (h.block _ (World.block_lt_of_cell? w a hc) hs)).trans hc
theorem Fr.alloc {B:Nat} {a w:World} (h:Fr B a w) (o:Obj):Fr B a (w.alloc o):=h.trans (.of_below ((Below.refl _ _).alloc (Nat.le_refl _) o))
theorem Fr.drawn {B:Nat} {a w w1:World} (h:Fr B a w) (k:∃n,w1=w.drewN n):Fr B a w1:=h.trans (.of_below (aN k))
structure eX (w:World) (B:Nat) (a:Option Addr) (l:List Nd):Prop where
 nodes:bQ w a l
 low:∀p,a=some p→p.block < B
theorem eX.fr {w w':World} {B:Nat} {a:Option Addr} {l:List Nd} (h:eX w B a l) (f:Fr B w w'):eX w' B a l:=
 ⟨⟨h.nodes.few,h.nodes.short,fun k hk=>by
  obtain ⟨b,o,e,h1,h2⟩:=h.nodes.cell k hk
  have hl:=h.low _ e
  exact ⟨b,o,e,f.cell h1 (Or.inl hl),f.cell h2 (Or.inl hl)⟩⟩,h.low⟩
structure cK (w:World) (B:Nat) (a:Option Addr) (c:List Lt):Prop where
 few:c.length≤8
 cell:∀k (h:k < c.length),∃b o aa cap,a=some ⟨b,o,none⟩∧kA w B b∧w.cell? ⟨b,o+k * 2,none⟩=some (.bool c[k].1)∧w.cell? ⟨b,o+k * 2+1,none⟩=some (.slice aa c[k].2.length cap)∧c[k].2.length≤cap∧eX w B aa c[k].2
theorem cK.fr {w w':World} {B:Nat} {a:Option Addr} {c:List Lt} (h:cK w B a c) (f:Fr B w w'):cK w' B a c:=
 ⟨h.few,fun k hk=>by
  obtain ⟨b,o,aa,cap,e,hs,h1,h2,hc,h3⟩:=h.cell k hk
  exact ⟨b,o,aa,cap,e,hs.fr (World.block_lt_of_cell? w _ h1) f,f.cell h1 hs,f.cell h2 hs,hc,h3.fr f⟩⟩
def wW (w:World) (B:Nat) (r:Option (List Nd)) (v:Value):Prop:=
 match r with
 | none=>v=.slice none 0 0
 | some t=>∃a cap,v=.slice (some a) t.length cap∧eX w B (some a) t
theorem wW.fr {w w':World} {B:Nat} {r:Option (List Nd)} {v:Value} (h:wW w B r v) (f:Fr B w w'):wW w' B r v:=by
 cases r with
 | none=>exact h
 | some t=>obtain ⟨a,cap,h1,h2⟩:=h;exact ⟨a,cap,h1,h2.fr f⟩
structure bN (w:World) (B g:Nat) (dv:Value) (L:aW):Prop where
 low:B≤g
 blk:∃cs,w.heap[g]?=some (.cells cs 149 (0,0))
 among:w.cell? ⟨g,0,none⟩=some dv
 term:∀x:Nat,x < 60→∃v,w.cell? ⟨g,1+x,none⟩=some v∧wW w B (look L (x:Int)) v
 bound:∃bv,w.cell? ⟨g,61,none⟩=some bv∧w.ownsRow B 3 1 bv L.length (L.map fun p=>.int .i64 p.1)
 ok:kL L
theorem bN.frozen {w:World} {B g:Nat} {dv:Value} {L:aW} (h:bN w B g dv L) (j:Nat):w.frozen? ⟨g,j,none⟩=false:=by
 obtain ⟨cs,hb⟩:=h.blk
 simp [World.frozen?,hb]
theorem bN.lt {w:World} {B g:Nat} {dv:Value} {L:aW} (h:bN w B g dv L):g < w.heap.size:=World.block_lt_of_cell? w _ h.among
theorem bN.below {w w':World} {B g:Nat} {dv:Value} {L:aW} (h:bN w B g dv L) (k:Below w.heap.size w w'):bN w' B g dv L:=by
 obtain ⟨bv,b1,b2⟩:=h.bound
 refine ⟨h.low,?_,Below.at' k (Nat.le_refl _) h.among,fun x hx=>?_,⟨bv,Below.at' k (Nat.le_refl _) b1,aY b2 k (Nat.le_refl _)⟩,h.ok⟩
 ·obtain ⟨cs,hb⟩:=h.blk
  exact ⟨cs,by rw [k.block g h.lt];exact hb⟩
 ·obtain ⟨v,v1,v2⟩:=h.term x hx
  exact ⟨v,Below.at' k (Nat.le_refl _) v1,v2.fr (Fr.of_below k)⟩
theorem bN.drawn {w w':World} {B g:Nat} {dv:Value} {L:aW} (h:bN w B g dv L) (k:∃n,w'=w.drewN n):bN w' B g dv L:=h.below (aN k)
theorem aOm {w:World} {B:Nat} {v:Value} {n k:Nat} {xs:List Value} (h:w.ownsRow B 3 1 v n xs) (hk:v.ownBlock=some k):¬kA w B k:=by
 obtain ⟨_,⟨rfl,_⟩ | ⟨g,cap,cur,rfl,hb,hh,_⟩⟩:=h
 ·simp [Value.ownBlock] at hk
 ·simp [Value.ownBlock] at hk
  subst hk
  rintro (hs | hs)
  ·omega
  ·exact (hs _ _ _ hh).2 rfl
theorem Fr.grownInts {w w':World} {B:Nat} {v:Value} {n:Nat} {xs:List Value} (h:w.ownsRow B 3 1 v n xs) (hg:w.grownBy w' v.ownBlock):Fr B w w':=
 ⟨hg.os,hg.tape,hg.output,hg.size,fun k hk hs=>hg.block k hk (fun e=>aOm h e.symm hs)⟩
theorem bN.apart {w:World} {B g:Nat} {dv:Value} {L:aW} (h:bN w B g dv L) {v:Value} {n:Nat} {xs:List Value} (ho:w.ownsRow B 3 1 v n xs):some g≠v.ownBlock:=by
 intro e
 obtain ⟨_,⟨rfl,_⟩ | ⟨k,cap,cur,rfl,hb,hh,_⟩⟩:=ho
 ·simp [Value.ownBlock] at e
 ·simp [Value.ownBlock] at e
  subst e
  obtain ⟨cs,hc⟩:=h.blk
  rw [hh] at hc
  simp at hc
theorem wX {w:World} {B:Nat} {e:TypeId} {size:Nat} {v:Value} {n:Nat} {xs:List Value} (h:w.ownsRow B e size v n xs) {p:Addr} (hp:some p.block≠v.ownBlock) (u:Value):(w.setCell p u).ownsRow B e size v n xs:=by
 obtain ⟨h1,⟨rfl,h2⟩ | ⟨g,cap,cur,rfl,hb,hh,hr⟩⟩:=h
 ·exact ⟨h1,Or.inl ⟨rfl,h2⟩⟩
 ·refine ⟨h1,Or.inr ⟨g,cap,cur,rfl,hb,?_,hr⟩⟩
  rw [heap_setCell_other _ _ _ _ (fun e=>hp (by simp [Value.ownBlock,e])),hh]
def mF (w:World) (g:Nat):Prop:=∃cs,w.heap[g]?=some (.cells cs 149 (0,0))
theorem mF.set {w:World} {g:Nat} (h:mF w g) (j:Nat) (u:Value):mF (w.setCell ⟨g,j,none⟩ u) g:=by
 obtain ⟨cs,hb⟩:=h
 exact ⟨_,heap_setCell_same w g j cs _ u hb⟩
theorem mF.grown {w w':World} {g:Nat} {r:Option Nat} (h:mF w g) (hg:w.grownBy w' r) (hr:some g≠r):mF w' g:=by
 obtain ⟨cs,hb⟩:=h
 exact ⟨cs,by rw [hg.block g (Array.getElem?_eq_some_iff.1 hb).1 hr];exact hb⟩
theorem Fr.setB {w:World} {B g:Nat} (hB:B≤g) (h:mF w g) (j:Nat) (u:Value):Fr B w (w.setCell ⟨g,j,none⟩ u):=by
 refine ⟨rfl,rfl,rfl,by simp [World.setCell],fun k _ hs=>heap_setCell_other _ _ _ _ (fun e=>?_)⟩
 simp at e
 subst e
 rcases hs with hs | hs
 ·omega
 ·obtain ⟨cs,hb⟩:=h;exact (hs cs _ _ hb).1 rfl
theorem aOn {L:aW} {m x:Nat} {t:List Nd} (hl:look L (m:Int)=none):look (L++[((m:Int),t)]) (x:Int)=if x=m then some t else look L (x:Int):=by
 rw [uB]
 by_cases h:x=m
 ·subst h;rw [hl];simp
 ·have:¬(x:Int)=(m:Int):=by omega
  simp [h,this]
theorem bN.more {w w2:World} {B g m cap:Nat} {dv bv bv':Value} {L:aW} {a:Addr} {t:List Nd} {o:Obj} (h:bN w B g dv L) (hm:m < 60) (hl:look L (m:Int)=none) (hN:eX w B (some a) t) (ht:aI t 1=true) (h60:t.length≤60)
  (ho:w.ownsRow B 3 1 bv L.length (L.map fun p=>.int .i64 p.1)) (hg:((w.setCell ⟨g,1+m,none⟩ (.slice (some a) t.length cap)).alloc o).grownBy w2 bv.ownBlock)
  (ho2:w2.ownsRow B 3 1 bv' (L.length+1) ((L.map fun p=>.int .i64 p.1)++[.int .i64 (m:Int)])) :
  bN (w2.setCell ⟨g,61,none⟩ bv') B g dv (L++[((m:Int),t)])∧Fr B w (w2.setCell ⟨g,61,none⟩ bv'):=by
 have hap:=h.apart ho
 have b1:mF (w.setCell ⟨g,1+m,none⟩ (.slice (some a) t.length cap)) g:=mF.set h.blk _ _
 have o1:=wX ho (p:=⟨g,1+m,none⟩) hap (.slice (some a) t.length cap)
 have f1:Fr B w (w.setCell ⟨g,1+m,none⟩ (.slice (some a) t.length cap)):=Fr.setB h.low h.blk _ _
 have b2:mF w2 g:=(b1.grown (World.grownBy_alloc _ o none) (by simp)).grown hg hap
 have f2:Fr B w w2:=(f1.alloc o).trans (Fr.grownInts (o1.alloc o) hg)
 have f3:Fr B w (w2.setCell ⟨g,61,none⟩ bv'):=f2.trans (Fr.setB h.low b2 _ _)
 have old:∀j v,j≠1+m→j≠61→w.cell? ⟨g,j,none⟩=some v→(w2.setCell ⟨g,61,none⟩ bv').cell? ⟨g,j,none⟩=some v:=by
  intro j v h1 h2 hv
  rw [World.cell?_setCell_other w2 _ _ _ (by first | (simp;done) | (simp;omega))]
  refine hg.cell (Below.at' ((Below.refl _ _).alloc (Nat.le_refl _) o) (Nat.le_refl _) ?_) hap
  rw [World.cell?_setCell_other w _ _ _ (by first | (simp;done) | (simp;omega))]
  exact hv
 have new:(w2.setCell ⟨g,61,none⟩ bv').cell? ⟨g,1+m,none⟩=some (.slice (some a) t.length cap):=by
  rw [World.cell?_setCell_other w2 _ _ _ (by first | (simp;done) | (simp;omega))]
  obtain ⟨v,hv,_⟩:=h.term m hm
  exact hg.cell (Below.at' ((Below.refl _ _).alloc (Nat.le_refl _) o) (Nat.le_refl _) (World.cell?_setCell_same w _ _ hv)) hap
 have c61:∃u,w2.cell? ⟨g,61,none⟩=some u:=by
  obtain ⟨bv0,hb0,_⟩:=h.bound
  refine ⟨bv0,hg.cell (Below.at' ((Below.refl _ _).alloc (Nat.le_refl _) o) (Nat.le_refl _) ?_) hap⟩
  rw [World.cell?_setCell_other w _ _ _ (by first | (simp;done) | (simp;omega))]
  exact hb0
 obtain ⟨u,hu⟩:=c61
 have hap2:some g≠bv'.ownBlock:=by
  intro e
  obtain ⟨_,⟨rfl,_⟩ | ⟨k,cap,cur,rfl,hb,hh,_⟩⟩:=ho2
  ·simp [Value.ownBlock] at e
  ·simp [Value.ownBlock] at e
   subst e
   obtain ⟨cs,hc⟩:=b2
   rw [hh] at hc
   simp at hc
 refine ⟨⟨h.low,b2.set _ _,old 0 dv (by omega) (by omega) h.among,fun x hx=>?_,⟨bv',World.cell?_setCell_same w2 _ _ hu,?_⟩,h.ok.snoc hl (by omega) (by omega) ht h60⟩,f3⟩
 ·rw [aOn hl]
  by_cases hxm:x=m
  ·subst hxm
   rw [if_pos rfl]
   exact ⟨_,new,a,cap,rfl,hN.fr f3⟩
  ·rw [if_neg hxm]
   obtain ⟨v,hv,hT⟩:=h.term x hx
   exact ⟨v,old _ v (by omega) (by omega) hv,hT.fr f3⟩
 ·have:=wX ho2 (p:=⟨g,61,none⟩) hap2 bv'
  simpa using this
theorem bN.less {w w':World} {B g:Nat} {dv:Value} {L M:aW} (h:bN w B g dv (L++M)) (hblk:mF w' g) (hf:Fr B w w')
  (h0:w'.cell? ⟨g,0,none⟩=some dv) (hx:∀x:Nat,x < 60→w'.cell? ⟨g,1+x,none⟩=if (x:Int)∈M.map Prod.fst then some (.slice none 0 0) else w.cell? ⟨g,1+x,none⟩) (h1:(w'.cell? ⟨g,61,none⟩).isSome=true) {bv':Value}
  (ho:w'.ownsRow B 3 1 bv' L.length (L.map fun p=>.int .i64 p.1)):bN (w'.setCell ⟨g,61,none⟩ bv') B g dv L∧Fr B w (w'.setCell ⟨g,61,none⟩ bv'):=by
 have f3:Fr B w (w'.setCell ⟨g,61,none⟩ bv'):=hf.trans (Fr.setB h.low hblk _ _)
 obtain ⟨u,hu⟩:=Option.isSome_iff_exists.1 h1
 have hap2:some g≠bv'.ownBlock:=by
  intro e
  obtain ⟨_,⟨rfl,_⟩ | ⟨k,cap,cur,rfl,hb,hh,_⟩⟩:=ho
  ·simp [Value.ownBlock] at e
  ·simp [Value.ownBlock] at e
   subst e
   obtain ⟨cs,hc⟩:=hblk
   rw [hh] at hc
   simp at hc
 refine ⟨⟨h.low,hblk.set _ _,by rw [World.cell?_setCell_other w' _ _ _ (by simp)];exact h0,fun x hx60=>?_,⟨bv',World.cell?_setCell_same w' _ _ hu,wX ho (p:=⟨g,61,none⟩) hap2 bv'⟩,h.ok.left⟩,f3⟩
 rw [World.cell?_setCell_other w' _ _ _ (by first | (simp;done) | (simp;omega)),hx x hx60]
 obtain ⟨v,hv,hT⟩:=h.term x hx60
 by_cases hm:(x:Int)∈M.map Prod.fst
 ·rw [if_pos hm]
  refine ⟨_,rfl,?_⟩
  have:look L (x:Int)=none:=by
   cases hl:look L (x:Int) with
   | none=>rfl
   | some t=>
    exfalso
    have hnd:=h.ok.once
    rw [List.map_append,List.nodup_append] at hnd
    exact hnd.2.2 _ (List.mem_map.2 ⟨_,wT hl,rfl⟩) _ hm rfl
  rw [this]
  rfl
 ·rw [if_neg hm]
  refine ⟨v,hv,?_⟩
  have e:look (L++M) (x:Int)=look L (x:Int):=by
   rw [uC]
   have:look M (x:Int)=none:=by
    cases hl:look M (x:Int) with
    | none=>rfl
    | some t=>exact absurd (List.mem_map.2 ⟨_,wT hl,rfl⟩) hm
   rw [this]
   simp
  rw [←e]
  exact hT.fr f3
end Go.Proofs.YthicbnejchpmgaaGreatDoor
namespace Go.Proofs.YthicbnejchpmgaaGreatDoor
open Go.RowKit
set_option maxRecDepth 100000
theorem aOo {s:ByteArray} {x:Int} (h:dH (s,x)=true) (hv:¬s.toList.isEmpty=true):0≤x∧x≤5∧aZ (s,x)=x.toNat:=by
 have h1:gR s=true∧0≤x∧x≤5:=by simpa [dH,aG,hv] using h
 exact ⟨h1.2.1,h1.2.2,by unfold aZ aG;rw [if_neg hv]⟩
theorem aOp (l:List Nd) (j:Nat) (u:Value) (h:(aQ l)[j]?=some u):∃k,∃hk:k < l.length,(j=k * 2∧u=.string l[k].1)∨(j=k * 2+1∧u=.int .i64 l[k].2):=by
 have hj:j < (aQ l).length:=(List.getElem?_eq_some_iff.1 h).1
 rw [yM] at hj
 have hk:j / 2 < l.length:=by omega
 obtain ⟨h1,h2⟩:=sH l (j / 2) hk
 refine ⟨j / 2,hk,?_⟩
 rcases Nat.mod_two_eq_zero_or_one j with h0 | h0
 ·left
  have e:j=j / 2 * 2:=by omega
  rw [e] at h
  rw [h1] at h
  exact ⟨e,by simpa using h.symm⟩
 ·right
  have e:j=j / 2 * 2+1:=by omega
  rw [e] at h
  rw [h2] at h
  exact ⟨e,by simpa using h.symm⟩
theorem aOq {w:World} {ad:Addr} {l:List Nd} (h:bQ w (some ad) l):∀j u,(aQ l)[j]?=some u→w.cell? (ad.add j)=some u:=by
 intro j u hu
 obtain ⟨k,hk,hc⟩:=aOp l j u hu
 obtain ⟨b,o,ha,e,f⟩:=h.cell k hk
 obtain rfl:ad=⟨b,o,none⟩:=by simpa using ha
 have hadd:∀q,(⟨b,o,none⟩ : Addr).add q=⟨b,o+q,none⟩:=fun q=>by unfold Addr.add;split <;> simp_all
 rw [hadd]
 rcases hc with ⟨rfl,rfl⟩ | ⟨rfl,rfl⟩
 ·exact e
 ·rw [←Nat.add_assoc];exact f
theorem aOr {w:World} {ty:TypeId} {aa:Option Addr} {c:Nat} {l:List Nd} (hn:bQ w aa l) (hz:aa=none→c=0) :
  ∃v w',(Builtin.append_ #[22,22] ty #[.slice none 0 0,.slice aa l.length c]).run Tryz.prog w=.ok v w'∧w'.ownsRow w.heap.size 28 2 v l.length (aQ l)∧w.grownBy w' none:=by
 obtain ⟨iN,hN,hN0,hN1,hN2⟩:=info_parts nY
 have h0:=World.ownsRow_nil w w.heap.size 28 2
 have hfew:=hn.few
 cases aa with
 | none=>
  have hl:l=[]:=by
   cases l with
   | nil=>rfl
   | cons x r=>obtain ⟨b,o,ha,_⟩:=hn.cell 0 (by simp);simp at ha
  subst hl
  rw [hz rfl]
  exact ⟨_,w,run_append_owned_none w w.heap.size 22 ty 28 iN 2 Tryz.underlying22 hN _ 0 [] h0,h0,⟨rfl,rfl,rfl,Nat.le_refl _,fun _ _ _=>rfl⟩⟩
 | some ad=>
  obtain ⟨v,w',hr,ho,hg,_⟩:=run_append_own_at (P:=Tryz.prog) w w.heap.size 22 ty 28 iN (.agg #[.string ⟨#[]⟩,.int .i64 0]) 2 24 Tryz.underlying22 hN hN0 hN1 hN2 rfl (by decide) _ 0 [] h0 ad l.length c (aQ l) (yM l) (aOq hn) (aOi l) (by unfold maxLen;omega) (by omega) (Nat.le_refl _)
  refine ⟨v,w',hr,?_,hg⟩
  simpa using ho
end Go.Proofs.YthicbnejchpmgaaGreatDoor
