import Derived.Test.YtcldkjcpofjmhaaGreatDoorUAppM
import Derived.Test.YtcldkjcpofjmhaaGreatDoorUSame2M
open List renaming getElem?_eq_some_iff→zz,getElem?_eq_getElem→zy,getElem?_append_left→zw,getElem?_append_right→zv,append_assoc→zu,getElem?_map→zt,map_congr_left→zs,drop_eq_getElem_cons→zr,getElem?_eq_none→zq,map_map→zp,map_append→zm,length_map→zl,length_append→zk,drop_succ_cons→zj,findIdx_append→zi,map_id→zg
open Nat renaming add_comm→zn,le_refl→zh
open Option renaming map_eq_some_iff→zo
open Prod renaming snd→zx,fst→zf
namespace Go.Proofs.YtcldkjcpofjmhaaGreatDoor
set_option maxRecDepth 100000
section
def tO(x:Nat)(g:Nat->Nat):Nat->Nat
 | 0=>x
 | i+1=>g i
def qT(e:Nat)(g1 g2:Nat->Nat)(i:Nat):Nat:=if i<e then g1 i else g2 (i-e)
theorem kD{e:Nat}{g1 g2:Nat->Nat}{i:Nat}(h:i<e):qT e g1 g2 i=g1 i:=if_pos h
theorem zV{e:Nat}{g1 g2:Nat->Nat}(i:Nat):qT e g1 g2 (i+e)=g2 i:=by unfold qT;rw [if_neg (by omega)];congr 1;omega
theorem aCz{e:Nat}{g1 g2:Nat->Nat}{l:List Nat}(h:∀x∈l,x<e):l.map (qT e g1 g2)=l.map g1:=zs λx hx=>kD (h x hx)
theorem aD0{e:Nat}{g1 g2:Nat->Nat}(l:List Nat):(l.map (· + e)).map (qT e g1 g2)=l.map g2:=by rw [zp];exact zs λx _=>zV x
theorem jC.append{up:Int}{R:List Rw}{k:Nat}{s:List Nd}{R1:List Rw}{ps:List Nat}{s1:List Nd}{g1:Nat->Nat}(h:jC up R k s R1 ps s1 g1){j:Nat}{R2:List Rw}{qs:List Nat}{s2:List Nd}{g2:Nat->Nat}(h':jC up R1 j s1 R2 qs s2 g2) :
  jC up R (k+j) s R2 (ps++qs) s2 (qT (aI s k) g1 g2):=by
 have he:=tA s k j;have hs1:=h.rest;subst hs1;have hext:∀i,i<aI s k->R2[g1 i]?=R1[g1 i]?:=λi hi=>h'.ext _ (h.lt hi)
 have hget:∀i n,¬i<aI s k->s[i]?=some n->(s.drop (aI s k))[i-aI s k]?=some n:=by intro i n hi hn;rw [List.getElem?_drop,show aI s k+(i-aI s k)=i by omega];exact hn
 have hj:∀i,¬i<aI s k->qT (aI s k) g1 g2 i=g2 (i-aI s k):=λi hi=>if_neg hi
 refine ⟨(uM s k j).2 ⟨h.full,h'.full⟩,by rw [h'.rest,List.drop_drop,he],?_,Nat.le_trans h.more h'.more,λi hi=>by rw [h'.ext i (Nat.lt_of_lt_of_le hi h.more),h.ext i hi],?_,?_,?_,?_,?_,λho=>h'.once (h.once ho)⟩
 ·rw [aG9,zm,aCz (λx hx=>by have:=(qA k s 0 h.full x hx).2;omega),<-h.ps,yW,aD0,<-h'.ps]
 ·intro i n hi hn hv;by_cases hlt:i<aI s k
  ·rw [kD hlt,hext i hlt];exact h.var i n hlt hn hv
  ·rw [hj i hlt];exact h'.var _ n (by omega) (hget i n hlt hn) hv
 ·intro i n hi hn hv;by_cases hlt:i<aI s k
  ·rw [kD hlt,hext i hlt];obtain ⟨n',h1,h2,h3⟩:=aBs s k i h.full hlt;rw [hn] at h1;simp at h1;subst h1;rw [aCz (λx hx=>by have:=(qA _ _ _ h2 x hx).2;omega)];exact h.name i n hlt hn hv
  ·rw [hj i hlt];obtain ⟨h1,h2⟩:=h'.name _ n (by omega) (hget i n hlt hn) hv;refine ⟨?_,Nat.le_trans h.more h2⟩;rw [h1,List.drop_drop,show aI s k+(i-aI s k+1)=i+1 by omega,show i+1=(i-aI s k+1)+aI s k by omega,yW _ _ (i-aI s k+1),aD0]
 ·intro i j' n m hi hj' hn hm hvn hvm e;by_cases h1:i<aI s k <;> by_cases h2:j'<aI s k
  ·rw [kD h1,kD h2] at e;exact h.inj i j' n m h1 h2 hn hm hvn hvm e
  ·rw [kD h1,hj j' h2] at e;have a:=h.lt h1;have b:=(h'.name _ m (by omega) (hget j' m h2 hm) hvm).2;omega
  ·rw [kD h2,hj i h1] at e;have a:=h.lt h2;have b:=(h'.name _ n (by omega) (hget i n h1 hn) hvn).2;omega
  ·rw [hj i h1,hj j' h2] at e;have:=h'.inj _ _ n m (by omega) (by omega) (hget i n h1 hn) (hget j' m h2 hm) hvn hvm e;omega
 ·intro r h1 h2;by_cases hr:r<R1.length
  ·obtain ⟨i,hi,e⟩:=h.onto r h1 hr;exact ⟨i,by omega,by rw [kD hi];exact e⟩
  ·obtain ⟨i,hi,e⟩:=h'.onto r (by omega) h2;exact ⟨i+aI s k,by omega,by rw [zV];exact e⟩
 ·intro r x h1 h2;by_cases hr:r<R1.length
  ·rw [h'.ext r hr] at h2;exact h.fresh r x h1 h2
  ·exact h'.fresh r x (by omega) h2
theorem jC.old{up:Int}{R:List Rw}{n:Nd}{i:Nat}{s:List Nd}(hv:aF n=true)(hi:∃r,R[i]?=some r/\r.node=lQ up n):jC up R 1 (n :: s) R [i] s (λ_=>i):=by
 have he:aI (n :: s) 1=1:=by simp [aI,oZ hv]
 refine ⟨by simp [eU,oZ hv],by rw [he];rfl,rfl,zh _,λ_ _=>rfl,?_,?_,?_,λr h1 h2=>by omega,λr x h1 h2=>?_,id⟩
 ·intro j m hj hm hvm;rw [he] at hj;have:j=0:=by omega
  subst this;simp at hm;subst hm;exact hi
 ·intro j m hj hm hvm;rw [he] at hj;have:j=0:=by omega
  subst this;simp at hm;subst hm;rw [hv] at hvm;cases hvm
 ·intro j j' _ _ hj hj' _ _ _ _ _;omega
 ·rw [zq h1] at h2;cases h2
theorem jC.new{up:Int}{R:List Rw}{n:Nd}{s:List Nd}(hv:aF n=true)(hno:∀r∈R,r.node≠lQ up n):jC up R 1 (n :: s) (R++[⟨lQ up n,R.length,[]⟩]) [R.length] s (λ_=>R.length):=by
 have he:aI (n :: s) 1=1:=by simp [aI,oZ hv]
 refine ⟨by simp [eU,oZ hv],by rw [he];rfl,rfl,by simp,λi hi=>by rw [zw hi],?_,?_,?_,?_,?_,λh=>h.new hno⟩
 ·intro j m hj hm hvm;rw [he] at hj;have:j=0:=by omega
  subst this;simp at hm;subst hm;exact ⟨⟨lQ up n,R.length,[]⟩,by simp,rfl⟩
 ·intro j m hj hm hvm;rw [he] at hj;have:j=0:=by omega
  subst this;simp at hm;subst hm;rw [hv] at hvm;cases hvm
 ·intro j j' _ _ hj hj' _ _ _ _ _;omega
 ·intro r h1 h2;exact ⟨0,by omega,by simp at h2;omega⟩
 ·intro r x h1 h2;have hl:=(zz.1 h2).1;simp at hl;have:r=R.length:=by omega
  subst this;simp at h2;subst h2;exact ⟨rfl,λ_=>rfl⟩
theorem jC.name1{up:Int}{R:List Rw}{n:Nd}{s:List Nd}{R1:List Rw}{qs:List Nat}{s1:List Nd}{g1:Nat->Nat}(hv:aF n=false)(h:jC up (R++[⟨n,R.length,[]⟩]) (bK n) s R1 qs s1 g1) :
  jC up R 1 (n :: s) (rS R1 R.length qs) [R.length] s1 (tO R.length g1):=by
 have he:aI (n :: s) 1=1+aI s (bK n):=by simp [aI]
 have hm:=h.more;simp at hm;have hget:R1[R.length]?=some ⟨n,R.length,[]⟩:=by rw [h.ext _ (by simp)];simp
 have hsh:∀(t:List Nd) (q b:Nat),(fI t q (b+1)).map (tO R.length g1)=(fI t q b).map g1:=by intro t q b;rw [yW,zp];rfl
 refine ⟨by simp only [eU];rw [Nat.zero_add];exact h.full,by rw [he,h.rest,zn,zj],rfl,by rw [aGb];omega,λi hi=>?_,?_,?_,?_,?_,?_,λho=>(h.once (ho.name hv)).parts _ _⟩
 ·rw [tB,if_neg (by omega),h.ext i (by simp;omega),zw hi]
 ·intro j m hj hmj hvm;cases j with
  | zero=>simp at hmj;subst hmj;rw [hv] at hvm;cases hvm
  | succ j=>
   obtain ⟨r,h1,h2⟩:=h.var j m (by omega) (by simpa using hmj) hvm;simp only [tO];rw [tB];split
   ·rw [h1];exact ⟨_,rfl,h2⟩
   ·exact ⟨r,h1,h2⟩
 ·intro j m hj hmj hvm;cases j with
  | zero=>
   simp at hmj;subst hmj;simp only [tO];rw [tB,if_pos rfl,hget,hsh,h.ps];exact ⟨rfl,zh _⟩
  | succ j=>
   obtain ⟨h1,h2⟩:=h.name j m (by omega) (by simpa using hmj) hvm;simp at h2;simp only [tO];rw [tB,if_neg (by omega),h1,hsh];exact ⟨rfl,by omega⟩
 ·intro i j a b hi hj ha hb hva hvb e;cases i with
  | zero=>
   cases j with
   | zero=>rfl
   | succ j=>
    have:=(h.name j b (by omega) (by simpa using hb) hvb).2;simp [tO] at e this;omega
  | succ i=>
   cases j with
   | zero=>
    have:=(h.name i a (by omega) (by simpa using ha) hva).2;simp [tO] at e this;omega
   | succ j=>
    have:=h.inj i j a b (by omega) (by omega) (by simpa using ha) (by simpa using hb) hva hvb e;omega
 ·intro r h1 h2;rw [aGb] at h2;by_cases hr:r=R.length
  ·exact ⟨0,by omega,hr.symm⟩
  ·obtain ⟨i,hi,e⟩:=h.onto r (by simp;omega) h2;exact ⟨i+1,by omega,e⟩
 ·intro r x h1 h2;rw [tB] at h2;by_cases hr:r=R.length
  ·subst hr;rw [if_pos rfl,hget] at h2;simp at h2;subst h2;exact ⟨rfl,λe=>by simp only at e;rw [hv] at e;cases e⟩
  ·rw [if_neg hr] at h2;exact h.fresh r x (by simp;omega) h2
theorem eG.inv{up:Int}{R:List Rw}{k:Nat}{s:List Nd}{R':List Rw}{ps:List Nat}{s':List Nd}(h:eG up R k s R' ps s'):∃g,jC up R k s R' ps s' g:=by
 induction h with
 | nil R s=>
  refine ⟨λ_=>0,⟨aPx _,by simp,rfl,zh _,λ_ _=>rfl,?_,?_,?_,λr h1 h2=>by omega,λr x h1 h2=>?_,id⟩⟩
  ·intro i n hi;simp at hi
  ·intro i n hi;simp at hi
  ·intro i j n m hi;simp at hi
  ·rw [zq h1] at h2;cases h2
 | @old R n i k s R' ps s' a b _ ih=>
  obtain ⟨g,hg⟩:=ih;rw [zn];exact ⟨_,(jC.old a b).append hg⟩
 | @new R n k s R' ps s' a b _ ih=>
  obtain ⟨g,hg⟩:=ih;rw [zn];exact ⟨_,(jC.new a b).append hg⟩
 | @name R n k s R1 qs s1 R' ps s' a _ _ ih1 ih2=>
  obtain ⟨g1,hg1⟩:=ih1;obtain ⟨g2,hg2⟩:=ih2;rw [zn];exact ⟨_,(jC.name1 a hg1).append hg2⟩
end
section
open Go.RowKit Go.Shelf Go.WideMaps
def aY(M:List Tg)(p:Nat):Nat:=match M[p]? with | some t=>if aF t.2 then M.findIdx (eY t.1 t.2.2) else p | none=>p
theorem pG{M:List Tg}{p:Nat}(h:M.length<=p):aY M p=p:=by unfold aY;rw [zq h]
theorem nP{M:List Tg}{p:Nat}{t:Tg}(h:M[p]?=some t)(hv:aF t.2=false):aY M p=p:=by unfold aY;rw [h];simp [hv]
theorem nQ{M:List Tg}{p:Nat}{t:Tg}(h:M[p]?=some t)(hv:aF t.2=true):aY M p=M.findIdx (eY t.1 t.2.2)/\aY M p<=p/\∃s,M[aY M p]?=some s/\aF s.2=true/\s.1=t.1/\s.2.2=t.2.2:=by
 have hl:=(zz.1 h).1;have he:M[p]=t:=(zz.1 h).2;have hp:eY t.1 t.2.2 t=true:=by simp [eY,hv]
 have e:aY M p=M.findIdx (eY t.1 t.2.2):=by unfold aY;rw [h];simp [hv]
 have hle:M.findIdx (eY t.1 t.2.2)<=p:=by apply Nat.le_of_not_lt;intro hlt;have:=List.not_of_lt_findIdx hlt;rw [he,hp] at this;cases this
 have hlt:M.findIdx (eY t.1 t.2.2)<M.length:=by omega
 refine ⟨e,by omega,M[M.findIdx (eY t.1 t.2.2)],by rw [e];exact zy hlt,?_⟩;have:=List.findIdx_getElem (w:=hlt);simpa [eY] using this
def aUr(M:List Tg)(p q:Nat):Prop:=p=q\/∃s t,M[p]?=some s/\M[q]?=some t/\aF s.2=true/\aF t.2=true/\s.1=t.1/\s.2.2=t.2.2
theorem aD1(M:List Tg)(p q:Nat):aY M p=aY M q↔aUr M p q:=by
 constructor
 ·intro e;by_cases hp:∃s,M[p]?=some s/\aF s.2=true
  ·obtain ⟨s,hs,vs⟩:=hp;obtain ⟨e1,e2,s',e3,e4,e5,e6⟩:=nQ hs vs;by_cases hq:∃t,M[q]?=some t/\aF t.2=true
   ·obtain ⟨t,ht,vt⟩:=hq;obtain ⟨d1,d2,t',d3,d4,d5,d6⟩:=nQ ht vt;rw [e,d3] at e3;simp at e3;subst e3;exact Or.inr ⟨s,t,hs,ht,vs,vt,by rw [<-e5,d5],by rw [<-e6,d6]⟩
   ·exfalso;have hrq:aY M q=q:=by
     cases hm:M[q]? with
     | none=>exact pG (by simpa using hm)
     | some t=>
      refine nP hm ?_;cases hv:aF t.2
      ·rfl
      ·exact absurd ⟨t,hm,hv⟩ hq
    rw [e,hrq] at e3;exact hq ⟨s',e3,e4⟩
  ·have hrp:aY M p=p:=by
    cases hm:M[p]? with
    | none=>exact pG (by simpa using hm)
    | some t=>
     refine nP hm ?_;cases hv:aF t.2
     ·rfl
     ·exact absurd ⟨t,hm,hv⟩ hp
   by_cases hq:∃t,M[q]?=some t/\aF t.2=true
   ·obtain ⟨t,ht,vt⟩:=hq;obtain ⟨d1,d2,t',d3,d4,d5,d6⟩:=nQ ht vt;rw [<-e,hrp] at d3;exact absurd ⟨t',d3,d4⟩ hp
   ·have hrq:aY M q=q:=by
     cases hm:M[q]? with
     | none=>exact pG (by simpa using hm)
     | some t=>
      refine nP hm ?_;cases hv:aF t.2
      ·rfl
      ·exact absurd ⟨t,hm,hv⟩ hq
    rw [hrp,hrq] at e;exact Or.inl e
 ·rintro (rfl | ⟨s,t,h1,h2,h3,h4,h5,h6⟩)
  ·rfl
  ·rw [(nQ h1 h3).1,(nQ h2 h4).1,h5,h6]
def qU(M:List Tg):List Nat:=(List.range M.length).map λp=>aY M p
theorem lF(M:List Tg):(qU M).length=M.length:=by simp [qU]
theorem tP{M:List Tg}{p:Nat}(h:p<M.length):(qU M)[p]?=some (aY M p):=by simp [qU,h]
theorem zW{M N:List Tg}{p:Nat}(h:p<M.length):aY (M++N) p=aY M p:=by
 have hm:M[p]?=some M[p]:=zy h;have hmn:(M++N)[p]?=some M[p]:=by rw [zw h,hm]
 cases hv:aF M[p].2
 ·rw [nP hm hv,nP hmn hv]
 ·obtain ⟨e1,e2,s,e3,e4,e5,e6⟩:=nQ hm hv;rw [(nQ hmn hv).1,e1,zi,if_pos (by omega)]
theorem aUs{M:List Tg}{p:Nat}(h:p<M.length):mD (M.take p) M[p].1 M[p].2=aY M p:=by
 have hm:M[p]?=some M[p]:=zy h;have hl:(M.take p).length=p:=by simp;omega
 unfold mD;rw [hl];cases hv:aF M[p].2
 ·rw [nP hm hv];rfl
 ·obtain ⟨e1,e2,_⟩:=nQ hm hv;rw [if_pos rfl,e1];have hsplit:M=M.take p++M.drop p:=(List.take_append_drop p M).symm;have hf:M.findIdx (eY M[p].1 M[p].2.2)=if (M.take p).findIdx (eY M[p].1 M[p].2.2)<(M.take p).length then (M.take p).findIdx (eY M[p].1 M[p].2.2) else (M.drop p).findIdx (eY M[p].1 M[p].2.2)+(M.take p).length:=by
   generalize eY M[p].1 M[p].2.2=f;conv=>lhs;rw [hsplit]
   rw [zi]
  unfold iY;rw [hf,hl];split
  ·rename_i hlt;rw [List.findIdx?_eq_some_iff_findIdx_eq.2 ⟨by rw [hl];exact hlt,rfl⟩];rfl
  ·rename_i hlt;rw [List.findIdx?_eq_none_iff_findIdx_eq.2 (by have:=List.findIdx_le_length (xs:=M.take p) (p:=eY M[p].1 M[p].2.2);omega)];rw [zr h,List.findIdx_cons];have:eY M[p].1 M[p].2.2 M[p]=true:=by simp [eY,hv]
   simp [this]
theorem aJ4(M:List Tg)(o:Int)(t:List Nd):qU (M++t.map λn=>(o,n))=qU M++gZ M o t t.length:=by
 apply List.ext_getElem?;intro p;by_cases hp:p<M.length
 ·rw [tP (by simp;omega),zw (by rw [lF];exact hp),tP hp,zW hp]
 ·rw [zv (by rw [lF];omega),lF];by_cases hq:p-M.length<t.length
  ·have hpl:p<(M++t.map λn=>(o,n)).length:=by simp;omega
   rw [tP hpl,<-aUs hpl];have he:(M++t.map λn=>(o,n))[p]=(o,t[p-M.length]):=by rw [List.getElem_append_right (by omega)];simp
   rw [he];have htk:(M++t.map λn=>(o,n)).take p=M++(t.take (p-M.length)).map λn=>(o,n):=by rw [List.take_append,List.take_of_length_le (by omega),List.map_take]
   rw [htk];simp [gZ,hq]
  ·rw [zq (by rw [lF];simp;omega),zq (by rw [aIn];omega)]
theorem aD2(M:List Tg):gD (qU M) (aY M) (λp=>if aY M p=p then 0 else 1):=by
 refine ⟨λp q h=>?_,λp h=>?_,λp q h hne=>?_,λp h=>pG (by rw [lF] at h;exact h)⟩
 ·have hp:=(zz.1 h).1;rw [lF] at hp ⊢;rw [tP hp] at h;simp at h;subst h;have hm:M[p]?=some M[p]:=zy hp;cases hv:aF M[p].2
  ·rw [nP hm hv];exact hp
  ·have:=(nQ hm hv).2.1;omega
 ·have hp:=(zz.1 h).1;rw [lF] at hp;rw [tP hp] at h;simpa using h
 ·have hp:=(zz.1 h).1;rw [lF] at hp;rw [tP hp] at h;simp at h;subst h;have hm:M[p]?=some M[p]:=zy hp;cases hv:aF M[p].2
  ·rw [nP hm hv] at hne;exact absurd rfl hne
  ·obtain ⟨e1,e2,s,e3,e4,e5,e6⟩:=nQ hm hv;have hs:aY M p=aY M (aY M p):=by
    rw [(nQ e3 e4).1,e1,e5,e6]
   refine ⟨hs,?_⟩;rw [if_pos hs.symm,if_neg (λe=>hne e)];exact Nat.zero_lt_one
theorem aUt(M:List Tg):dQ (aD (M.map zx)) (λi j=>aY M i=aY M j) λ_ _=>False:=by
 intro x y e hx hy;rcases (aD1 M x y).1 e with rfl | ⟨s,t,h1,h2,h3,h4,_⟩
 ·refine ⟨rfl,λk p q hp hq=>?_⟩;rw [hp] at hq;simp at hq;subst hq;exact dY.refl _
 ·obtain ⟨n,h5,h6⟩:=nM hx;rw [zt,h1] at h5;simp at h5;subst h5;rw [h3] at h6;cases h6
theorem aUu(M:List Tg):jN (M.map zx) (aY M):=by intro p hp;obtain ⟨n,h5,h6⟩:=nM hp;rw [zt] at h5;obtain ⟨t,h7,h8⟩:=zo.1 h5;subst h8;rw [nP h7 h6];exact hp
theorem aUv{t:List Nd}:∀{q:Nat},aW t q=true->∀n∈t,aF n=true->0<=n.2/\n.2<60:=by
 induction t with
 | nil=>intro q _ n hn;simp at hn
 | cons m r ih=>
  intro q h n hn hv;cases q with
  | zero=>simp [aW] at h
  | succ q=>
   rw [uT] at h;simp only [Bool.and_eq_true] at h;rcases List.mem_cons.1 hn with rfl | hn
   ·have h1:=h.1;unfold dU at h1;rw [if_pos hv] at h1;simpa using h1
   ·exact ih h.2 n hn hv
structure Rows(M:List Tg)(R:List Rw)(g:Nat->Nat):Prop where
 whole:dE (M.map zx)
 var:∀(p:Nat) (t:Tg),M[p]?=some t->aF t.2=true->∃r,R[g p]?=some r/\r.node=(t.2.1,t.2.2+60*t.1)
 name:∀(p:Nat) (t:Tg),M[p]?=some t->aF t.2=false->R[g p]?=some ⟨t.2,g p,((aD (M.map zx)).ch p).map g⟩
 inj:∀(p q:Nat) (s t:Tg),M[p]?=some s->M[q]?=some t->aF s.2=false->aF t.2=false->g p=g q->p=q
 onto:∀r,r<R.length->∃p,p<M.length/\g p=r
 fresh:∀(r:Nat) (x:Rw),R[r]?=some x->x.cls=r/\(aF x.node=true->x.parts=[])
 once:mV R
 num:∀(p:Nat) (t:Tg),M[p]?=some t->aF t.2=true->0<=t.2.2/\t.2.2<60
theorem Rows.start:Rows [] [] id:=⟨λi n h=>by simp at h,λp t h=>by simp at h,λp t h=>by simp at h,λp q s t h=>by simp at h,λr h=>by simp at h,λr x h=>by simp at h,λi j ri rj h=>by simp at h,λp t h=>by simp at h⟩
theorem oK{L t:List Nd}(hW:dE L){p:Nat}(h:p<L.length):(aD (L++t)).ch p=(aD L).ch p:=by
 have h1:L[p]?=some L[p]:=zy h;have h2:(L++t)[p]?=some L[p]:=by rw [zw h,h1]
 rw [gH h1,gH h2,List.drop_append_of_le_length (by omega),aQ0 _ _ _ _ (hW p _ h1)]
theorem zX{L t:List Nd}{p:Nat}(h:p<t.length):(aD (L++t)).ch (L.length+p)=((aD t).ch p).map (· + L.length):=by
 have h1:t[p]?=some t[p]:=zy h;have h2:(L++t)[L.length+p]?=some t[p]:=by rw [zv (by omega)];simp [h]
 rw [gH h1,gH h2,<-yW];congr 1
 ·rw [List.drop_append,List.drop_eq_nil_of_le (by omega),List.nil_append];congr 1;omega
 ·omega
theorem Rows.put{M:List Tg}{R:List Rw}{g:Nat->Nat}(h:Rows M R g){o:Int}{t:List Nd}(ht:aW t 1=true){R':List Rw}{ps:List Nat}{s':List Nd}{g2:Nat->Nat}(hp:jC (60*o) R 1 t R' ps s' g2) :
  Rows (M++t.map λn=>(o,n)) R' (qT M.length g g2):=by
 have he:aI t 1=t.length:=by have:=zE t 1 [] ht;simpa using this
 have hl:(M.map zx).length=M.length:=by simp
 have hLs:(M++t.map λn=>(o,n)).map zx=M.map zx++t:=by rw [zm,zp];congr 1;exact zg _
 have hlo:∀(p:Nat) (x:Tg),p<M.length->(M++t.map λn=>(o,n))[p]?=some x->M[p]?=some x:=λp x hlt hx=>by rwa [zw hlt] at hx
 have hhi:∀(p:Nat) (x:Tg),¬p<M.length->(M++t.map λn=>(o,n))[p]?=some x->∃n,t[p-M.length]?=some n/\x=(o,n)/\p-M.length<t.length:=λp x hlt hx=>by
  rw [zv (by omega),zt] at hx;obtain ⟨n,h1,h2⟩:=zo.1 hx;exact ⟨n,h1,h2.symm,(zz.1 h1).1⟩
 have hgl:∀(p:Nat) (x:Tg),M[p]?=some x->g p<R.length:=by
  intro p x hx;cases hv:aF x.2
  ·exact (zz.1 (h.name p x hx hv)).1
  ·obtain ⟨r,h1,_⟩:=h.var p x hx hv;exact (zz.1 h1).1
 have hgR:∀p,¬p<M.length->qT M.length g g2 p=g2 (p-M.length):=λp hp=>if_neg hp
 refine ⟨?_,?_,?_,?_,?_,?_,hp.once h.once,?_⟩
 ·rw [hLs];exact h.whole.append (qO ht)
 ·intro p x hx hv;by_cases hlt:p<M.length
  ·have hx':=hlo p x hlt hx;obtain ⟨r,h1,h2⟩:=h.var p x hx' hv;exact ⟨r,by rw [kD hlt,hp.ext _ (hgl p x hx'),h1],h2⟩
  ·obtain ⟨n,h1,rfl,h3⟩:=hhi p x hlt hx;rw [hgR p hlt];exact hp.var _ n (by omega) h1 hv
 ·intro p x hx hv;rw [hLs];by_cases hlt:p<M.length
  ·have hx':=hlo p x hlt hx;rw [kD hlt,hp.ext _ (hgl p x hx'),h.name p x hx' hv,oK h.whole (by omega)];congr 2
   rw [aCz];intro q hq;have hn:(M.map zx)[p]?=some x.2:=by rw [zt,hx'];rfl
   rw [gH hn] at hq;have h1:=(qA _ _ _ (h.whole p _ hn) q hq).2;have h2:=h.whole.one (p:=p) (by omega);have h3:aI ((M.map zx).drop p) 1<=((M.map zx).drop p).length:=oC _ _;rw [zr (by omega)] at h3;have h4:(M.map zx)[p]=x.2:=(zz.1 hn).2;rw [h4] at h3;simp [aI] at h3;omega
  ·obtain ⟨n,h1,rfl,h3⟩:=hhi p x hlt hx;rw [hgR p hlt,(hp.name _ n (by omega) h1 hv).1];congr 2
   have hpe:p=(M.map zx).length+(p-M.length):=by omega
   have hch:=zX (L:=M.map zx) (t:=t) (p:=p-M.length) h3;rw [<-hpe] at hch;rw [hch,hl,aD0,gH h1]
 ·intro p q x y hx hy vx vy e;by_cases h1:p<M.length <;> by_cases h2:q<M.length
  ·rw [kD h1,kD h2] at e;exact h.inj p q x y (hlo p x h1 hx) (hlo q y h2 hy) vx vy e
  ·obtain ⟨n,h3,rfl,h4⟩:=hhi q y h2 hy;rw [kD h1,hgR q h2] at e;have a:=hgl p x (hlo p x h1 hx);have b:=(hp.name _ n (by omega) h3 vy).2;omega
  ·obtain ⟨n,h3,rfl,h4⟩:=hhi p x h1 hx;rw [kD h2,hgR p h1] at e;have a:=hgl q y (hlo q y h2 hy);have b:=(hp.name _ n (by omega) h3 vx).2;omega
  ·obtain ⟨n,h3,rfl,h4⟩:=hhi p x h1 hx;obtain ⟨m,h5,rfl,h6⟩:=hhi q y h2 hy;rw [hgR p h1,hgR q h2] at e;have:=hp.inj _ _ n m (by omega) (by omega) h3 h5 vx vy e;omega
 ·intro r hr;by_cases hlt:r<R.length
  ·obtain ⟨p,h1,h2⟩:=h.onto r hlt;exact ⟨p,by simp;omega,by rw [kD h1];exact h2⟩
  ·obtain ⟨i,h1,h2⟩:=hp.onto r (by omega) hr;exact ⟨i+M.length,by simp;omega,by rw [zV];exact h2⟩
 ·intro r x hx;by_cases hlt:r<R.length
  ·rw [hp.ext r hlt] at hx;exact h.fresh r x hx
  ·exact hp.fresh r x (by omega) hx
 ·intro p x hx hv;by_cases hlt:p<M.length
  ·exact h.num p x (hlo p x hlt hx) hv
  ·obtain ⟨n,h1,rfl,h3⟩:=hhi p x hlt hx;exact aUv ht n (List.mem_of_getElem? h1) hv
def mF(M:List Tg)(R:List Rw)(g:Nat->Nat)(p:Nat):Nat:=if p<M.length then g p else R.length+(p-M.length)
section
variable {M:List Tg}{R:List Rw}{g:Nat->Nat}{T:Tb}
theorem aD3(hT:T.map zf=R){r:Nat}{x:Rw}(h:R[r]?=some x):(aV T).lab r=x.node/\(aV T).ch r=x.parts:=by subst hT;rw [zt] at h;obtain ⟨y,h1,rfl⟩:=zo.1 h;have hl:=(zz.1 h1).1;have he:=(zz.1 h1).2;exact ⟨by rw [lP T r hl,he],by rw [oW T r hl,he]⟩
theorem aUw(hT:T.map zf=R)(hf:∀(r:Nat) (x:Rw),R[r]?=some x->x.cls=r/\(aF x.node=true->x.parts=[])){i j:Nat}(h:aZ T i j):i=j:=by
 rcases h with h | ⟨hi,hj,e⟩
 ·exact h
 ·subst hT;have a:=(hf i T[i].1 (by rw [zt,zy hi];rfl)).1;have b:=(hf j T[j].1 (by rw [zt,zy hj];rfl)).1;omega
theorem Rows.at(h:Rows M R g){p:Nat}{t:Tg}(hp:M[p]?=some t):∃x,R[g p]?=some x/\aF x.node=aF t.2:=by
 cases hv:aF t.2
 ·exact ⟨_,h.name p t hp hv,hv⟩
 ·obtain ⟨r,h1,h2⟩:=h.var p t hp hv;refine ⟨r,h1,?_⟩;rw [h2];exact hv
theorem Rows.lt(h:Rows M R g){p:Nat}(hp:p<M.length):g p<R.length:=by obtain ⟨x,h1,_⟩:=h.at (zy hp);exact (zz.1 h1).1
theorem aJ5{n:Nd}(h:aF n=true):n.1=⟨#[]⟩:=by
 have h1:n.1.toList=[]:=by simpa [aF] using h
 rw [ByteArray.toList_eq] at h1;obtain ⟨⟨d⟩,x⟩:=n;simp at h1;simp [h1]
theorem Rows.laid(h:Rows M R g)(hT:T.map zf=R){a b:Nat}(ha:a<M.length)(hb:b<M.length) :
  Laid (aD (M.map zx)) (aV T) (λi j=>aY M i=aY M j\/(i=a/\j=b)) (iO T (g a) (g b)) (mF M R g):=by
 have hTl:T.length=R.length:=by rw [<-hT];simp
 have hfl:∀p,p<M.length->mF M R g p=g p:=λp hp=>if_pos hp
 have hfh:∀p,¬p<M.length->mF M R g p=R.length+(p-M.length):=λp hp=>if_neg hp
 have hgetL:∀(p:Nat) (t:Tg),M[p]?=some t->(M.map zx)[p]?=some t.2:=λp t ht=>by rw [zt,ht];rfl
 have hnm:∀p,(aD (M.map zx)).named p↔(aV T).named (mF M R g p):=by
  intro p;by_cases hp:p<M.length
  ·have hm:M[p]?=some M[p]:=zy hp;obtain ⟨x,h1,h2⟩:=h.at hm;rw [hfl p hp,gS (hgetL _ _ hm)];unfold Gr.named;rw [(aD3 hT h1).1,h2]
  ·constructor
   ·intro hn;obtain ⟨n,h1,_⟩:=nM hn;have:=(zz.1 h1).1;simp at this;omega
   ·intro hn;rw [hfh p hp] at hn;obtain ⟨h1,_⟩:=oB hn;omega
 have hpn:∀p,(aD (M.map zx)).named p->∃t,M[p]?=some t/\aF t.2=false/\p<M.length:=by intro p hn;obtain ⟨n,h1,h2⟩:=nM hn;rw [zt] at h1;obtain ⟨t,h3,rfl⟩:=zo.1 h1;exact ⟨t,h3,h2,(zz.1 h3).1⟩
 refine ⟨hnm,?_,?_,?_,?_,?_,?_⟩
 ·intro p hn;obtain ⟨t,h1,h2,h3⟩:=hpn p hn;rw [hfl p h3,oH (hgetL _ _ h1),(aD3 hT (h.name p t h1 h2)).1]
 ·intro p hn;obtain ⟨t,h1,h2,h3⟩:=hpn p hn;rw [hfl p h3,(aD3 hT (h.name p t h1 h2)).2];refine zs λq hq=>(hfl q ?_).symm
  have hn':=hgetL _ _ h1;rw [gH hn'] at hq;have h4:=(qA _ _ _ (h.whole p _ hn') q hq).2;have h5:aI ((M.map zx).drop p) 1<=((M.map zx).drop p).length:=oC _ _;rw [zr (by simp;omega)] at h5;have h6:(M.map zx)[p]'(by simp;omega)=t.2:=(zz.1 hn').2;rw [h6] at h5;simp [aI] at h5;omega
 ·intro p q e;by_cases hp:p<M.length <;> by_cases hq:q<M.length
  ·rw [hfl p hp,hfl q hq] at e;have hm:M[p]?=some M[p]:=zy hp;have hm':M[q]?=some M[q]:=zy hq;obtain ⟨x,x1,x2⟩:=h.at hm;obtain ⟨y,y1,y2⟩:=h.at hm';rw [e,y1] at x1;simp at x1;subst x1;cases hv:aF M[p].2
   ·have hv':aF M[q].2=false:=by rw [<-y2,x2,hv]
    have:=h.inj p q _ _ hm hm' hv hv' e;subst this;exact Cl.refl _
   ·have hv':aF M[q].2=true:=by rw [<-y2,x2,hv]
    obtain ⟨r1,a1,a2⟩:=h.var p _ hm hv;obtain ⟨r2,b1,b2⟩:=h.var q _ hm' hv';rw [e,b1] at a1;simp at a1;subst a1;rw [b2] at a2;simp at a2;have n1:=h.num p _ hm hv;have n2:=h.num q _ hm' hv';refine Cl.base (Or.inl ((aD1 M p q).2 (Or.inr ⟨_,_,hm,hm',hv,hv',?_,?_⟩))) <;> omega
  ·rw [hfl p hp,hfh q hq] at e;have:=h.lt hp;omega
  ·rw [hfl q hq,hfh p hp] at e;have:=h.lt hq;omega
  ·rw [hfh p hp,hfh q hq] at e;have:p=q:=by omega
   subst this;exact Cl.refl _
 ·rintro p q (e | ⟨rfl,rfl⟩)
  ·rcases (aD1 M p q).1 e with rfl | ⟨s,t,h1,h2,h3,h4,h5,h6⟩
   ·exact Cl.refl _
   ·obtain ⟨r1,a1,a2⟩:=h.var p _ h1 h3;obtain ⟨r2,b1,b2⟩:=h.var q _ h2 h4;have hpl:=(zz.1 h1).1;have hql:=(zz.1 h2).1;have hgg:g p=g q:=by
     refine h.once (g p) (g q) r1 r2 a1 b1 ?_ ?_
     ·rw [a2];exact h3
     ·rw [a2,b2,aJ5 h3,aJ5 h4,h5,h6]
    rw [hfl p hpl,hfl q hql,hgg];exact Cl.refl _
  ·rw [hfl p ha,hfl q hb];exact Cl.base (Or.inl ⟨rfl,rfl⟩)
 ·rintro r s (⟨rfl,rfl⟩ | e)
  ·exact ⟨a,b,hfl a ha,hfl b hb,Cl.base (Or.inr ⟨rfl,rfl⟩)⟩
  ·have:=aUw hT h.fresh e;subst this;by_cases hr:r<R.length
   ·obtain ⟨p,h1,h2⟩:=h.onto r hr;exact ⟨p,p,by rw [hfl p h1,h2],by rw [hfl p h1,h2],Cl.refl _⟩
   ·have hx:mF M R g (M.length+(r-R.length))=r:=by rw [hfh _ (by omega)];omega
    exact ⟨_,_,hx,hx,Cl.refl _⟩
 ·intro r hn;obtain ⟨h1,_⟩:=oB hn;obtain ⟨p,h2,h3⟩:=h.onto r (by omega);exact ⟨p,by rw [hfl p h2,h3]⟩
end
theorem aUx{L:List Nd}{E:Nat->Nat->Prop}(hE:∀i,E i i):∀(s:List Nd) (k b:Nat),s=L.drop b->eU s k->(∀x∈fI s k b,bF (aD L) E x)->∀p,b<=p->p<b+aI s k->bF (aD L) E p:=by
 intro s;induction s with
 | nil=>
  intro k b _ _ _ p h1 h2;cases k <;> simp [aI] at h2 <;> omega
 | cons n r ih=>
  intro k b hs hf hx p h1 h2;cases k with
  | zero=>simp at h2;omega
  | succ k=>
   have hb:L[b]?=some n:=by have:=congrArg (λl=>l[0]?) hs;simpa using this.symm
   have hr:r=L.drop (b+1):=by have:=congrArg List.tail hs;simpa using this
   have hlt:=(zz.1 hb).1;have hself:bF (aD L) E b:=hx b (by rw [kN];simp);by_cases hp:p=b
   ·subst hp;exact hself
   ·simp only [eU] at hf;simp only [aI] at h2;refine ih (k+bK n) (b+1) hr hf (λx hxm=>?_) p (by omega) (by omega);rw [zn k,aG9] at hxm;rcases List.mem_append.1 hxm with hxm | hxm
    ·cases hv:aF n
     ·refine hself.parts (hE b) ((gS hb).2 hv) ?_;rw [gH hb,<-hr];exact hxm
     ·rw [oZ hv] at hxm;simp [fI] at hxm
    ·refine hx x ?_;rw [kN];refine List.mem_cons_of_mem _ ?_;have he:aI (n :: r) 1=1+aI r (bK n):=by simp [aI]
     rw [he,zn 1,zj,show b+(aI r (bK n)+1)=b+1+aI r (bK n) by omega];exact hxm
theorem aJ6{L:List Nd}{E:Nat->Nat->Prop}(hE:∀i,E i i)(hW:dE L){i:Nat}(hi:i<L.length)(h:bF (aD L) E i):∀p,i<=p->p<i+aI (L.drop i) 1->bF (aD L) E p:=
 aUx hE _ 1 i rfl (hW.one hi) λx hx=>by
  simp [fI] at hx;subst hx;exact h
abbrev aM(o:Int)(t:List Nd):List Tg:=t.map λn=>(o,n)
theorem tQ(o:Int)(t:List Nd):(aM o t).map zx=t:=by unfold aM;rw [zp];exact zg _
theorem Rows.tabOk{M:List Tg}{R:List Rw}{g:Nat->Nat}{T:Tb}(h:Rows M R g)(hT:T.map zf=R)(hpos:∀(p:Nat) (t:Tg),M[p]?=some t->0<=t.2.2):gP T:=by
 have hTl:T.length=R.length:=by rw [<-hT];simp
 have hget:∀(i:Nat) (hi:i<T.length),R[i]?=some T[i].1:=λi hi=>by rw [<-hT,zt,zy hi];rfl
 have key:∀(i:Nat) (hi:i<T.length),∃p t,M[p]?=some t/\g p=i/\aF T[i].1.node=aF t.2/\(aF t.2=false->T[i].1=⟨t.2,i,((aD (M.map zx)).ch p).map g⟩):=by intro i hi;obtain ⟨p,hp,rfl⟩:=h.onto i (by omega);have hm:M[p]?=some M[p]:=zy hp;obtain ⟨z,z1,z2⟩:=h.at hm;have hg:=hget _ hi;rw [z1] at hg;simp at hg;subst hg;refine ⟨p,M[p],hm,rfl,z2,λhv=>?_⟩;have:=h.name p _ hm hv;rw [z1] at this;simpa using this
 refine ⟨λi hi q hq=>?_,λi hi=>?_,λi hi hv=>?_⟩
 ·obtain ⟨p,t,h1,h2,h3,h4⟩:=key i hi;cases hv:aF t.2
  ·rw [h4 hv] at hq;obtain ⟨c,hc,rfl⟩:=List.mem_map.1 hq;have hn:(M.map zx)[p]?=some t.2:=by rw [zt,h1];rfl
   rw [gH hn] at hc;have k1:=(qA _ _ _ (h.whole p _ hn) c hc).2;have hpl:=(zz.1 hn).1;have k2:aI ((M.map zx).drop p) 1<=((M.map zx).drop p).length:=oC _ _;rw [zr hpl] at k2;have k3:(M.map zx)[p]=t.2:=(zz.1 hn).2;rw [k3] at k2;simp [aI] at k2 hpl;rw [hTl];exact h.lt (by omega)
  ·have:=(h.fresh i _ (hget i hi)).2 (by rw [h3];exact hv);rw [this] at hq;simp at hq
 ·rw [(h.fresh i _ (hget i hi)).1];exact hi
 ·obtain ⟨p,t,h1,h2,h3,h4⟩:=key i hi;have hvt:aF t.2=false:=by rw [<-h3];exact hv
  rw [h4 hvt];have hn:(M.map zx)[p]?=some t.2:=by rw [zt,h1];rfl
  simp only [zl];rw [gH hn,uL];have:=hpos p t h1;unfold bK;rw [hvt];simp;omega
theorem aUy{t:List Nd}{q:Nat}(h:aW t q=true):∀n∈t,0<=n.2:=by
 intro n hn;have:=aIo h n hn;unfold dU at this;split at this
 ·simp at this;omega
 ·simp at this;omega
end
section
open Go.RowKit
def dZ(a y x p:Nat):Nat:=if p<a then p else if p<a+y then p+x else if p<a+y+x then p-y else p
section
variable {A X Y B:List Tg}
theorem aUz(p:Nat):(A++Y++X++B)[p]?=(A++X++Y++B)[dZ A.length Y.length X.length p]?:=by
 unfold dZ;by_cases h1:p<A.length
 ·rw [if_pos h1,zu,zu,zu,zu,zw h1,zw h1]
 ·rw [if_neg h1];by_cases h2:p<A.length+Y.length
  ·rw [if_pos h2,zu,zw (by simp;omega),zv (by omega)];rw [zw (by simp;omega),zv (by simp;omega)];congr 1
   simp;omega
  ·rw [if_neg h2];by_cases h3:p<A.length+Y.length+X.length
   ·rw [if_pos h3,zw (by simp;omega),zv (by simp;omega)];rw [zu,zw (by simp;omega),zv (by omega)];congr 1
    simp;omega
   ·rw [if_neg h3,zv (by simp;omega),zv (by simp;omega)];congr 1
    simp;omega
theorem aV0(a y x:Nat){p q:Nat}(h:dZ a y x p=dZ a y x q):p=q:=by unfold dZ at h;split at h <;> split at h <;> (try split at h) <;> (try split at h) <;> (try split at h) <;> (try split at h) <;> omega
theorem aV1(a y x q:Nat):∃p,dZ a y x p=q/\(q<a+x+y->p<a+y+x):=by
 by_cases h1:q<a
 ·exact ⟨q,by unfold dZ;rw [if_pos h1],λ_=>by omega⟩
 ·by_cases h2:q<a+x
  ·refine ⟨q+y,?_,λ_=>by omega⟩;unfold dZ;rw [if_neg (by omega),if_neg (by omega),if_pos (by omega)];omega
  ·by_cases h3:q<a+x+y
   ·refine ⟨q-x,?_,λ_=>by omega⟩;unfold dZ;rw [if_neg (by omega),if_pos (by omega)];omega
   ·exact ⟨q,by unfold dZ;rw [if_neg (by omega),if_neg (by omega),if_neg (by omega)],λh=>absurd h h3⟩
end
theorem zY{L T R:List Nd}(hT:dE T){p:Nat}(h:p<T.length):(aD (L++T++R)).ch (L.length+p)=((aD T).ch p).map (· + L.length):=by rw [zu,zX (by simp;omega),oK hT h]
section
variable {A X Y B:List Tg}{R:List Rw}{g:Nat->Nat}
theorem Rows.swap(h:Rows (A++X++Y++B) R g)(hA:dE (A.map zx))(hX:dE (X.map zx))(hY:dE (Y.map zx))(hB:dE (B.map zx)) :
  Rows (A++Y++X++B) R λp=>g (dZ A.length Y.length X.length p):=by
 have hat:=@aUz A X Y B;have hl:(A++Y++X++B).length=A.length+Y.length+X.length+B.length:=by simp;omega
 have hlt:∀q,q<A.length+X.length+Y.length+B.length->∃p,dZ A.length Y.length X.length p=q/\p<A.length+Y.length+X.length+B.length:=by
  intro q hq;obtain ⟨p,h1,h2⟩:=aV1 A.length Y.length X.length q;refine ⟨p,h1,?_⟩;by_cases h3:q<A.length+X.length+Y.length
  ·have:=h2 h3;omega
  ·unfold dZ at h1;split at h1
   ·omega
   ·split at h1
    ·omega
    ·split at h1 <;> omega
 have hch:∀(p:Nat),p<A.length+Y.length+X.length+B.length->(aD ((A++X++Y++B).map zx)).ch (dZ A.length Y.length X.length p)=((aD ((A++Y++X++B).map zx)).ch p).map (dZ A.length Y.length X.length):=by
  intro p hp;have inn:∀{T:List Nd} (hT:dE T) {q x:Nat},q<T.length->x∈(aD T).ch q->x<T.length:=by intro T hT q x hq hx;have h1:T[q]?=some T[q]:=zy hq;rw [gH h1] at hx;have h4:=(qA _ _ _ (hT q _ h1) x hx).2;have h5:aI (T.drop q) 1<=(T.drop q).length:=oC _ _;rw [zr hq] at h5;simp [aI] at h5;omega
  simp only [zm];by_cases h1:p<A.length
  ·have e:dZ A.length Y.length X.length p=p:=by unfold dZ;rw [if_pos h1]
   rw [e];have e1:∀(T:List Nd),(aD (A.map zx++T)).ch p=(aD (A.map zx)).ch p:=λT=>oK hA (by simpa using h1)
   rw [zu,zu,zu,zu,e1,e1];refine (zg _).symm.trans (zs λx hx=>?_);have:=inn hA (by simpa using h1) hx;simp at this;simp [dZ,this]
  ·by_cases h2:p<A.length+Y.length
   ·have e:dZ A.length Y.length X.length p=p+X.length:=by unfold dZ;rw [if_neg h1,if_pos h2]
    rw [e];have ep:p+X.length=(A.map zx++X.map zx).length+(p-A.length):=by simp;omega
    have ep':p=(A.map zx).length+(p-A.length):=by simp;omega
    have hq:p-A.length<(Y.map zx).length:=by simp;omega
    rw [ep,zY (R:=B.map zx) hY hq];conv=>rhs;rw [ep',zu (A.map zx++Y.map zx),zY hY hq]
    rw [zp];refine zs λx hx=>?_
    have:=inn hY hq hx;simp at this;simp only [Function.comp,dZ,zk,zl];rw [if_neg (by omega),if_pos (by omega)];omega
   ·by_cases h3:p<A.length+Y.length+X.length
    ·have e:dZ A.length Y.length X.length p=p-Y.length:=by unfold dZ;rw [if_neg h1,if_neg h2,if_pos h3]
     rw [e];have ep:p-Y.length=(A.map zx).length+(p-Y.length-A.length):=by simp;omega
     have ep':p=(A.map zx++Y.map zx).length+(p-Y.length-A.length):=by simp;omega
     have hq:p-Y.length-A.length<(X.map zx).length:=by simp;omega
     rw [ep,zu (A.map zx++X.map zx),zY hX hq];conv=>rhs;rw [ep',zY (R:=B.map zx) hX (by simpa using hq)]
     have e3:(A.map zx).length+(p-Y.length-A.length)-(A.map zx).length=p-Y.length-A.length:=by omega
     rw [zp];refine zs λx hx=>?_
     have:=inn hX hq hx;simp at this;simp only [Function.comp,dZ,zk,zl];rw [if_neg (by omega),if_neg (by omega),if_pos (by omega)];omega
    ·have e:dZ A.length Y.length X.length p=p:=by unfold dZ;rw [if_neg h1,if_neg h2,if_neg h3]
     rw [e];have ep:p=(A.map zx++X.map zx++Y.map zx).length+(p-A.length-X.length-Y.length):=by simp;omega
     have ep':p=(A.map zx++Y.map zx++X.map zx).length+(p-A.length-X.length-Y.length):=by simp;omega
     have hq:p-A.length-X.length-Y.length<(B.map zx).length:=by simp;omega
     conv=>lhs;rw [ep,zX hq]
     conv=>rhs;rw [ep',zX hq]
     rw [zp];refine zs λx hx=>?_
     simp only [Function.comp,dZ,zk,zl];rw [if_neg (by omega),if_neg (by omega),if_neg (by omega)];omega
 refine ⟨?_,?_,?_,?_,?_,h.fresh,h.once,?_⟩
 ·simp only [zm];exact ((hA.append hY).append hX).append hB
 ·intro p t hp hv;rw [hat] at hp;exact h.var _ t hp hv
 ·intro p t hp hv;have hpl:p<A.length+Y.length+X.length+B.length:=by
   have:=(zz.1 hp).1;rwa [hl] at this
  rw [hat] at hp;have:=h.name _ t hp hv;rw [hch p hpl,zp] at this;exact this
 ·intro p q s t hp hq hs ht e;rw [hat] at hp hq;exact aV0 _ _ _ (h.inj _ _ s t hp hq hs ht e)
 ·intro r hr;obtain ⟨q,hq,e⟩:=h.onto r hr;obtain ⟨p,h1,h2⟩:=hlt q (by simpa [Nat.add_assoc] using hq);exact ⟨p,by rw [hl];exact h2,by rw [h1];exact e⟩
 ·intro p t hp hv;rw [hat] at hp;exact h.num _ t hp hv
end
end
end Go.Proofs.YtcldkjcpofjmhaaGreatDoor
