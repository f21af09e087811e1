import Derived.Test.YthjhkgohninpcaaGreatDoorUAppM
import Derived.Test.YthjhkgohninpcaaGreatDoorUSame2M
open List renaming getElem?_eq_some_iff→zz,getElem?_eq_getElem→zy,getElem?_append_left→zw,getElem?_append_right→zv,append_assoc→zu,getElem?_map→zt,map_congr_left→zs,drop_eq_getElem_cons→zr,getElem?_eq_none→zq,map_map→zp,length_append→zm,length_cons→zl,map_append→zk,length_map→zj,reverse_cons→zi,mem_of_getElem?→zg,reverse_reverse→zf,drop_succ_cons→ze,findIdx_append→zd,mem_cons→zc,map_id→zb
open Nat renaming add_comm→zn,le_refl→zh
open Option renaming map_eq_some_iff→zo
open Or renaming inl→za,inr→z3
open Prod renaming snd→zx,fst→z0
namespace Go.Proofs.YthjhkgohninpcaaGreatDoor
open Go.RowKit Go.Shelf Go.WideMaps
set_option maxRecDepth 100000
variable{L s t:List Nd}{R:List Rw}{M:List Tg}{e p:Nat}{g1 g2:Nat->Nat}
def vE(b:Nat)(a:Nat->Nat):Nat->Nat
 |0=>b
 |i+1=>a i
def sO(e:Nat)(g1 g2:Nat->Nat)(a:Nat):Nat:=if a<e then g1 a else g2 (a-e)
theorem lO{a:Nat}(b:a<e):sO e g1 g2 a=g1 a:=aJ b
theorem aBm(a:Nat):sO e g1 g2 (a+e)=g2 a:=by unfold sO;rw [aI (by omega)];congr 1;omega
theorem aEx{a:List Nat}(c:∀b∈a,b<e):a.map (sO e g1 g2)=a.map g1:=zs λb d=>lO (c b d)
theorem aEy(a:List Nat):(a.map (· + e)).map (sO e g1 g2)=a.map g2:=by rw [zp];exact zs λb _=>aBm b
theorem kL.append{E:Int}{b:Nat}{u:List Rw}{G:List Nat}{I:List Nd}(c:kL E R b s u G I g1){x:Nat}{y:List Rw}{H:List Nat}{J:List Nd}{g2:Nat->Nat}(i:kL E u x I y H J g2):kL E R (b+x) s y (G++H) J (sO (aN s b) g1 g2):=by
 have P:=uY s b x;have S:=c.rest;subst S;have F:∀a,a<aN s b->y[g1 a]?=u[g1 a]?:=λa j=>i.ext _ (c.lt j)
 have n:∀a g,¬a<aN s b->s[a]?=some g->(s.drop (aN s b))[a-aN s b]?=some g:=by intro a g j l;rw [List.getElem?_drop,show aN s b+(a-aN s b)=a by omega];exact l
 have o:∀a,¬a<aN s b->sO (aN s b) g1 g2 a=g2 (a-aN s b):=λa j=>aI j
 refine ⟨(xF s b x).2 ⟨c.full,i.full⟩,by rw [i.rest,List.drop_drop,P],?_,Nat.le_trans c.more i.more,λa j=>by rw [i.ext a (Nat.lt_of_lt_of_le j c.more),c.ext a j],?_,?_,?_,?_,?_,λQ=>i.once (c.once Q)⟩
 ·rw [aK4,zk,aEx (λr D=>by have:=(qI b s 0 c.full r D).2;omega),<-c.ps,aBl,aEy,<-i.ps]
 ·intro a g j l v;by_cases k:a<aN s b
  ·rw [lO k,F a k];exact c.var a g k l v
  ·rw [o a k];exact i.var _ g (by omega) (n a g k l) v
 ·intro a g j l v;by_cases k:a<aN s b
  ·rw [lO k,F a k];obtain ⟨V,d,f,T⟩:=aEq s b a c.full k;rw [l] at d;simp at d;subst d;rw [aEx (λr D=>by have:=(qI _ _ _ f r D).2;omega)];exact c.name a g k l v
  ·rw [o a k];obtain ⟨d,f⟩:=i.name _ g (by omega) (n a g k l) v;refine ⟨?_,Nat.le_trans c.more f⟩;rw [d,List.drop_drop,show aN s b+(a-aN s b+1)=a+1 by omega,show a+1=(a-aN s b+1)+aN s b by omega,aBl _ _ (a-aN s b+1),aEy]
 ·intro a q g w j U l z C B e;by_cases d:a<aN s b<;>by_cases f:q<aN s b
  ·rw [lO d,lO f] at e;exact c.inj a q g w d f l z C B e
  ·rw [lO d,o q f] at e;have N:=c.lt d;have O:=(i.name _ w (by omega) (n q w f z) B).2;omega
  ·rw [lO f,o a d] at e;have N:=c.lt f;have O:=(i.name _ g (by omega) (n a g d l) C).2;omega
  ·rw [o a d,o q f] at e;have:=i.inj _ _ g w (by omega) (by omega) (n a g d l) (n q w f z) C B e;omega
 ·intro m d f;by_cases A:m<u.length
  ·obtain ⟨a,j,e⟩:=c.onto m d A;exact ⟨a,by omega,by rw [lO j];exact e⟩
  ·obtain ⟨a,j,e⟩:=i.onto m (by omega) f;exact ⟨a+aN s b,by omega,by rw [aBm];exact e⟩
 ·intro m r d f;by_cases A:m<u.length
  ·rw [i.ext m A] at f;exact c.fresh m r d f
  ·exact i.fresh m r (by omega) f
theorem kL.old{n:Int}{R:List Rw}{d:Nd}{l:Nat}{s:List Nd}(j:aM d=true)(o:∃f,R[l]?=some f/\f.node=mR n d):kL n R 1 (d::s) R [l] s (λ_=>l):=by
 have i:aN (d::s) 1=1:=by simp [aN,mO j]
 refine ⟨by simp [eR,mO j],by rw [i];rfl,rfl,zh _,λ_ _=>rfl,?_,?_,?_,λf m g=>by omega,λf v m g=>?_,id⟩
 ·intro c q b a k;rw [i] at b;have:c=0:=by omega
  subst this;simp at a;subst a;exact o
 ·intro c q b a k;rw [i] at b;have:c=0:=by omega
  subst this;simp at a;subst a;rw [j] at k;cases k
 ·intro c u _ _ b r _ _ _ _ _;omega
 ·rw [zq m] at g;cases g
theorem kL.new{i:Int}{R:List Rw}{a:Nd}{s:List Nd}(k:aM a=true)(r:∀g∈R,g.node≠mR i a):kL i R 1 (a::s) (R++[⟨mR i a,R.length,[]⟩]) [R.length] s (λ_=>R.length):=by
 have j:aN (a::s) 1=1:=by simp [aN,mO k]
 refine ⟨by simp [eR,mO k],by rw [j];rfl,rfl,by simp,λw o=>by rw [zw o],?_,?_,?_,?_,?_,λm=>m.new r⟩
 ·intro f u d c l;rw [j] at d;have:f=0:=by omega
  subst this;simp at c;subst c;exact ⟨⟨mR i a,R.length,[]⟩,by simp,rfl⟩
 ·intro f u d c l;rw [j] at d;have:f=0:=by omega
  subst this;simp at c;subst c;rw [k] at l;cases l
 ·intro f x _ _ d v _ _ _ _ _;omega
 ·intro g n b;exact ⟨0,by omega,by simp at b;omega⟩
 ·intro g y n b;have q:=(zz.1 b).1;simp at q;have:g=R.length:=by omega
  subst this;simp at b;subst b;exact ⟨rfl,λ_=>rfl⟩
theorem kL.name1{F:Int}{g:Nd}{n:List Rw}{D:List Nat}{E:List Nd}(q:aM g=false)(a:kL F (R++[⟨g,R.length,[]⟩]) (bP g) s n D E g1):kL F R 1 (g::s) (setParts n R.length D) [R.length] E (vE R.length g1):=by
 have G:aN (g::s) 1=1+aN s (bP g):=by simp [aN]
 have H:=a.more;simp at H;have y:n[R.length]?=some ⟨g,R.length,[]⟩:=by rw [a.ext _ (by simp)];simp
 have A:∀(t:List Nd) (u j:Nat),(gD t u (j+1)).map (vE R.length g1)=(gD t u j).map g1:=by intro t u j;rw [aBl,zp];rfl
 refine ⟨by simp only [eR];rw [Nat.zero_add];exact a.full,by rw [G,a.rest,zn,ze],rfl,by rw [aK6];omega,λd o=>?_,?_,?_,?_,?_,?_,λI=>(a.once (I.name q)).parts _ _⟩
 ·rw [uZ,aI (by omega),a.ext d (by simp;omega),zw o]
 ·intro c r z f l;cases c with
  |zero=>simp at f;subst f;rw [q] at l;cases l
  |succ c=>
   obtain ⟨i,k,b⟩:=a.var c r (by omega) (by simpa using f) l;simp only [vE];rw [uZ];split
   ·rw [k];exact ⟨_,rfl,b⟩
   ·exact ⟨i,k,b⟩
 ·intro c r z f l;cases c with
  |zero=>
   simp at f;subst f;simp only [vE];rw [uZ,aJ rfl,y,A,a.ps];exact ⟨rfl,zh _⟩
  |succ c=>
   obtain ⟨k,b⟩:=a.name c r (by omega) (by simpa using f) l;simp at b;simp only [vE];rw [uZ,aI (by omega),k,A];exact ⟨rfl,by omega⟩
 ·intro d c v j o z w x B C e;cases d with
  |zero=>
   cases c with
   |zero=>rfl
   |succ c=>
    have:=(a.name c j (by omega) (by simpa using x) C).2;simp [vE] at e this;omega
  |succ d=>
   cases c with
   |zero=>
    have:=(a.name d v (by omega) (by simpa using w) B).2;simp [vE] at e this;omega
   |succ c=>
    have:=a.inj d c v j (by omega) (by omega) (by simpa using w) (by simpa using x) B C e;omega
 ·intro i k b;rw [aK6] at b;by_cases m:i=R.length
  ·exact ⟨0,by omega,m.symm⟩
  ·obtain ⟨d,o,e⟩:=a.onto i (by simp;omega) b;exact ⟨d+1,by omega,e⟩
 ·intro i J k b;rw [uZ] at b;by_cases m:i=R.length
  ·subst m;rw [aJ rfl,y] at b;simp at b;subst b;exact ⟨rfl,λe=>by simp only at e;rw [q] at e;cases e⟩
  ·rw [aI m] at b;exact a.fresh i J (by simp;omega) b
theorem fK.inv{q:Int}{f:Nat}{c:List Rw}{i:List Nat}{j:List Nd}(r:fK q R f s c i j):∃k,kL q R f s c i j k:=by
 induction r with
 |nil R s=>
  refine ⟨λ_=>0,⟨aWy _,by simp,rfl,zh _,λ_ _=>rfl,?_,?_,?_,λw o l=>by omega,λw z o l=>?_,id⟩⟩
  ·intro n g d;simp at d
  ·intro n g d;simp at d
  ·intro n x g y d;simp at d
  ·rw [zq o] at l;cases l
 |@old R g n f s c i j a b _ ih=>
  obtain ⟨k,m⟩:=ih;rw [zn];exact ⟨_,(kL.old a b).append m⟩
 |@new R g f s c i j a b _ ih=>
  obtain ⟨k,m⟩:=ih;rw [zn];exact ⟨_,(kL.new a b).append m⟩
 |@name R g f s R1 qs s1 c i j a _ _ ih1 ih2=>
  obtain ⟨g1,u⟩:=ih1;obtain ⟨g2,v⟩:=ih2;rw [zn];exact ⟨_,(kL.name1 a u).append v⟩
def bH(M:List Tg)(p:Nat):Nat:=match M[p]? with|some t=>if aM t.2 then M.findIdx (fY t.1 t.2.2) else p|none=>p
theorem rD(a:M.length<=p):bH M p=p:=by unfold bH;rw [zq a]
theorem pG{t:Tg}(a:M[p]?=some t)(b:aM t.2=false):bH M p=p:=by unfold bH;rw [a];simp [b]
theorem pH{t:Tg}(b:M[p]?=some t)(c:aM t.2=true):bH M p=M.findIdx (fY t.1 t.2.2)/\bH M p<=p/\∃s,M[bH M p]?=some s/\aM s.2=true/\s.1=t.1/\s.2.2=t.2.2:=by
 have g:=(zz.1 b).1;have d:M[p]=t:=(zz.1 b).2;have f:fY t.1 t.2.2 t=true:=by simp [fY,c]
 have e:bH M p=M.findIdx (fY t.1 t.2.2):=by unfold bH;rw [b];simp [c]
 have i:M.findIdx (fY t.1 t.2.2)<=p:=by apply Nat.le_of_not_lt;intro a;have:=List.not_of_lt_findIdx a;rw [d,f] at this;cases this
 have a:M.findIdx (fY t.1 t.2.2)<M.length:=by omega
 refine ⟨e,by omega,M[M.findIdx (fY t.1 t.2.2)],by rw [e];exact zy a,?_⟩;have:=List.findIdx_getElem (w:=a);simpa [fY] using this
def zF(M:List Tg)(p a:Nat):Prop:=p=a\/∃s t,M[p]?=some s/\M[a]?=some t/\aM s.2=true/\aM t.2=true/\s.1=t.1/\s.2.2=t.2.2
theorem tW(M:List Tg)(p a:Nat):bH M p=bH M a↔zF M p a:=by
 constructor
 ·intro e;by_cases i:∃s,M[p]?=some s/\aM s.2=true
  ·obtain ⟨s,o,r⟩:=i;obtain ⟨A,B,z,c,w,x,y⟩:=pH o r;by_cases b:∃t,M[a]?=some t/\aM t.2=true
   ·obtain ⟨t,f,g⟩:=b;obtain ⟨u,v,q,d,k,l,m⟩:=pH f g;rw [e,d] at c;simp at c;subst c;exact z3 ⟨s,t,o,f,r,g,by rw [<-x,l],by rw [<-y,m]⟩
   ·exfalso;have j:bH M a=a:=by
     cases hm:M[a]? with
     |none=>exact rD (by simpa using hm)
     |some t=>
      refine pG hm ?_;cases hv:aM t.2
      ·rfl
      ·exact absurd ⟨t,hm,hv⟩ b
    rw [e,j] at c;exact b ⟨z,c,w⟩
  ·have n:bH M p=p:=by
    cases hm:M[p]? with
    |none=>exact rD (by simpa using hm)
    |some t=>
     refine pG hm ?_;cases hv:aM t.2
     ·rfl
     ·exact absurd ⟨t,hm,hv⟩ i
   by_cases b:∃t,M[a]?=some t/\aM t.2=true
   ·obtain ⟨t,f,g⟩:=b;obtain ⟨u,v,q,d,k,l,m⟩:=pH f g;rw [<-e,n] at d;exact absurd ⟨q,d,k⟩ i
   ·have j:bH M a=a:=by
     cases hm:M[a]? with
     |none=>exact rD (by simpa using hm)
     |some t=>
      refine pG hm ?_;cases hv:aM t.2
      ·rfl
      ·exact absurd ⟨t,hm,hv⟩ b
    rw [n,j] at e;exact za e
 ·rintro (rfl|⟨s,t,h1,h2,h3,h4,h5,h6⟩)
  ·rfl
  ·rw [(pH h1 h3).1,(pH h2 h4).1,h5,h6]
def sP(M:List Tg):List Nat:=(List.range M.length).map λp=>bH M p
theorem mS(M:List Tg):(sP M).length=M.length:=by simp [sP]
theorem vF(a:p<M.length):(sP M)[p]?=some (bH M p):=by simp [sP,a]
theorem aBn{b:List Tg}(c:p<M.length):bH (M++b) p=bH M p:=by
 have a:M[p]?=some M[p]:=zy c;have d:(M++b)[p]?=some M[p]:=by rw [zw c,a]
 cases hv:aM M[p].2
 ·rw [pG a hv,pG d hv]
 ·obtain ⟨f,g,s,i,j,k,l⟩:=pH a hv;rw [(pH d hv).1,f,zd,aJ (by omega)]
theorem aX8(b:p<M.length):nZ (M.take p) M[p].1 M[p].2=bH M p:=by
 have d:M[p]?=some M[p]:=zy b;have a:(M.take p).length=p:=by simp;omega
 unfold nZ;rw [a];cases hv:aM M[p].2
 ·rw [pG d hv];rfl
 ·obtain ⟨g,k,_⟩:=pH d hv;rw [aJ rfl,g];have j:M=M.take p++M.drop p:=(List.take_append_drop p M).symm;have i:M.findIdx (fY M[p].1 M[p].2.2)=if (M.take p).findIdx (fY M[p].1 M[p].2.2)<(M.take p).length then (M.take p).findIdx (fY M[p].1 M[p].2.2) else (M.drop p).findIdx (fY M[p].1 M[p].2.2)+(M.take p).length:=by
   generalize fY M[p].1 M[p].2.2=f;conv=>lhs;rw [j]
   rw [zd]
  unfold jZ;rw [i,a];split
  ·rename_i c;rw [List.findIdx?_eq_some_iff_findIdx_eq.2 ⟨by rw [a];exact c,rfl⟩];rfl
  ·rename_i c;rw [List.findIdx?_eq_none_iff_findIdx_eq.2 (by have:=List.findIdx_le_length (xs:=M.take p) (p:=fY M[p].1 M[p].2.2);omega)];rw [zr b,List.findIdx_cons];have:fY M[p].1 M[p].2.2 M[p]=true:=by simp [fY,hv]
   simp [this]
theorem aKd(M:List Tg)(b:Int)(t:List Nd):sP (M++t.map λa=>(b,a))=sP M++jC M b t t.length:=by
 apply List.ext_getElem?;intro p;by_cases c:p<M.length
 ·rw [vF (by simp;omega),zw (by rw [mS];exact c),vF c,aBn c]
 ·rw [zv (by rw [mS];omega),mS];by_cases g:p-M.length<t.length
  ·have d:p<(M++t.map λa=>(b,a)).length:=by simp;omega
   rw [vF d,<-aX8 d];have f:(M++t.map λa=>(b,a))[p]=(b,t[p-M.length]):=by rw [List.getElem_append_right (by omega)];simp
   rw [f];have i:(M++t.map λa=>(b,a)).take p=M++(t.take (p-M.length)).map λa=>(b,a):=by rw [List.take_append,List.take_of_length_le (by omega),List.map_take]
   rw [i];simp [jC,g]
  ·rw [zq (by rw [mS];simp;omega),zq (by rw [aJv];omega)]
theorem aEz(M:List Tg):gW (sP M) (bH M) (λp=>if bH M p=p then 0 else 1):=by
 refine ⟨λp m a=>?_,λp a=>?_,λp m a d=>?_,λp a=>rD (by rw [mS] at a;exact a)⟩
 ·have b:=(zz.1 a).1;rw [mS] at b ⊢;rw [vF b] at a;simp at a;subst a;have c:M[p]?=some M[p]:=zy b;cases hv:aM M[p].2
  ·rw [pG c hv];exact b
  ·have:=(pH c hv).2.1;omega
 ·have b:=(zz.1 a).1;rw [mS] at b;rw [vF b] at a;simpa using a
 ·have b:=(zz.1 a).1;rw [mS] at b;rw [vF b] at a;simp at a;subst a;have c:M[p]?=some M[p]:=zy b;cases hv:aM M[p].2
  ·rw [pG c hv] at d;exact absurd rfl d
  ·obtain ⟨g,n,s,i,j,k,l⟩:=pH c hv;have f:bH M p=bH M (bH M p):=by
    rw [(pH i j).1,g,k,l]
   refine ⟨f,?_⟩;rw [aJ f.symm,aI (λe=>d e)];exact Nat.zero_lt_one
theorem aX9(M:List Tg):eQ (aF (M.map zx)) (λj k=>bH M j=bH M k) λ_ _=>False:=by
 intro l m e i q;rcases (tW M l m).1 e with rfl|⟨s,t,d,n,f,o,_⟩
 ·refine ⟨rfl,λr p v g b=>?_⟩;rw [g] at b;simp at b;subst b;exact fA.refl _
 ·obtain ⟨u,a,c⟩:=kM i;rw [zt,d] at a;simp at a;subst a;rw [f] at c;cases c
theorem aXa(M:List Tg):lC (M.map zx) (bH M):=by intro p b;obtain ⟨g,a,c⟩:=kM b;rw [zt] at a;obtain ⟨t,d,f⟩:=zo.1 a;subst f;rw [pG d c];exact b
theorem aXb:∀{c:Nat},bA t c=true->∀a∈t,aM a=true->0<=a.2/\a.2<60:=by
 induction t with
 |nil=>intro c _ a hn;simp at hn
 |cons m r ih=>
  intro c b a hn f;cases c with
  |zero=>simp [bA] at b
  |succ c=>
   rw [uQ] at b;simp only [Bool.and_eq_true] at b;rcases zc.1 hn with rfl|hn
   ·have d:=b.1;unfold dU at d;rw [aJ f] at d;simpa using d
   ·exact ih b.2 a hn f
structure Rows(M:List Tg)(R:List Rw)(g:Nat->Nat):Prop where
 whole:dM (M.map zx)
 var:∀(p:Nat) (t:Tg),M[p]?=some t->aM t.2=true->∃r,R[g p]?=some r/\r.node=(t.2.1,t.2.2+60*t.1)
 name:∀(p:Nat) (t:Tg),M[p]?=some t->aM t.2=false->R[g p]?=some ⟨t.2,g p,((aF (M.map zx)).ch p).map g⟩
 inj:∀(p q:Nat) (s t:Tg),M[p]?=some s->M[q]?=some t->aM s.2=false->aM t.2=false->g p=g q->p=q
 onto:∀r,r<R.length->∃p,p<M.length/\g p=r
 fresh:∀(r:Nat) (x:Rw),R[r]?=some x->x.cls=r/\(aM x.node=true->x.parts=[])
 once:pE R
 num:∀(p:Nat) (t:Tg),M[p]?=some t->aM t.2=true->0<=t.2.2/\t.2.2<60
theorem Rows.start:Rows [] [] id:=⟨λb f a=>by simp at a,λp t a=>by simp at a,λp t a=>by simp at a,λp g s t a=>by simp at a,λc a=>by simp at a,λc k a=>by simp at a,λb d i j a=>by simp at a,λp t a=>by simp at a⟩
theorem oB(d:dM L){p:Nat}(b:p<L.length):(aF (L++t)).ch p=(aF L).ch p:=by
 have a:L[p]?=some L[p]:=zy b;have c:(L++t)[p]?=some L[p]:=by rw [zw b,a]
 rw [fX a,fX c,List.drop_append_of_le_length (by omega),aX1 _ _ _ _ (d p _ a)]
theorem zG(a:p<t.length):(aF (L++t)).ch (L.length+p)=((aF t).ch p).map (· + L.length):=by
 have b:t[p]?=some t[p]:=zy a;have c:(L++t)[L.length+p]?=some t[p]:=by rw [zv (by omega)];simp [a]
 rw [fX b,fX c,<-aBl];congr 1
 ·rw [List.drop_append,List.drop_eq_nil_of_le (by omega),List.nil_append];congr 1;omega
 ·omega
theorem Rows.put{z:Nat->Nat}(i:Rows M R z){o:Int}{t:List Nd}(E:bA t 1=true){R':List Rw}{U:List Nat}{V:List Nd}{g2:Nat->Nat}(k:kL (60*o) R 1 t R' U V g2):Rows (M++t.map λn=>(o,n)) R' (sO M.length z g2):=by
 have X:aN t 1=t.length:=by have:=aAu t 1 [] E;simpa using this
 have O:(M.map zx).length=M.length:=by simp
 have H:(M++t.map λn=>(o,n)).map zx=M.map zx++t:=by rw [zk,zp];congr 1;exact zb _
 have u:∀(p:Nat) (x:Tg),p<M.length->(M++t.map λn=>(o,n))[p]?=some x->M[p]?=some x:=λp x f d=>by rwa [zw f] at d
 have r:∀(p:Nat) (x:Tg),¬p<M.length->(M++t.map λn=>(o,n))[p]?=some x->∃n,t[p-M.length]?=some n/\x=(o,n)/\p-M.length<t.length:=λp x f d=>by
  rw [zv (by omega),zt] at d;obtain ⟨n,c,g⟩:=zo.1 d;exact ⟨n,c,g.symm,(zz.1 c).1⟩
 have B:∀(p:Nat) (x:Tg),M[p]?=some x->z p<R.length:=by
  intro p x d;cases l:aM x.2
  ·exact (zz.1 (i.name p x d l)).1
  ·obtain ⟨q,c,_⟩:=i.var p x d l;exact (zz.1 c).1
 have v:∀p,¬p<M.length->sO M.length z g2 p=g2 (p-M.length):=λp k=>aI k
 refine ⟨?_,?_,?_,?_,?_,?_,k.once i.once,?_⟩
 ·rw [H];exact i.whole.append (qH E)
 ·intro p x d l;by_cases f:p<M.length
  ·have w:=u p x f d;obtain ⟨q,c,g⟩:=i.var p x w l;exact ⟨q,by rw [lO f,k.ext _ (B p x w),c],g⟩
  ·obtain ⟨n,c,rfl,j⟩:=r p x f d;rw [v p f];exact k.var _ n (by omega) c l
 ·intro p x d l;rw [H];by_cases f:p<M.length
  ·have w:=u p x f d;rw [lO f,k.ext _ (B p x w),i.name p x w l,oB i.whole (by omega)];congr 2
   rw [aEx];intro m J;have D:(M.map zx)[p]?=some x.2:=by rw [zt,w];rfl
   rw [fX D] at J;have c:=(qI _ _ _ (i.whole p _ D) m J).2;have g:=i.whole.one (p:=p) (by omega);have j:aN ((M.map zx).drop p) 1<=((M.map zx).drop p).length:=nR _ _;rw [zr (by omega)] at j;have A:(M.map zx)[p]=x.2:=(zz.1 D).2;rw [A] at j;simp [aN] at j;omega
  ·obtain ⟨n,c,rfl,j⟩:=r p x f d;rw [v p f,(k.name _ n (by omega) c l).1];congr 2
   have P:p=(M.map zx).length+(p-M.length):=by omega
   have I:=zG (L:=M.map zx) (t:=t) (p:=p-M.length) j;rw [<-P] at I;rw [I,O,aEy,fX c]
 ·intro p m x y d C F G e;by_cases c:p<M.length<;>by_cases g:m<M.length
  ·rw [lO c,lO g] at e;exact i.inj p m x y (u p x c d) (u m y g C) F G e
  ·obtain ⟨n,j,rfl,A⟩:=r m y g C;rw [lO c,v m g] at e;have a:=B p x (u p x c d);have b:=(k.name _ n (by omega) j G).2;omega
  ·obtain ⟨n,j,rfl,A⟩:=r p x c d;rw [lO g,v p c] at e;have a:=B m y (u m y g C);have b:=(k.name _ n (by omega) j F).2;omega
  ·obtain ⟨n,j,rfl,A⟩:=r p x c d;obtain ⟨T,N,rfl,W⟩:=r m y g C;rw [v p c,v m g] at e;have:=k.inj _ _ n T (by omega) (by omega) j N F G e;omega
 ·intro q Q;by_cases f:q<R.length
  ·obtain ⟨p,c,g⟩:=i.onto q f;exact ⟨p,by simp;omega,by rw [lO c];exact g⟩
  ·obtain ⟨S,c,g⟩:=k.onto q (by omega) Q;exact ⟨S+M.length,by simp;omega,by rw [aBm];exact g⟩
 ·intro q x d;by_cases f:q<R.length
  ·rw [k.ext q f] at d;exact i.fresh q x d
  ·exact k.fresh q x (by omega) d
 ·intro p x d l;by_cases f:p<M.length
  ·exact i.num p x (u p x f d) l
  ·obtain ⟨n,c,rfl,j⟩:=r p x f d;exact aXb E n (zg c) l
def oC(M:List Tg)(R:List Rw)(a:Nat->Nat)(p:Nat):Nat:=if p<M.length then a p else R.length+(p-M.length)
section
variable {M:List Tg}{R:List Rw}{g:Nat->Nat}{T:Tb}
theorem aF0(j:T.map z0=R){a:Nat}{b:Rw}(c:R[a]?=some b):(bC T).lab a=b.node/\(bC T).ch a=b.parts:=by subst j;rw [zt] at c;obtain ⟨k,d,rfl⟩:=zo.1 c;have i:=(zz.1 d).1;have f:=(zz.1 d).2;exact ⟨by rw [nK T a i,f],by rw [qY T a i,f]⟩
theorem aXc(j:T.map z0=R)(f:∀(i:Nat) (c:Rw),R[i]?=some c->c.cls=i/\(aM c.node=true->c.parts=[])){a b:Nat}(d:bI T a b):a=b:=by
 rcases d with d|⟨k,l,e⟩
 ·exact d
 ·subst j;have m:=(f a T[a].1 (by rw [zt,zy k];rfl)).1;have n:=(f b T[b].1 (by rw [zt,zy l];rfl)).1;omega
theorem Rows.at(a:Rows M R g){p:Nat}{t:Tg}(b:M[p]?=some t):∃x,R[g p]?=some x/\aM x.node=aM t.2:=by
 cases hv:aM t.2
 ·exact ⟨_,a.name p t b hv,hv⟩
 ·obtain ⟨r,c,d⟩:=a.var p t b hv;refine ⟨r,c,?_⟩;rw [d];exact hv
theorem Rows.lt(a:Rows M R g){p:Nat}(c:p<M.length):g p<R.length:=by obtain ⟨x,b,_⟩:=a.at (zy c);exact (zz.1 b).1
theorem aKe{a:Nd}(c:aM a=true):a.1=⟨#[]⟩:=by
 have b:a.1.toList=[]:=by simpa [aM] using c
 rw [ByteArray.toList_eq] at b;obtain ⟨⟨d⟩,f⟩:=a;simp at b;simp [b]
theorem Rows.laid(c:Rows M R g)(x:T.map z0=R){q v:Nat}(H:q<M.length)(I:v<M.length):Laid (aF (M.map zx)) (bC T) (λO P=>bH M O=bH M P\/(O=q/\P=v)) (jR T (g q) (g v)) (oC M R g):=by
 have a5:T.length=R.length:=by rw [<-x];simp
 have d:∀p,p<M.length->oC M R g p=g p:=λp i=>aJ i
 have n:∀p,¬p<M.length->oC M R g p=R.length+(p-M.length):=λp i=>aI i
 have E:∀(p:Nat) (t:Tg),M[p]?=some t->(M.map zx)[p]?=some t.2:=λp t a1=>by rw [zt,a1];rfl
 have X:∀p,(aF (M.map zx)).named p↔(bC T).named (oC M R g p):=by
  intro p;by_cases i:p<M.length
  ·have m:M[p]?=some M[p]:=zy i;obtain ⟨a3,b,f⟩:=c.at m;rw [d p i,fW (E _ _ m)];unfold Gr.named;rw [(aF0 x b).1,f]
  ·constructor
   ·intro k;obtain ⟨a2,b,_⟩:=kM k;have:=(zz.1 b).1;simp at this;omega
   ·intro k;rw [n p i] at k;obtain ⟨b,_⟩:=qA k;omega
 have J:∀p,(aF (M.map zx)).named p->∃t,M[p]?=some t/\aM t.2=false/\p<M.length:=by intro p k;obtain ⟨a2,b,f⟩:=kM k;rw [zt] at b;obtain ⟨t,j,rfl⟩:=zo.1 b;exact ⟨t,j,f,(zz.1 j).1⟩
 refine ⟨X,?_,?_,?_,?_,?_,?_⟩
 ·intro p k;obtain ⟨t,b,f,j⟩:=J p k;rw [d p j,mG (E _ _ b),(aF0 x (c.name p t b f)).1]
 ·intro p k;obtain ⟨t,b,f,j⟩:=J p k;rw [d p j,(aF0 x (c.name p t b f)).2];refine zs λa l=>(d a ?_).symm
  have F:=E _ _ b;rw [fX F] at l;have C:=(qI _ _ _ (c.whole p _ F) a l).2;have w:aN ((M.map zx).drop p) 1<=((M.map zx).drop p).length:=nR _ _;rw [zr (by simp;omega)] at w;have D:(M.map zx)[p]'(by simp;omega)=t.2:=(zz.1 F).2;rw [D] at w;simp [aN] at w;omega
 ·intro p a e;by_cases i:p<M.length<;>by_cases l:a<M.length
  ·rw [d p i,d a l] at e;have m:M[p]?=some M[p]:=zy i;have y:M[a]?=some M[a]:=zy l;obtain ⟨a3,G,U⟩:=c.at m;obtain ⟨a8,a4,V⟩:=c.at y;rw [e,a4] at G;simp at G;subst G;cases hv:aM M[p].2
   ·have z:aM M[a].2=false:=by rw [<-V,U,hv]
    have:=c.inj p a _ _ m y hv z e;subst this;exact Cl.refl _
   ·have z:aM M[a].2=true:=by rw [<-V,U,hv]
    obtain ⟨Q,r,u⟩:=c.var p _ m hv;obtain ⟨S,A,B⟩:=c.var a _ y z;rw [e,A] at r;simp at r;subst r;rw [B] at u;simp at u;have a6:=c.num p _ m hv;have a7:=c.num a _ y z;refine Cl.base (za ((tW M p a).2 (z3 ⟨_,_,m,y,hv,z,?_,?_⟩)))<;>omega
  ·rw [d p i,n a l] at e;have:=c.lt i;omega
  ·rw [d a l,n p i] at e;have:=c.lt l;omega
  ·rw [n p i,n a l] at e;have:p=a:=by omega
   subst this;exact Cl.refl _
 ·rintro p a (e|⟨rfl,rfl⟩)
  ·rcases (tW M p a).1 e with rfl|⟨s,t,b,f,j,C,w,D⟩
   ·exact Cl.refl _
   ·obtain ⟨Q,r,u⟩:=c.var p _ b j;obtain ⟨S,A,B⟩:=c.var a _ f C;have Y:=(zz.1 b).1;have Z:=(zz.1 f).1;have W:g p=g a:=by
     refine c.once (g p) (g a) Q S r A ?_ ?_
     ·rw [u];exact j
     ·rw [u,B,aKe j,aKe C,w,D]
    rw [d p Y,d a Z,W];exact Cl.refl _
  ·rw [d p H,d a I];exact Cl.base (za ⟨rfl,rfl⟩)
 ·rintro o s (⟨rfl,rfl⟩|e)
  ·exact ⟨q,v,d q H,d v I,Cl.base (z3 ⟨rfl,rfl⟩)⟩
  ·have:=aXc x c.fresh e;subst this;by_cases a0:o<R.length
   ·obtain ⟨p,b,f⟩:=c.onto o a0;exact ⟨p,p,by rw [d p b,f],by rw [d p b,f],Cl.refl _⟩
   ·have N:oC M R g (M.length+(o-R.length))=o:=by rw [n _ (by omega)];omega
    exact ⟨_,_,N,N,Cl.refl _⟩
 ·intro o k;obtain ⟨b,_⟩:=qA k;obtain ⟨p,f,j⟩:=c.onto o (by omega);exact ⟨p,by rw [d p f,j]⟩
end
theorem aXd{c:Nat->Nat->Prop}(u:∀o,c o o):∀(s:List Nd) (b a:Nat),s=L.drop a->eR s b->(∀g∈gD s b a,bK (aF L) c g)->∀p,a<=p->p<a+aN s b->bK (aF L) c p:=by
 intro s;induction s with
 |nil=>
  intro b a _ _ _ p q d;cases b<;>simp [aN] at d<;>omega
 |cons n r ih=>
  intro b a k i m p q d;cases b with
  |zero=>simp at d;omega
  |succ b=>
   have f:L[a]?=some n:=by have:=congrArg (λx=>x[0]?) k;simpa using this.symm
   have j:r=L.drop (a+1):=by have:=congrArg List.tail k;simpa using this
   have y:=(zz.1 f).1;have l:bK (aF L) c a:=m a (by rw [mF];simp);by_cases w:p=a
   ·subst w;exact l
   ·simp only [eR] at i;simp only [aN] at d;refine ih (b+bP n) (a+1) j i (λg hxm=>?_) p (by omega) (by omega);rw [zn b,aK4] at hxm;rcases List.mem_append.1 hxm with hxm|hxm
    ·cases hv:aM n
     ·refine l.parts (u a) ((fW f).2 hv) ?_;rw [fX f,<-j];exact hxm
     ·rw [mO hv] at hxm;simp [gD] at hxm
    ·refine m g ?_;rw [mF];refine List.mem_cons_of_mem _ ?_;have v:aN (n::r) 1=1+aN r (bP n):=by simp [aN]
     rw [v,zn 1,ze,show a+(aN r (bP n)+1)=a+1+aN r (bP n) by omega];exact hxm
theorem aKf{a:Nat->Nat->Prop}(d:∀i,a i i)(f:dM L){i:Nat}(g:i<L.length)(c:bK (aF L) a i):∀p,i<=p->p<i+aN (L.drop i) 1->bK (aF L) a p:=
 aXd d _ 1 i rfl (f.one g) λj b=>by
  simp [gD] at b;subst b;exact c
abbrev aQ(o:Int)(t:List Nd):List Tg:=t.map λa=>(o,a)
theorem sQ(o:Int)(t:List Nd):(aQ o t).map zx=t:=by unfold aQ;rw [zp];exact zb _
theorem Rows.tabOk{k:Nat->Nat}{c:Tb}(d:Rows M R k)(u:c.map z0=R)(E:∀(p:Nat) (t:Tg),M[p]?=some t->0<=t.2.2):hH c:=by
 have C:c.length=R.length:=by rw [<-u];simp
 have o:∀(a:Nat) (b:a<c.length),R[a]?=some c[a].1:=λa b=>by rw [<-u,zt,zy b];rfl
 have y:∀(a:Nat) (b:a<c.length),∃p t,M[p]?=some t/\k p=a/\aM c[a].1.node=aM t.2/\(aM t.2=false->c[a].1=⟨t.2,a,((aF (M.map zx)).ch p).map k⟩):=by intro a b;obtain ⟨p,D,rfl⟩:=d.onto a (by omega);have q:M[p]?=some M[p]:=zy D;obtain ⟨J,z,G⟩:=d.at q;have n:=o _ b;rw [z] at n;simp at n;subst n;refine ⟨p,M[p],q,rfl,G,λg=>?_⟩;have:=d.name p _ q g;rw [z] at this;simpa using this
 refine ⟨λa b I j=>?_,λa b=>?_,λa b g=>?_⟩
 ·obtain ⟨p,t,i,B,l,m⟩:=y a b;cases g:aM t.2
  ·rw [m g] at j;obtain ⟨A,v,rfl⟩:=List.mem_map.1 j;have f:(M.map zx)[p]?=some t.2:=by rw [zt,i];rfl
   rw [fX f] at v;have H:=(qI _ _ _ (d.whole p _ f) A v).2;have w:=(zz.1 f).1;have r:aN ((M.map zx).drop p) 1<=((M.map zx).drop p).length:=nR _ _;rw [zr w] at r;have F:(M.map zx)[p]=t.2:=(zz.1 f).2;rw [F] at r;simp [aN] at r w;rw [C];exact d.lt (by omega)
  ·have:=(d.fresh a _ (o a b)).2 (by rw [l];exact g);rw [this] at j;simp at j
 ·rw [(d.fresh a _ (o a b)).1];exact b
 ·obtain ⟨p,t,i,B,l,m⟩:=y a b;have x:aM t.2=false:=by rw [<-l];exact g
  rw [m x];have f:(M.map zx)[p]?=some t.2:=by rw [zt,i];rfl
  simp only [zj];rw [fX f,tV];have:=E p t i;unfold bP;rw [x];simp;omega
theorem aXe{d:Nat}(b:bA t d=true):∀a∈t,0<=a.2:=by
 intro a c;have:=aBh b a c;unfold dU at this;split at this
 ·simp at this;omega
 ·simp at this;omega
def zH(a:List Nd)(b:Nat):Prop:=eR a b/\aN a b=a.length
theorem aXf:∀(c:List Nd) (a:Nat),zH c a->(∀d∈c,dU d=true)->bA c a=true:=by
 intro c;induction c with
 |nil=>
  intro a b _;cases a with
  |zero=>rfl
  |succ a=>exact absurd b.1 (by simp [eR])
 |cons d r ih=>
  intro a b f;cases a with
  |zero=>have:=b.2;simp at this
  |succ a=>
   rw [uQ,f d (by simp),Bool.true_and];exact ih _ ⟨by have:=b.1;simpa [eR] using this,by have:=b.2;simp [aN] at this;omega⟩ λi g=>f i (by simp [g])
theorem aKg{R:Nat->Nat->Prop}{k:Nat->Nat}{l:List Nat}{c:List Nd}(m:aS (aF L) R k l c):zH c l.length/\∀a∈c,aM a=false->a∈L:=by
 induction m with
 |nil=>exact ⟨⟨by simp,by simp⟩,by simp⟩
 |@var i r c _ _ ih=>
  have f:=mO (nJ (k i:Int));refine ⟨⟨?_,?_⟩,?_⟩
  ·simp only [zl,eR,f,Nat.add_zero];exact ih.1.1
  ·have:=ih.1.2;simp only [zl,aN,f,Nat.add_zero];omega
  ·intro a hn b;rcases zc.1 hn with rfl|hn
   ·rw [nJ] at b;cases b
   ·exact ih.2 a hn b
 |@name i j r c _ h2 _ ih=>
  obtain ⟨a,d,v⟩:=kM h2;have n:((aF L).ch j).length=bP a:=by rw [fX d,tV]
  obtain ⟨⟨g,o⟩,q⟩:=ih;rw [zm,n,zn] at g o;rw [mG d];refine ⟨⟨?_,?_⟩,?_⟩
  ·simp only [zl,eR];exact g
  ·simp only [zl,aN];omega
  ·intro u hm b;rcases zc.1 hm with rfl|hm
   ·exact zg d
   ·exact q u hm b
def kN(s:List Int)(b c:Int):Prop:=∃a:Nat,s[a]?=some b/\c=(a:Int)
theorem aKh(s:List Int)(a:Int):(eK s a<0->a∉s)/\(0<=eK s a->kN s a (eK s a)):=by
 unfold eK kN;rw [<-zf s];generalize s.reverse=r;rw [zf];induction r with
 |nil=>simp [tB]
 |cons y r ih=>
  simp only [tB];by_cases b:y=a
  ·subst b;rw [aJ rfl];refine ⟨λb=>by omega,λ_=>⟨r.length,?_,rfl⟩⟩;rw [zi,zv (by simp)];simp
  ·rw [aI b];refine ⟨λc h2=>?_,λc=>?_⟩
   ·rw [zi] at h2;rcases List.mem_append.1 h2 with h2|h2
    ·exact ih.1 c h2
    ·simp at h2;exact b h2.symm
   ·obtain ⟨f,d,g⟩:=ih.2 c;refine ⟨f,?_,g⟩;rw [zi,zw (zz.1 d).1];exact d
theorem aKi{c d:Int->Int->Prop}(l:∀a b,c a b->d a b){g f:Nd}(k:gZ c g f):gZ d g f:=by
 rcases k with ⟨a,b,i,j⟩|k
 ·exact za ⟨a,b,i,l _ _ j⟩
 ·exact z3 k
theorem aXg:∀(b:List Nd) (p:List Nd) (a:List Nd×List Int),a.2.Nodup->aO (gZ (kN a.2)) p a.1->(b.foldl cZ a).2.Nodup/\aO (gZ (kN (b.foldl cZ a).2)) (p++b) (b.foldl cZ a).1:=by
 intro b;induction b with
 |nil=>intro p a f g;simpa using ⟨f,g⟩
 |cons n b ih=>
  intro p a f g;rw [List.foldl_cons];have m:(cZ a n).2.Nodup/\aO (gZ (kN (cZ a n).2)) (p++[n]) (cZ a n).1:=by
   unfold cZ;cases hv:aM n with
   |false=>exact ⟨f,g.snoc (z3 ⟨hv,rfl⟩)⟩
   |true=>
    simp only [if_true];by_cases i:eK a.2 n.2<0
    ·rw [aJ i];have q:=(aKh a.2 n.2).1 i;refine ⟨?_,?_⟩
     ·rw [List.nodup_append];exact ⟨f,by simp,λc o d k=>by simp at k;subst k;exact λe=>q (e▸o)⟩
     ·have r:∀c d,kN a.2 c d->kN (a.2++[n.2]) c d:=by
       rintro c d ⟨j,l,u⟩;exact ⟨j,by rw [zw (zz.1 l).1];exact l,u⟩
      refine aO.snoc (g.mono λc d j=>aKi r j) (za ⟨hv,hv,rfl,a.2.length,?_,rfl⟩);rw [zv (zh _)];simp
    ·rw [aI i];exact ⟨f,g.snoc (za ⟨hv,hv,rfl,(aKh a.2 n.2).2 (by omega)⟩)⟩
  have:=ih (p++[n]) (cZ a n) m.1 m.2;rwa [zu,List.singleton_append] at this
theorem kN.pairs{s:List Int}(a:s.Nodup):lX (kN s):=by
 rintro g j i k ⟨b,d,rfl⟩ ⟨c,f,rfl⟩;obtain ⟨l,rfl⟩:=zz.1 d;obtain ⟨m,rfl⟩:=zz.1 f;constructor
 ·intro e;have:=(List.getElem_inj a).1 e;omega
 ·intro e;have:b=c:=by omega
  subst this;rfl
def dN(a b c p:Nat):Nat:=if p<a then p else if p<a+b then p+c else if p<a+b+c then p-b else p
section
variable {A X Y B:List Tg}
theorem aXh(p:Nat):(A++Y++X++B)[p]?=(A++X++Y++B)[dN A.length Y.length X.length p]?:=by
 unfold dN;by_cases a:p<A.length
 ·rw [aJ a,zu,zu,zu,zu,zw a,zw a]
 ·rw [aI a];by_cases b:p<A.length+Y.length
  ·rw [aJ b,zu,zw (by simp;omega),zv (by omega)];rw [zw (by simp;omega),zv (by simp;omega)];congr 1
   simp;omega
  ·rw [aI b];by_cases c:p<A.length+Y.length+X.length
   ·rw [aJ c,zw (by simp;omega),zv (by simp;omega)];rw [zu,zw (by simp;omega),zv (by omega)];congr 1
    simp;omega
   ·rw [aI c,zv (by simp;omega),zv (by simp;omega)];congr 1
    simp;omega
theorem aXi(b f d:Nat){p c:Nat}(a:dN b f d p=dN b f d c):p=c:=by unfold dN at a;split at a<;>split at a<;>(try split at a)<;>(try split at a)<;>(try split at a)<;>(try split at a)<;>omega
theorem aXj(b d c a:Nat):∃p,dN b d c p=a/\(a<b+c+d->p<b+d+c):=by
 by_cases g:a<b
 ·exact ⟨a,by unfold dN;rw [aJ g],λ_=>by omega⟩
 ·by_cases j:a<b+c
  ·refine ⟨a+d,?_,λ_=>by omega⟩;unfold dN;rw [aI (by omega),aI (by omega),aJ (by omega)];omega
  ·by_cases i:a<b+c+d
   ·refine ⟨a-c,?_,λ_=>by omega⟩;unfold dN;rw [aI (by omega),aJ (by omega)];omega
   ·exact ⟨a,by unfold dN;rw [aI (by omega),aI (by omega),aI (by omega)],λf=>absurd f i⟩
end
theorem xH{a R:List Nd}(c:dM a){p:Nat}(b:p<a.length):(aF (L++a++R)).ch (L.length+p)=((aF a).ch p).map (· + L.length):=by rw [zu,zG (by simp;omega),oB c b]
section
variable {A X Y B:List Tg}{R:List Rw}{g:Nat->Nat}
theorem Rows.swap(k:Rows (A++X++Y++B) R g)(w:dM (A.map zx))(r:dM (X.map zx))(u:dM (Y.map zx))(E:dM (B.map zx)):Rows (A++Y++X++B) R λp=>g (dN A.length Y.length X.length p):=by
 have v:=@aXh A X Y B;have D:(A++Y++X++B).length=A.length+Y.length+X.length+B.length:=by simp;omega
 have G:∀c,c<A.length+X.length+Y.length+B.length->∃p,dN A.length Y.length X.length p=c/\p<A.length+Y.length+X.length+B.length:=by
  intro c a;obtain ⟨p,b,l⟩:=aXj A.length Y.length X.length c;refine ⟨p,b,?_⟩;by_cases q:c<A.length+X.length+Y.length
  ·have:=l q;omega
  ·unfold dN at b;split at b
   ·omega
   ·split at b
    ·omega
    ·split at b<;>omega
 have F:∀(p:Nat),p<A.length+Y.length+X.length+B.length->(aF ((A++X++Y++B).map zx)).ch (dN A.length Y.length X.length p)=((aF ((A++Y++X++B).map zx)).ch p).map (dN A.length Y.length X.length):=by
  intro p d;have x:∀{f:List Nd} (C:dM f) {c j:Nat},c<f.length->j∈(aF f).ch c->j<f.length:=by intro f C c j a i;have b:f[c]?=some f[c]:=zy a;rw [fX b] at i;have Q:=(qI _ _ _ (C c _ b) j i).2;have z:aN (f.drop c) 1<=(f.drop c).length:=nR _ _;rw [zr a] at z;simp [aN] at z;omega
  simp only [zk];by_cases b:p<A.length
  ·have e:dN A.length Y.length X.length p=p:=by unfold dN;rw [aJ b]
   rw [e];have y:∀(f:List Nd),(aF (A.map zx++f)).ch p=(aF (A.map zx)).ch p:=λf=>oB w (by simpa using b)
   rw [zu,zu,zu,zu,y,y];refine (zb _).symm.trans (zs λj i=>?_);have:=x w (by simpa using b) i;simp at this;simp [dN,this]
  ·by_cases l:p<A.length+Y.length
   ·have e:dN A.length Y.length X.length p=p+X.length:=by unfold dN;rw [aI b,aJ l]
    rw [e];have m:p+X.length=(A.map zx++X.map zx).length+(p-A.length):=by simp;omega
    have n:p=(A.map zx).length+(p-A.length):=by simp;omega
    have a:p-A.length<(Y.map zx).length:=by simp;omega
    rw [m,xH (R:=B.map zx) u a];conv=>rhs;rw [n,zu (A.map zx++Y.map zx),xH u a]
    rw [zp];refine zs λj i=>?_
    have:=x u a i;simp at this;simp only [Function.comp,dN,zm,zj];rw [aI (by omega),aJ (by omega)];omega
   ·by_cases q:p<A.length+Y.length+X.length
    ·have e:dN A.length Y.length X.length p=p-Y.length:=by unfold dN;rw [aI b,aI l,aJ q]
     rw [e];have m:p-Y.length=(A.map zx).length+(p-Y.length-A.length):=by simp;omega
     have n:p=(A.map zx++Y.map zx).length+(p-Y.length-A.length):=by simp;omega
     have a:p-Y.length-A.length<(X.map zx).length:=by simp;omega
     rw [m,zu (A.map zx++X.map zx),xH r a];conv=>rhs;rw [n,xH (R:=B.map zx) r (by simpa using a)]
     have P:(A.map zx).length+(p-Y.length-A.length)-(A.map zx).length=p-Y.length-A.length:=by omega
     rw [zp];refine zs λj i=>?_
     have:=x r a i;simp at this;simp only [Function.comp,dN,zm,zj];rw [aI (by omega),aI (by omega),aJ (by omega)];omega
    ·have e:dN A.length Y.length X.length p=p:=by unfold dN;rw [aI b,aI l,aI q]
     rw [e];have m:p=(A.map zx++X.map zx++Y.map zx).length+(p-A.length-X.length-Y.length):=by simp;omega
     have n:p=(A.map zx++Y.map zx++X.map zx).length+(p-A.length-X.length-Y.length):=by simp;omega
     have a:p-A.length-X.length-Y.length<(B.map zx).length:=by simp;omega
     conv=>lhs;rw [m,zG a]
     conv=>rhs;rw [n,zG a]
     rw [zp];refine zs λj i=>?_
     simp only [Function.comp,dN,zm,zj];rw [aI (by omega),aI (by omega),aI (by omega)];omega
 refine ⟨?_,?_,?_,?_,?_,k.fresh,k.once,?_⟩
 ·simp only [zk];exact ((w.append u).append r).append E
 ·intro p t d o;rw [v] at d;exact k.var _ t d o
 ·intro p t d o;have H:p<A.length+Y.length+X.length+B.length:=by
   have:=(zz.1 d).1;rwa [D] at this
  rw [v] at d;have:=k.name _ t d o;rw [F p H,zp] at this;exact this
 ·intro p c s t d a J N e;rw [v] at d a;exact aXi _ _ _ (k.inj _ _ s t d a J N e)
 ·intro O I;obtain ⟨c,a,e⟩:=k.onto O I;obtain ⟨p,b,l⟩:=G c (by simpa [Nat.add_assoc] using a);exact ⟨p,by rw [D];exact l,by rw [b];exact e⟩
 ·intro p t d o;rw [v] at d;exact k.num _ t d o
end
