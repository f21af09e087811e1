import Derived.Test.YtbpiopdphigodaaGreatDoorGPureP
open Bool renaming and_eq_true→zs
open List renaming length_append→zz,flatMap_cons→zy,length_cons→zx,nil_append→zw,append_assoc→zv,getElem?_eq_getElem→zu,getElem?_eq_some_iff→zt,cons_append→zr,length_nil→zq,all_eq_true→zp,getElem_mem→zo,take_succ_eq_append_getElem→zn,mem_cons→zm,take_append_drop→zl,getElem?_append_left→zk,getElem_of_mem→zj,drop_eq_nil_of_le→zi,mem_flatMap→zh,append_nil→zf,drop_eq_getElem_cons→ze,length_take→zd,length_drop→zc,take_of_length_le→za,length_map→z0,length_singleton→z1,drop_append→z5,take_length→z7,range→z8
open Nat renaming add_assoc→zg,succ_ne_zero→zb,le_refl→z2,eq_zero_or_pos→z4
open Or renaming inl→z3,inr→z6
namespace Go.Proofs.YtbpiopdphigodaaGreatDoor
open Go.RowKit
set_option maxRecDepth 100000
variable{n:ByteArray}{F l:List ByteArray}
inductive Tr where
 |v (n:Int)
 |f (nm:ByteArray) (us:List Tr)
mutual
def iX:Tr->List Nd
 | .v n=>[(⟨#[]⟩,n)]
 | .f nm us=>(nm,(us.length:Int))::gY us
def gY:List Tr->List Nd
 |[]=>[]
 |t::r=>iX t++gY r
end
mutual
def uH:Tr->Prop
 | .v n=>0<=n/\n<60
 | .f nm us=>dL nm=true/\us.length<=5/\oK us
def oK:List Tr->Prop
 |[]=>True
 |t::r=>uH t/\oK r
end
mutual
def fZ:Tr->List UInt8
 | .v n=>88::jA n.toNat
 | .f nm us=>gB nm.data.toList++(fT true us++(if us.length=0 then [] else [41]))
def fT:Bool->List Tr->List UInt8
 |_,[]=>[]
 |b,t::r=>(if b then [40] else [44,32])++(fZ t++fT false r)
end
def vW(a:Int):ByteArray:=⟨(88::jA a.toNat).toArray⟩
mutual
def gZ:Tr->List TT
 | .v n=>[(118,vW n)]
 | .f nm us=>(110,nm)::(jU true us++(if us.length=0 then [] else [(41,dS)]))
def jU:Bool->List Tr->List TT
 |_,[]=>[]
 |b,t::r=>(if b then (40,dS) else (44,dS))::(gZ t++jU false r)
end
theorem aGn:∀(b a:List Tr),gY (b++a)=gY b++gY a
 |[],a=>rfl
 |t::b,a=>by simp [gY,aGn b a]
theorem aGo:∀(b a:List Tr),oK (b++a)↔oK b/\oK a
 |[],a=>by simp [oK]
 |t::b,a=>by simp [oK,aGo b a,and_assoc]
theorem aGp:∀(i:List Nd) (d:Nat),aN i d=true->∃a:List Tr,a.length=d/\gY a=i/\oK a
 |[],d,h=>by
  simp [aN] at h;subst h;exact ⟨[],rfl,rfl,trivial⟩
 |n::r,d,h=>by
  rw [aN] at h;split at h
  ·cases h
  ·rename_i l;split at h
   ·rename_i b;obtain ⟨a,j,f,g⟩:=aGp r _ h;unfold dE at b;split at b
    ·rename_i c;simp only [zs,decide_eq_true_eq] at b;have e:aX n=0:=nL c;rw [e] at j;refine ⟨.v n.2::a,by simp;omega,?_,⟨b,g⟩⟩;show (⟨#[]⟩,n.2)::gY a=n::r;rw [f,show ((⟨#[]⟩,n.2):Nd)=n from Prod.ext (vV c).symm rfl]
    ·rename_i c;simp only [zs,decide_eq_true_eq] at b;have e:aX n=n.2.toNat:=by unfold aX;rw [aF c]
     have k:(a.take (aX n)).length=aX n:=by rw [zd];omega
     refine ⟨.f n.1 (a.take (aX n))::a.drop (aX n),by simp;omega,?_,?_⟩
     ·simp only [gY,iX,zr];rw [<-aGn,zl,f,k,e];congr 1
      exact Prod.ext rfl (by simp;omega)
     ·have:=(aGo (a.take (aX n)) (a.drop (aX n))).1 (by rw [zl];exact g);exact ⟨⟨b.1,by omega,this.1⟩,this.2⟩
   ·cases h
def eF(s:ByteArray)(q:Nat)(c:List UInt8):Prop:=∃a b,s.data.toList=a++c++b/\a.length=q
section
variable {s:ByteArray}{q:Nat}{x y:List UInt8}
theorem eF.left(a:eF s q (x++y)):eF s q x:=by obtain ⟨b,B,c,a⟩:=a;exact ⟨b,y++B,by simp [c],a⟩
theorem eF.right(a:eF s q (x++y)):eF s (q+x.length) y:=by obtain ⟨b,c,d,a⟩:=a;exact ⟨b++x,c,by simp [d],by simp [a]⟩
theorem eF.le(a:eF s q x):q+x.length<=s.size:=by obtain ⟨c,d,b,a⟩:=a;rw [dR,b];simp;omega
theorem eF.at(a:eF s q x)(k:Nat)(c:k<x.length):s.data.toList[q+k]?=x[k]?:=by
 obtain ⟨b,B,e,a⟩:=a;rw [e,zv,List.getElem?_append_right (by omega),zk (by omega)];congr 1
 omega
theorem eF.byte(d:eF s q x)(a:Nat){b:UInt8}(c:x[a]?=some b):aE s (q+a)=b.toNat:=by rw [sQ,d.at a (zt.1 c).1,c];rfl
theorem eF.byte0{a:UInt8}{c:List UInt8}(b:eF s q (a::c)):aE s q=a.toNat:=b.byte 0 rfl
theorem eF.cut(d:eF s q x)(a b:Nat)(g:a+b<=x.length):(s.extract (q+a) (q+a+b)).data.toList=(x.drop a).take b:=by obtain ⟨c,f,e,d⟩:=d;rw [ByteArray.data_extract,Array.toList_extract,List.extract_eq_take_drop,e,zv,z5,z5,zi (show c.length<=q+a by omega),zw,show q+a-c.length=a by omega,List.take_append,show q+a+b-(q+a)-(List.drop a x).length=0 by rw [zc];omega];simp
theorem vT{a b:ByteArray}(c:a.data.toList=b.data.toList):a=b:=ByteArray.ext (Array.toList_inj.1 c)
theorem aGq(d:eF s q x)(o:0<x.length)(t:x.length<=20)(g:∀b,x[0]?=some b->(dO b.toNat || dP b.toNat)=true)(j:∀b∈x,cO b.toNat=true)(p:q+x.length<s.size)(k:cO (aE s (q+x.length))=false):gI s q (q+x.length) [(if dP (x.headD 0).toNat then 118 else 110,⟨x.toArray⟩)]:=by
 have l:∀a,a<=x.length->dV s (q+x.length-a)=q+x.length:=by
  intro a;induction a with
  |zero=>intro _;rw [Nat.sub_zero];exact aIa (by rw [k];simp)
  |succ a ih=>
   intro v;have c:∃b,x[x.length-(a+1)]?=some b:=⟨x[x.length-(a+1)]'(by omega),zu (by omega)⟩;obtain ⟨b,c⟩:=c;have f:q+x.length-(a+1)=q+(x.length-(a+1)):=by omega
   rw [f,wF (by omega) (by rw [d.byte _ c];exact j b (List.mem_of_getElem? c)),show q+(x.length-(a+1))+1=q+x.length-a by omega];exact ih (by omega)
 have m:dV s q=q+x.length:=by have:=l x.length (z2 _);rwa [show q+x.length-x.length=q by omega] at this
 match x,o with
 |b::r,_=>
  have c:=d.byte0;have e:=g b rfl;have i:s.extract q (q+(b::r).length)=⟨(b::r).toArray⟩:=vT (by
   have:=d.cut 0 (b::r).length (by omega);simpa using this)
  have n:dH s q=.tok ⟨if dP b.toNat then 118 else 110,⟨(b::r).toArray⟩,q⟩ (q+(b::r).length):=by unfold dH;rw [c,aG e,m,aF (by omega),i]
  have u:65<=b.toNat/\b.toNat<=122:=by simp [dO,dP] at e;omega
  exact xW (by simp at p;omega) (by rw [c];unfold lG;simp;omega) (by rw [c];omega) n (by omega) (by simp)
theorem aRk(b:ByteArray)(i:∀g,g<b.size->aE b g<128):∀e a d,b.size-a<=e->a<=b.size->eY b e a d=true->b.size-a+d<=20:=by
 intro e;induction e with
 |zero=>
  intro a d l m c;rw [sH b 0 a d (by omega)] at c;simp at c;omega
 |succ e ih=>
  intro a d l m c;by_cases f:a<b.size
  ·have k:bB b a=1:=by
    have j:=i a f;have:cM (aE b a)=1:=by unfold cM;rw [aG j]
    rw [pY b a (by rw [this];omega),this]
   rw [eY,aG f] at c;split at c
   ·cases c
   ·rw [k] at c;have:=ih (a+1) (d+1) (by omega) (by omega) c;omega
  ·rw [sH b _ a d f] at c;simp at c;omega
theorem aRl{e c:Nat}(a:bB n e=c)(g:c≠0)(f:∀b,b<c->aE s (q+b)=aE n (e+b))(l:q+c<=s.size):bB s q=c:=by
 have k:aE s q=aE n e:=by have:=f 0 (by omega);simpa using this
 unfold bB at a ⊢;simp only at a ⊢;rw [k];generalize hsz:cM (aE n e)=t at a ⊢;by_cases i:t<=1
 ·rw [aG i] at a ⊢;exact a
 ·rw [aF i] at a ⊢;split at a
  ·exact absurd a.symm g
  ·split at a
   ·rename_i _ d;subst a;rw [aF (by omega),aG];rw [zs] at d ⊢;refine ⟨?_,?_⟩
    ·rw [zp] at d ⊢;intro b j;have:=d.1 b j;rw [f b (by simpa using j)];exact this
    ·rw [f 1 (by omega)];exact d.2
   ·exact absurd a.symm g
theorem aRm{c d:Nat}(a:bB n c=d)(e:d≠0)(l:c<n.size):c+d<=n.size/\∀b,0<b->b<d->128<=aE n (c+b):=by
 unfold bB at a;simp only at a;generalize hsz:cM (aE n c)=t at a;by_cases f:t<=1
 ·rw [aG f] at a;exact ⟨by omega,λb j i=>by omega⟩
 ·rw [aF f] at a;split at a
  ·exact absurd a.symm e
  ·split at a
   ·rename_i k g;subst a;rw [zs,zp] at g;refine ⟨by omega,λb j i=>?_⟩;have:=g.1 b (by simpa using i);simp [lO] at this;omega
   ·exact absurd a.symm e
theorem aRn(a0:dL n=true):∀(k a i:Nat),n.size-a<=k->a<=n.size->eY n k a i=true->∀(d q:Nat),n.size-a<d->eF s q ((n.data.toList.drop a).flatMap dU++[39])->∀j:ByteArray,j.data.toList=n.data.toList.take a->eO s d j q=some (n,q+((n.data.toList.drop a).flatMap dU).length+1):=by
 intro k;induction k with
 |zero=>
  intro a i Y O _ d q M c j o;obtain ⟨d,rfl⟩ : ∃z,d=z+1:=⟨d-1,by omega⟩;have G:n.data.toList.length<=a:=by rw [<-dR];omega
  rw [zi G,List.flatMap_nil,zw] at c;rw [za G] at o;have f:j=n:=vT o;subst f;have m:=c.le;rw [eO,aG (by simp at m;omega),aG (show aE s q=39 from c.byte0),aG a0,zi G];rfl
 |succ k ih=>
  intro a i Y O g d q M c j o;obtain ⟨d,rfl⟩ : ∃z,d=z+1:=⟨d-1,by omega⟩;by_cases m:a<n.size
  ·have E:a<n.data.toList.length:=by rw [<-dR];exact m
   rw [eY,aG m] at g;split at g
   ·cases g
   ·rename_i v;have X:n.data.toList.drop a=n.data.toList[a]::n.data.toList.drop (a+1):=ze E;have C:aE n a=(n.data.toList[a]).toNat:=by rw [sQ,zu E];rfl
    by_cases u:(n.data.toList[a]).toNat=39\/(n.data.toList[a]).toNat=92
    ·have a2:bB n a=1:=by
      have:cM (aE n a)=1:=by rw [C];unfold cM;rw [aG (by omega)]
      rw [pY n a (by rw [this];omega),this]
     rw [a2] at g;rw [X,zy,show dU n.data.toList[a]=[92,n.data.toList[a]] by unfold dU;rw [aG u]] at c ⊢;rw [zv] at c;have t:=c.right;have w:=c.le;simp at w;have Q:aE s q=92:=c.byte0;have R:aE s (q+1)=(n.data.toList[a]).toNat:=c.byte 1 rfl;have H:(s.extract (q+1) (q+1+1)).data.toList=[n.data.toList[a]]:=by have:=c.cut 1 1 (by simp);simpa using this
     rw [eO,aG (by omega),Q,aF (by omega),aG rfl,aG ⟨by omega,by rw [R];exact u⟩];have:=ih (a+1) (i+1) (by omega) (by omega) g d (q+2) (by omega) t (j++s.extract (q+1) (q+2)) (by rw [yT,o,H,zn E]);rw [this];simp;omega
    ·obtain ⟨b,I⟩ : ∃b,bB n a=b:=⟨_,rfl⟩;rw [I] at g v;have J:b≠0:=λf=>v (z3 f)
     have a3:aE n a≠10:=λf=>v (z6 f)
     have P:=aRm I J m;have a1:(n.data.toList.drop a).flatMap dU=(n.data.toList.drop a).take b++(n.data.toList.drop (a+b)).flatMap dU:=by
      have T:n.data.toList.drop a=(n.data.toList.drop a).take b++n.data.toList.drop (a+b):=by rw [<-List.drop_drop,zl]
      conv=>lhs;rw [T,List.flatMap_append]
      congr 1
      have:∀p∈(n.data.toList.drop a).take b,dU p=[p]:=by
       intro p U;obtain ⟨e,D,rfl⟩:=zj U;rw [zd,zc] at D;rw [List.getElem_take,List.getElem_drop];unfold dU;rw [aF];rcases z4 e with rfl|hp0
       ·exact u
       ·have a4:=P.2 e hp0 (by omega);have a5:aE n (a+e)=(n.data.toList[a+e]'(by omega)).toNat:=by rw [sQ,zu (by omega)];rfl
        omega
      generalize (n.data.toList.drop a).take b=l at this;induction l with
      |nil=>rfl
      |cons p r ihr=>rw [zy,this p (by simp),ihr λS V=>this S (by simp [V])];rfl
     rw [a1] at c ⊢;have F:((n.data.toList.drop a).take b).length=b:=by rw [zd,zc,<-dR];omega
     rw [zv] at c;have A:=c.left;have t:=c.right;rw [F] at t;have w:=A.le;rw [F] at w;have Z:=t.le;simp at Z;have L:∀e,e<b->aE s (q+e)=aE n (a+e):=λe D=>by
      have N:a+e<n.data.toList.length:=by rw [<-dR];omega
      rw [A.byte e (b:=n.data.toList[a+e]) (by rw [List.getElem?_take_of_lt D,List.getElem?_drop,zu N]),sQ,zu N];rfl
     have B:aE s q=(n.data.toList[a]).toNat:=by have:=L 0 (by omega);simpa [C] using this
     have W:=aRl I J L w;have H:(s.extract q (q+b)).data.toList=(n.data.toList.drop a).take b:=by have:=A.cut 0 b (by omega);rw [List.drop_zero,za (by omega)] at this;simpa using this
     rw [eO,aG (by omega),aF (by rw [B];exact λf=>u (z3 f)),aF (by rw [B];exact λf=>u (z6 f)),W,aF (by rw [B,<-C];exact λf=>v f)];have:=ih (a+b) (i+1) (by omega) P.1 g d (q+b) (by omega) t (j++s.extract q (q+b)) (by rw [yT,o,H,<-zl a (n.data.toList.take (a+b)),List.take_take,Nat.min_eq_left (by omega),List.drop_take,show a+b-a=b by omega]);rw [this];simp [F];omega
  ·exact ih a i (by omega) O (by rw [sH n k a i m];rw [sH n (k+1) a i m] at g;exact g) (d+1) q M c j o
end
section
variable {s:ByteArray}{q:Nat}
theorem aRo{a:UInt8}(b:cO a.toNat=true):a.toNat<128:=by simp [cO,dO,dP,pJ] at b;omega
theorem aRp(a:List UInt8):a.length<=(a.flatMap dU).length:=by
 induction a with
 |nil=>simp
 |cons x r ih=>
  have:1<=(dU x).length:=by unfold dU;split<;>simp
  simp only [zy,zz,zx];omega
theorem aRq(a:ByteArray):(⟨a.data.toList.toArray⟩ : ByteArray)=a:=vT (by simp)
theorem aGr{a:ByteArray}(i:dL a=true)(d:eF s q (gB a.data.toList))(g:q+(gB a.data.toList).length<s.size)(k:cO (aE s (q+(gB a.data.toList).length))=false):gI s q (q+(gB a.data.toList).length) [(110,a)]:=by
 obtain ⟨m,y⟩:=uR a i;rw [dR] at m;unfold gB at d g k ⊢;by_cases b:oP a.data.toList=true
 ·rw [aG b] at d g k ⊢;unfold oP at b;rw [zs,zp] at b;have t:∀l,l<a.size->aE a l<128:=λl o=>by
   rw [sQ,zu (by simpa using o)];exact aRo (b.2 _ (zo _))
  have z:=aRk a t a.size 0 0 (by omega) (by omega) i;have n:∀f,a.data.toList[0]?=some f->a.data.toList.headD 0=f:=λf e=>by
   cases hl:a.data.toList with
   |nil=>rw [hl] at e;simp at e
   |cons c r=>rw [hl] at e;simpa using e
  have v:dP (a.data.toList.headD 0).toNat=false:=by have:=b.1;simp [dO] at this;simp [dP];omega
  have:=aGq d m (by rw [<-dR];omega) (λf e=>by rw [<-n f e,b.1];rfl) b.2 g k;rw [v,aRq] at this;exact this
 ·rw [aF b] at d g ⊢;have j:aE s q=39:=d.byte0;have w:eF s (q+1) ((a.data.toList.drop 0).flatMap dU++[39]):=by
   have:eF s q ([39]++((a.data.toList.drop 0).flatMap dU++[39])):=d;exact this.right
  have A:=aRp a.data.toList;have p:(39::(a.data.toList.flatMap dU++[39])).length=(a.data.toList.flatMap dU).length+2:=by simp
  rw [p] at g ⊢;have u:mA s q=some (a,q+1+(a.data.toList.flatMap dU).length+1):=by unfold mA;have:=aRn i a.size 0 0 (by omega) (by omega) i s.size (q+1) (by rw [dR a];omega) w ⟨#[]⟩ (by simp);simpa using this
  have x:dH s q=.tok ⟨110,a,q⟩ (q+1+(a.data.toList.flatMap dU).length+1):=by unfold dH;rw [j,aF (by decide),aG rfl,u]
  have:=xW (by omega) (by rw [j];rfl) (by rw [j];decide) x (by omega) (by omega);rw [show q+((a.data.toList.flatMap dU).length+2)=q+1+(a.data.toList.flatMap dU).length+1 by omega];exact this
theorem aRr:((z8 60).all λb=>(jA b).all λa=>cO a.toNat)=true:=by kernel_rfl
theorem aRs(a:Nat):1<=(jA a).length/\(jA a).length<=2:=by unfold jA;split<;>simp
theorem aRt{a:Int}(i:0<=a/\a<60)(e:eF s q (88::jA a.toNat))(g:q+(88::jA a.toNat).length<s.size)(f:cO (aE s (q+(88::jA a.toNat).length))=false):gI s q (q+(88::jA a.toNat).length) [(118,vW a)]:=by
 have c:=aRr;rw [zp] at c;have d:=c a.toNat (by rw [List.mem_range];omega);rw [zp] at d;have j:=aRs a.toNat;exact aGq e (by simp) (by simp;omega) (λb hb=>by simp at hb;subst hb;rfl) (λb hb=>by
  rcases zm.1 hb with rfl|hb
  ·rfl
  ·exact d b hb) g f
mutual
theorem aGs:∀(a:Tr) (q:Nat),uH a->eF s q (fZ a)->q+(fZ a).length<s.size->cO (aE s (q+(fZ a).length))=false->gI s q (q+(fZ a).length) (gZ a)
 | .v n,q,hk,h,hz,hni=>by
  simp only [fZ] at h hz hni ⊢;exact aRt hk h hz hni
 | .f nm us,q,hk,h,hz,hni=>by
  simp only [fZ] at h hz hni ⊢;simp only [gZ];obtain ⟨d,_,i⟩:=hk;cases us with
  |nil=>
   simp only [fT,zq,if_true,zf] at h hz hni ⊢;simp only [jU];exact aGr d h hz hni
  |cons a r=>
   simp only [zx,aF (zb _)] at h hz hni ⊢;have b:eF s (q+(gB nm.data.toList).length) (fT true (a::r)++[41]):=h.right;have f:aE s (q+(gB nm.data.toList).length)=40:=by
    have:eF s (q+(gB nm.data.toList).length) (40::((fZ a++fT false r)++[41])):=by simpa [fT] using b
    exact this.byte0
   have g:=b.le;simp only [zz,zx,zq] at g;have j:=aGr d h.left (by omega) (by rw [f];rfl);have k:=aGt (a::r) true _ i b;have e:=b.right;have l:=tV (s:=s) (q:=q+(gB nm.data.toList).length+(fT true (a::r)).length) (c:=41) (by omega) e.byte0 rfl;have:=(j.trans k).trans l;simp only [zz,zx,zq];rw [show q+((gB nm.data.toList).length+((fT true (a::r)).length+(0+1)))=q+(gB nm.data.toList).length+(fT true (a::r)).length+1 by omega];simpa using this
theorem aGt:∀(f:List Tr) (a:Bool) (q:Nat),oK f->eF s q (fT a f++[41])->gI s q (q+(fT a f).length) (jU a f)
 |[],a,q,_,h=>by
  simp only [fT,jU,zq];exact vH
 |t::r,a,q,hk,h=>by
  simp only [fT] at h ⊢;simp only [jU];obtain ⟨l,m⟩:=hk;rw [zv,zv] at h;have k:gI s q (q+(if a=true then [40] else [44,32]:List UInt8).length) [if a=true then (40,dS) else (44,dS)]:=by
   have e:=h.left;have b:=e.le;cases a with
   |true=>exact tV (by simp at b;omega) e.byte0 rfl
   |false=>
    have n:=tV (s:=s) (q:=q) (c:=44) (by simp at b;omega) e.byte0 rfl;have g:=xV (s:=s) (q:=q+1) (by simp at b;omega) (by rw [show aE s (q+1)=32 from e.byte 1 rfl];rfl);exact n.trans g
  have i:=h.right;have d:=i.right;have b:=d.le;simp only [zz,zx,zq] at b;have j:cO (aE s (q+(if a=true then [40] else [44,32]:List UInt8).length+(fZ t).length))=false:=by
   cases r with
   |nil=>
    simp only [fT,zw] at d;rw [d.byte0];rfl
   |cons u r=>
    have:eF s (q+(if a=true then [40] else [44,32]:List UInt8).length+(fZ t).length) (44::(32::((fZ u++fT false r)++[41]))):=by simpa [fT] using d
    rw [this.byte0];rfl
  have g:=aGs t _ l i.left (by omega) j;have o:=aGt r false _ m d;have:=(k.trans g).trans o;simp only [zz];rw [show q+((if a=true then [40] else [44,32]:List UInt8).length+((fZ t).length+(fT false r).length))=q+(if a=true then [40] else [44,32]:List UInt8).length+(fZ t).length+(fT false r).length by omega];simpa using this
end
end
theorem yP(a:Int):aM (⟨#[]⟩,a)=true:=by simp [aM]
theorem aRu{c:ByteArray}(a:jD l c<0):c∉l:=by
 have f:∀b:List ByteArray,oQ b c<0->c∉b:=by
  intro b;induction b with
  |nil=>intro _;simp
  |cons y r ih=>
   intro a;unfold oQ at a;split at a
   ·omega
   ·rename_i e;simp only [zm,not_or];exact ⟨λd=>e d.symm,ih a⟩
 have:=f l.reverse a;simpa using this
theorem aRv{b:ByteArray}(a:¬jD l b<0):l[(jD l b).toNat]?=some b:=by
 have e:∀c:List ByteArray,¬oQ c b<0->c.reverse[(oQ c b).toNat]?=some b:=by
  intro c;induction c with
  |nil=>intro a;simp [oQ] at a
  |cons y r ih=>
   intro a;rw [List.reverse_cons];unfold oQ at a ⊢;split
   ·rename_i d;subst d;simp
   ·rename_i d;rw [aF d] at a;have:=ih a;rw [zk (zt.1 this).1];exact this
 have:=e l.reverse a;rwa [List.reverse_reverse] at this
theorem aRw(a:ByteArray)(e:l.Nodup):(kN l a).Nodup/\(∃j,kN l a=l++j)/\0<=jN l a/\(kN l a)[(jN l a).toNat]?=some a/\∀b∈kN l a,b∈l\/b=a:=by
 unfold kN jN;split
 ·rename_i c;have i:=aRu c;refine ⟨?_,⟨_,rfl⟩,by omega,by simp,λb d=>by simpa using d⟩;rw [List.nodup_append];refine ⟨e,by simp,λk g m f=>?_⟩;simp at f;subst f;rintro rfl;exact i g
 ·rename_i c;exact ⟨e,⟨[],by simp⟩,by omega,aRv c,λb d=>z3 d⟩
def VT(d:List ByteArray)(a e:Int):Prop:=∃c b:Nat,a=c/\b<60/\d[c]?=some (vW b)/\e=b
theorem VT.mono(m:List ByteArray){a b:Int}(d:VT F a b):VT (F++m) a b:=by obtain ⟨k,n,rfl,e,c,rfl⟩:=d;exact ⟨k,n,rfl,e,by rw [zk (zt.1 c).1];exact c,rfl⟩
theorem aRx:((z8 60).all λb=>(z8 60).all λa=>decide (jA b=jA a->b=a))=true:=by kernel_rfl
theorem aRy{b a:Nat}(f:b<60)(e:a<60)(d:vW b=vW a):b=a:=by have:=aRx;rw [zp] at this;have:=this b (by simpa using f);rw [zp] at this;have:=this a (by simpa using e);refine of_decide_eq_true this ?_;have c:=congrArg (λg=>g.data.toList) d;simpa [vW] using c
theorem VT.pairs(j:F.Nodup):lY (VT F):=by
 rintro a p o q ⟨k,m,rfl,g,c,rfl⟩ ⟨l,n,rfl,i,b,rfl⟩;constructor
 ·intro d;obtain rfl:k=l:=by omega
  rw [c] at b;rw [aRy g i (Option.some.inj b)]
 ·intro d;obtain rfl:m=n:=by omega
  obtain ⟨r,e⟩:=zt.1 c;obtain ⟨s,f⟩:=zt.1 b;rw [(List.getElem_inj j).1 (e.trans f.symm)]
theorem aGu(c:List ByteArray){a b:List Nd}(h:aO (gA (VT F)) a b):aO (gA (VT (F++c))) a b:=by
 induction h with
 |nil=>exact aO.nil
 |cons h _ ih=>
  refine aO.cons ?_ ih;rcases h with ⟨d,e,f,g⟩|h
  ·exact z3 ⟨d,e,f,g.mono c⟩
  ·exact z6 h
theorem aRz{g i:Type}{a:g->i->Prop}{c e:List g}{d f:List i}(b:aO a c d)(j:aO a e f):aO a (c++e) (d++f):=by
 induction b with
 |nil=>exact j
 |cons b _ ih=>exact aO.cons b ih
def aGv(e a:bA)(c b:List Nd):Prop:=a.vars.Nodup/\(∃d,a.vars=e.vars++d)/\aO (gA (VT a.vars)) c b
theorem aC2{a:ByteArray}(b:dL a=true)(c:Int):aM (a,c)=false:=aAu (aAv b)
theorem aGw:∀a:Tr,1<=(gZ a).length
 | .v n=>by simp [gZ]
 | .f nm us=>by simp [gZ]
theorem aGx:∀c:Tr,∃a b,gZ c=a::b/\(a.1=118\/a.1=110)
 | .v n=>⟨_,_,rfl,z3 rfl⟩
 | .f nm us=>⟨_,_,by rw [gZ],z6 rfl⟩
mutual
theorem aC3{i:List Tk}:∀(b:Tr) (f:Nat) (d:Bool) (a:bA) (j:List Nd) (g:List TT),uH b->(d=true->∃k t,b=.f k t)->(gZ b).length<=f->At i a.i (gZ b++g)->aAq g->a.vars.Nodup->∃e m,cB i f d a j=.ok (e,j++m)/\At i e.i g/\aGv a e m (iX b)
 | .v n,f,d,a,j,g,hk,ha,hf,h,_,hv=>by
  obtain ⟨f,rfl⟩ : ∃q,f=q+1:=⟨f-1,by simp [gZ] at hf;omega⟩;have A:d=false:=by
   cases d with
   |false=>rfl
   |true=>
    obtain ⟨_,_,p⟩:=ha rfl;cases p
  simp only [gZ,zr,zw] at h;obtain ⟨o,r,c⟩:=h.hd;rw [cB,aG ⟨o,A⟩,r];obtain ⟨u,v,H,w,_⟩:=aRw (vW n) hv;obtain ⟨s,C⟩:=hk;refine ⟨_,_,rfl,c,u,v,aO.cons (z3 ⟨yP _,yP _,rfl,(jN a.vars (vW n)).toNat,n.toNat,?_,by omega,?_,?_⟩) aO.nil⟩
  ·simp;omega
  ·rw [show ((n.toNat:Nat):Int)=n by omega];exact w
  ·simp;omega
 | .f k t,f,d,a,j,g,hk,_,hf,h,hno,hv=>by
  obtain ⟨f,rfl⟩ : ∃q,f=q+1:=⟨f-1,by simp [gZ] at hf;omega⟩;obtain ⟨s,C,D⟩:=hk;simp only [gZ,zr] at h hf;obtain ⟨o,r,c⟩:=h.hd;rw [cB,aF (by rw [o];simp),aF (by rw [o];simp),r];cases t with
  |nil=>
   simp only [jU,zq,if_true,zf,zw] at c;obtain ⟨I,l,rfl,B⟩:=hno;obtain ⟨x,_,_⟩:=c.hd;rw [aF (by rw [x];exact B)];exact ⟨_,_,rfl,c,hv,⟨[],by simp⟩,aO.cons (z6 ⟨aC2 s _,rfl⟩) aO.nil⟩
  |cons b l=>
   simp only [zx,aF (zb _)] at c hf;have y:(aH i (a.i+1)).kind=40:=by
    have:At i (a.i+1) ((40,dS)::((gZ b++jU false l)++[(41,dS)]++g)):=by simpa [jU] using c
    exact this.hd.1
   rw [aG y];obtain ⟨e,m,p,z,E,F,G⟩:=aGy (b::l) true f ⟨a.i+1,a.vars,a.pz++[(k,d,0,((aH i a.i).pos:Int))]⟩ (j++[(k,0)]) 0 g (by simp) D (by simp only [zz,zx,zq] at hf;omega) (by simpa using c) hv;rw [p];refine ⟨⟨e.i,e.vars,oR e.pz a.pz.length (0+(b::l).length)⟩,(k,((b::l).length:Int))::m,?_,z,E,F,aO.cons (z6 ⟨aC2 s _,rfl⟩) G⟩;simp only [Nat.zero_add];rw [aAs];simp
theorem aGy{i:List Tk}:∀(e:List Tr) (k:Bool) (b:Nat) (a:bA) (c:List Nd) (f:Nat) (d:List TT),e≠[]->oK e->(jU k e).length<b->At i a.i (jU k e++(41,dS)::d)->a.vars.Nodup->∃q x,dW i b a c f=.ok (q,c++x,f+e.length)/\At i q.i d/\aGv a q x (gY e)
 |[],k,b,a,c,f,d,hne,_,_,_,_=>absurd rfl hne
 |t::r,k,b,a,c,f,d,_,hk,hf,h,hv=>by
  obtain ⟨b,rfl⟩ : ∃G,b=G+1:=⟨b-1,by omega⟩;obtain ⟨y,I⟩:=hk;simp only [jU,zx,zz] at hf;simp only [jU,zr,zv] at h;obtain ⟨_,_,o⟩:=h.hd;cases r with
  |nil=>
   simp only [jU,zw] at o;obtain ⟨A,g,n,j,s,⟨p,v⟩,w⟩:=aC3 t b false ⟨a.i+1,a.vars,a.pz⟩ c ((41,dS)::d) y (λm=>by cases m) (by omega) o (xX (by simp)) hv;obtain ⟨l,_,E⟩:=j.hd;rw [dW,n];simp only;rw [aF (by rw [l];simp),aG l];refine ⟨_,g,rfl,E,s,⟨p,v⟩,?_⟩;simpa [gY] using w
  |cons u r=>
   have H:At i (a.i+1) (gZ t++((44,dS)::((gZ u++jU false r)++(41,dS)::d))):=by simpa [jU] using o
   obtain ⟨A,g,n,j,s,⟨p,v⟩,w⟩:=aC3 t b false ⟨a.i+1,a.vars,a.pz⟩ c _ y (λm=>by cases m) (by omega) H (xX (by simp)) hv;obtain ⟨l,_,_⟩:=j.hd;obtain ⟨J,C,F,D,L,⟨z,B⟩,M⟩:=aGy (u::r) false b A (c++g) (f+1) d (by simp) I (by have:=aGw t;omega) (by simpa [jU] using j) s;rw [dW,n];simp only;rw [aG l,F];refine ⟨J,g++C,by simp;omega,D,L,⟨p++z,by rw [B,v];simp⟩,?_⟩;simp only [gY];refine aRz ?_ M;rw [B];exact aGu z w
end
abbrev Lr:=Bool×Tr
def qI(a:Lr):Prop:=uH a.2/\∃b c,a.2=.f b c
def nJ(a:Lr):Lt:=(a.1,iX a.2)
def oL(a:Lr):List TT:=(if a.1 then [(126,dS)] else [])++gZ a.2
def jV:List Lr->List TT
 |[]=>[]
 |[x]=>oL x
 |x::y::r=>oL x++(124,dS)::jV (y::r)
def oM(a:List Lr):List TT:=(match a with|[]=>[(102,dS)]|x::r=>jV (x::r))++[(46,dS)]
def pH(a:List (List Lr)):List TT:=a.flatMap oM++[(101,dS)]
theorem aGz{d:List Tk}:∀(j:List Lr) (f:Nat) (b:bA) (k:List Lt) (e:List TT),(∀x∈j,qI x)->j≠[]->j.length<=f->b.vars.Nodup->At d b.i (jV j++(46,dS)::e)->∃i l,fN d f b k=.ok (i,k++l)/\At d i.i ((46,dS)::e)/\i.vars.Nodup/\(∃S,i.vars=b.vars++S)/\aO (iH (VT i.vars)) l (j.map nJ)
 |[],f,b,k,e,_,h,_,_,_=>absurd rfl h
 |x::r,f,b,k,e,hk,_,hf,hv,h=>by
  obtain ⟨f,rfl⟩ : ∃E,f=E+1:=⟨f-1,by simp at hf;omega⟩;obtain ⟨Q,R⟩:=hk x (by simp);obtain ⟨g,N,J,O⟩ : ∃g,jV (x::r)++(46,dS)::e=oL x++g/\aAq g/\((r=[]/\g=(46,dS)::e)\/(r≠[]/\g=(124,dS)::(jV r++(46,dS)::e))):=by
   cases r with
   |nil=>exact ⟨_,rfl,xX (by simp),z3 ⟨rfl,rfl⟩⟩
   |cons s r=>exact ⟨(124,dS)::(jV (s::r)++(46,dS)::e),by simp [jV],xX (by simp),z6 ⟨by simp,rfl⟩⟩
  rw [N] at h;have G:(gZ x.2).length<=d.length+1:=by have c:=h.len;unfold oL at c;simp only [zz] at c;omega
  obtain ⟨m,M,H,I⟩ : ∃m,(if (aH d b.i).kind=126 then b.i+1 else b.i)=m/\decide ((aH d b.i).kind=126)=x.1/\At d m (gZ x.2++g):=by
   unfold oL at h;cases hn:x.1 with
   |true=>
    rw [hn] at h;obtain ⟨c,_,o⟩:=At.hd (a:=(126,dS)) h;simp only at c;exact ⟨b.i+1,by rw [aG c],by simp [c],o⟩
   |false=>
    rw [hn] at h;have u:At d b.i (gZ x.2++g):=h;obtain ⟨a,W,n,V⟩:=aGx x.2;have v:=u;rw [n] at v;have c:=(At.hd (a:=a) v).1;exact ⟨b.i,by rw [aF (by rw [c];omega)],by rw [decide_eq_false_iff_not];omega,u⟩
  obtain ⟨q,t,n,p,z,⟨w,A⟩,B⟩:=aC3 x.2 (d.length+1) true ⟨m,b.vars,b.pz⟩ [] g Q (λ_=>R) G I J hv;rw [fN,M,n,H];simp only [zw];rcases O with ⟨rfl,rfl⟩|⟨L,rfl⟩
  ·obtain ⟨c,_,_⟩:=p.hd;rw [aF (by rw [c];simp)];exact ⟨_,_,rfl,p,z,⟨w,A⟩,aO.cons ⟨rfl,B⟩ aO.nil⟩
  ·obtain ⟨c,_,o⟩:=p.hd;rw [aG c];obtain ⟨i,l,D,F,T,⟨y,C⟩,U⟩:=aGz r f ⟨q.i+1,q.vars,q.pz⟩ (k++[(x.1,t)]) e (λs P=>hk s (by simp [P])) L (by simp at hf;omega) z o;refine ⟨i,(x.1,t)::l,?_,F,T,⟨w++y,by rw [C];simp only;rw [A];simp⟩,aO.cons ⟨rfl,?_⟩ U⟩
   ·rw [D];simp
   ·rw [C];exact aGu y B
theorem aS0(b:Lr):∃a e,oL b=a::e/\a.1≠102/\a.1≠101:=by
 unfold oL;cases b.1 with
 |true=>exact ⟨_,_,rfl,by simp,by simp⟩
 |false=>
  obtain ⟨a,d,c,f⟩:=aGx b.2;exact ⟨a,d,by simpa using c,by omega,by omega⟩
theorem aH0(f:Lr)(b:List Lr)(g:List TT):∃a e,jV (f::b)++g=a::e/\a.1≠102/\a.1≠101:=by
 obtain ⟨a,e,c,d⟩:=aS0 f;cases b with
 |nil=>exact ⟨a,_,by simp only [jV,c,zr];rfl,d⟩
 |cons y b=>exact ⟨a,_,by simp only [jV,c,zr];rfl,d⟩
theorem aH1{e:Int->Int->Prop}{a d:List Nd}(c:aO (gA e) a d):∀b,gW b a=gW b d:=by
 induction c with
 |nil=>intro b;rfl
 |cons c _ ih=>
  intro b;simp only [gW];rw [ih];congr 1
  rcases c with ⟨f,g,_⟩|⟨_,rfl⟩
  ·unfold lD;rw [aG f,aG g]
  ·rfl
theorem aS1{d:Int->Int->Prop}{a c:List Lt}(b:aO (iH d) a c):eJ a=eJ c:=by
 rw [sS,sS];induction b with
 |nil=>rfl
 |cons b _ ih=>rw [zy,zy,ih,aH1 b.2]
theorem aS2{d:List Tk}{c:List Lr}{e:bA}{g:List TT}(t:∀i∈c,qI i)(u:c.length<=d.length+1)(b:At d e.i (oM c++g)):∃n f,jE d e=.ok (n,f)/\At d n.i g/\aT f=aT (c.map nJ)/\eJ f=eJ (c.map nJ):=by
 unfold oM at b;cases c with
 |nil=>
  obtain ⟨k,_,l⟩:=At.hd (a:=(102,dS)) b;obtain ⟨m,_,q⟩:=At.hd (a:=(46,dS)) l;rw [jE,jO,aG k];simp only;rw [aG m];exact ⟨_,_,rfl,q,rfl,rfl⟩
 |cons i r=>
  rw [zv] at b;have p:(aH d e.i).kind≠102:=by obtain ⟨a,w,j,s,_⟩:=aH0 i r ([(46,dS)]++g);simp only at b;rw [j] at b;rw [b.hd.1];exact s
  obtain ⟨n,f,j,k,v,_,o⟩:=aGz (i::r) (d.length+1) ⟨e.i,[],e.pz⟩ [] g t (by simp) u (by simp) b;rw [jE,jO,aF p,j];simp only [zw];obtain ⟨l,_,m⟩:=k.hd;rw [aG l];exact ⟨_,_,rfl,m,aC8 (VT.pairs v) o,aS1 o⟩
theorem aH2{T:List Tk}:∀(e:List (List Lr)) (b:Nat) (c:bA) (f:List (Nat×List Lt)),(∀L∈e,L.length<=T.length+1/\∀p∈L,qI p)->e.length<b->At T c.i (pH e)->∃o d,fU T b c f=.ok (o,f++d)/\d.map (λn=>aT n.2)=(e.map λL=>aT (L.map nJ))/\(d.flatMap λn=>eJ n.2)=e.flatMap λL=>eJ (L.map nJ)
 |[],b,c,f,_,hf,h=>by
  obtain ⟨b,rfl⟩ : ∃j,b=j+1:=⟨b-1,by simp at hf;omega⟩;obtain ⟨l,_,_⟩:=At.hd (a:=(101,dS)) h;rw [fU,aG l];exact ⟨c,[],by simp,rfl,rfl⟩
 |L::r,b,c,f,hk,hf,h=>by
  obtain ⟨b,rfl⟩ : ∃j,b=j+1:=⟨b-1,by simp at hf;omega⟩;have k:At T c.i (oM L++pH r):=by unfold pH at h ⊢;rw [zy,zv] at h;exact h
  have v:(aH T c.i).kind≠101:=by
   have:∃a g,oM L++pH r=a::g/\a.1≠101:=by
    unfold oM;cases L with
    |nil=>exact ⟨(102,dS),_,rfl,by simp⟩
    |cons p r'=>
     obtain ⟨a,g,i,_,m⟩:=aH0 p r' ([(46,dS)]++pH r);exact ⟨a,g,by simp only [zv];exact i,m⟩
   obtain ⟨a,g,i,m⟩:=this;rw [i] at k;rw [k.hd.1];exact m
  obtain ⟨B,q,t,l,z,A⟩:=aS2 (hk L (by simp)).2 (hk L (by simp)).1 k;obtain ⟨o,d,u,w,x⟩:=aH2 r b B (f++[((aH T c.i).pos,q)]) (λs y=>hk s (by simp [y])) (by simp at hf;omega) l;rw [fU,aF v,t];simp only;rw [u];exact ⟨o,((aH T c.i).pos,q)::d,by simp,by simp [w,z],by rw [zy,zy,x,A]⟩
theorem aH3(c:Tr):∀(b:List Tr) (a:Bool),fT a (b++[c])=fT a b++((if a && b.isEmpty then [40] else [44,32])++fZ c)
 |[],a=>by cases a<;>simp [fT]
 |t::r,a=>by simp [fT,aH3 c r]
theorem aS3{e:Nat}{b:List Tr}(j:∀g∈b,∀c,cE e (iX g++c)=(fZ g,c))(c:List Nd):∀a,a<=b.length->eS (cE e) a (gY b++c)=(fT true (b.take a),gY (b.drop a)++c):=by
 intro a;induction a with
 |zero=>intro _;simp [eS,fT]
 |succ a ih=>
  intro f;have i:gY (b.drop a)++c=iX b[a]++(gY (b.drop (a+1))++c):=by rw [ze (show a<b.length by omega)];simp [gY]
  rw [eS,ih (by omega)];simp only;rw [i,j b[a] (zo _),zn (show a<b.length by omega),aH3];simp only;congr 3
  by_cases d:a=0
  ·subst d;simp
  ·rw [aF d,aF];intro he;simp at he;rcases he with he|he
   ·exact d he
   ·rw [he] at f;simp at f
mutual
theorem aH4:∀(b:Tr) (f:Nat),(iX b).length<=f->uH b->∀a,cE f (iX b++a)=(fZ b,a)
 | .v n,f,hf,hk,a=>by
  obtain ⟨f,rfl⟩ : ∃c,f=c+1:=⟨f-1,by simp [iX] at hf;omega⟩;simp only [iX,zr,zw,cE,fZ];rw [aG (yP n)]
 | .f nm us,f,hf,hk,a=>by
  obtain ⟨f,rfl⟩ : ∃c,f=c+1:=⟨f-1,by simp [iX] at hf;omega⟩;obtain ⟨g,_,i⟩:=hk;simp only [iX,zx] at hf;have e:=aS3 (aH5 us f (by omega) i) a us.length (z2 _);rw [z7,List.drop_length] at e;simp only [iX,zr,cE,fZ];rw [aF (by rw [aC2 g];simp),show ((us.length:Int)).toNat=us.length by simp,e];simp only [gY,zw];congr 3
  by_cases d:us.length=0
  ·rw [aF (by omega),aG d]
  ·rw [aG (by omega),aF d]
theorem aH5:∀(d:List Tr) (a:Nat),(gY d).length<=a->oK d->∀c∈d,∀b,cE a (iX c++b)=(fZ c,b)
 |[],a,_,_,c,hu,b=>by simp at hu
 |t::d,a,hf,hk,c,hu,b=>by
  simp only [gY,zz] at hf;obtain ⟨f,g⟩:=hk;rcases zm.1 hu with e|hu
  ·rw [e];exact aH4 t a (by omega) f b
  ·exact aH5 d a (by omega) g c hu b
end
theorem aS4{d:List Nd}(e:gD d=true):∃a,iX a=d/\uH a/\(∃g i,a=.f g i)/\(cE 60 d).1=fZ a:=by
 unfold gD jI at e;simp only [zs,decide_eq_true_eq] at e;obtain ⟨⟨m,o⟩,c⟩:=e;obtain ⟨p,k,b,l⟩:=aGp d 1 m;match p,k with
 |[a],_=>
  simp only [gY,zf] at b;have j:=l.1;refine ⟨a,b,j,?_,?_⟩
  ·cases a with
   |v n=>
    rw [<-b] at c;simp [iX] at c;rw [yP] at c;cases c
   |f g i=>exact ⟨g,i,rfl⟩
  ·have:=aH4 a 60 (by rw [b];exact o) j [];rw [zf,b] at this;rw [this]
theorem aH6:∀(c:List Lt),(∀l∈c,gD l.2=true)->∃b:List Lr,b.map nJ=c/\(∀a∈b,qI a)/\∀a∈b,(cE 60 (iX a.2)).1=fZ a.2
 |[],_=>⟨[],rfl,λa hx=>by simp at hx,λa hx=>by simp at hx⟩
 |l::c,h=>by
  obtain ⟨o,d,i,j,k⟩:=aS4 (h l (by simp));obtain ⟨b,e,f,g⟩:=aH6 c λn m=>h n (by simp [m])
  refine ⟨(l.1,o)::b,?_,λa hx=>?_,λa hx=>?_⟩
  ·rw [List.map_cons,e];congr 1
   exact Prod.ext rfl d
  ·rcases zm.1 hx with rfl|hx
   ·exact ⟨i,j⟩
   ·exact f a hx
  ·rcases zm.1 hx with rfl|hx
   ·rw [d];exact k
   ·exact g a hx
def oN(a:Lr):List UInt8:=(if a.1 then [126] else [])++fZ a.2
def jW:Bool->List Lr->List UInt8
 |_,[]=>[]
 |b,x::r=>(if b then [] else [32,124,32])++(oN x++jW false r)
theorem aH7(c:Lr):∀(b:List Lr) (a:Bool),jW a (b++[c])=jW a b++((if a && b.isEmpty then [] else [32,124,32])++oN c)
 |[],a=>by cases a<;>simp [jW]
 |y::r,a=>by simp [jW,aH7 c r]
def pI(a:List Lr):List UInt8:=(if a.length=0 then [36,102,97,108,115,101] else jW true a)++[46,10]
theorem aS5{b:List Lr}(f:∀e∈b,(cE 60 (iX e.2)).1=fZ e.2):eR (b.map nJ)=pI b:=by
 have g:∀a,a<=b.length->mI (b.map nJ) a=jW true (b.take a):=by
  intro a;induction a with
  |zero=>intro _;simp [mI,jW]
  |succ a ih=>
   intro d;rw [aAz _ _ (by simp;omega),ih (by omega),zn d,aH7,List.getElem_map];congr 1
   unfold qB oN;rw [show (nJ b[a]).2=iX b[a].2 from rfl,f _ (zo _)];congr 1
   by_cases c:a=0
   ·subst c;simp
   ·rw [aF c,aF];intro he;simp at he;rcases he with he|he
    ·exact c he
    ·rw [he] at d;simp at d
 unfold eR pI;rw [z0,g _ (z2 _),z7]
section
variable {s:ByteArray}
theorem aS6{q:Nat}{a:Lr}(g:qI a)(c:eF s q (oN a))(f:q+(oN a).length<s.size)(d:cO (aE s (q+(oN a).length))=false):gI s q (q+(oN a).length) (oL a):=by
 unfold oN at c f d ⊢;unfold oL;rw [zz,<-zg] at f d ⊢;refine gI.trans ?_ (aGs a.2 _ g.1 c.right f d);have e:=c.left;generalize a.1=b at e ⊢;cases b with
 |true=>exact tV (by have:=e.le;simp at this;omega) e.byte0 rfl
 |false=>exact vH
theorem aS7{q:Nat}(a:eF s q [32,124,32]):gI s q (q+3) [(124,dS)]:=by have b:=a.le;simp at b;have d:=xV (s:=s) (q:=q) (by omega) (by rw [show aE s q=32 from a.byte0];rfl);have e:=tV (s:=s) (q:=q+1) (c:=124) (by omega) (a.byte 1 rfl) rfl;have f:=xV (s:=s) (q:=q+2) (by omega) (by rw [show aE s (q+2)=32 from a.byte 2 rfl];rfl);exact (d.trans e).trans f
theorem aH8:∀(l:List Lr) (q:Nat) (a:Bool),(∀x∈l,qI x)->eF s q (jW a l)->q+(jW a l).length<s.size->cO (aE s (q+(jW a l).length))=false->gI s q (q+(jW a l).length) ((if a || l.isEmpty then [] else [(124,dS)])++jV l)
 |[],q,a,_,h,_,_=>by
  simp [jW,jV];exact vH
 |x::r,q,a,hk,h,hz,hn=>by
  simp only [jW] at h hz hn ⊢;rw [zz,zz,<-zg,<-zg] at hz hn ⊢;have i:gI s q (q+(if a=true then [] else [32,124,32]:List UInt8).length) (if a then [] else [(124,dS)]):=by
   have f:=h.left;cases a with
   |true=>exact vH
   |false=>exact aS7 f
  have e:cO (aE s (q+(if a=true then [] else [32,124,32]:List UInt8).length+(oN x).length))=false:=by
   cases r with
   |nil=>exact hn
   |cons b r=>
    have c:=h.right.right;have d:eF s (q+(if a=true then [] else [32,124,32]:List UInt8).length+(oN x).length) (32::(124::32::(oN b++jW false r))):=by simpa [jW] using c
    rw [d.byte0];rfl
  have j:=aS6 (hk x (by simp)) h.right.left (by omega) e;have k:=aH8 r _ false (λb g=>hk b (by simp [g])) h.right.right hz hn;have:=(i.trans j).trans k;cases r with
  |nil=>simpa [jV] using this
  |cons b r=>simpa [jV] using this
theorem aS8{q:Nat}{a:List Lr}(p:∀g∈a,qI g)(e:eF s q (pI a)):gI s q (q+(pI a).length) (oM a):=by
 unfold pI at e ⊢;rw [zz,<-zg];have b:=e.right;have i:=b.le;simp only [zx,zq] at i;have l:=tV (s:=s) (c:=46) (by omega) b.byte0 rfl;have m:=xV (s:=s) (q:=q+(if a.length=0 then [36,102,97,108,115,101] else jW true a).length+1) (by omega) (by rw [show aE s _=10 from b.byte 1 rfl];rfl);have d:=l.trans m;have f:=e.left;cases a with
 |nil=>
  have t:pE s q ⟨#[36,102,97,108,115,101]⟩:=by obtain ⟨j,k,n,o⟩:=f;exact ⟨⟨j.toArray⟩,⟨k.toArray⟩,vT (by rw [n];simp),by simpa [dR] using o⟩
  exact (aNk t).trans d
 |cons g r=>
  simp only [zx,aF (zb _)] at f b i d ⊢;have u:=aH8 (g::r) q true p f (by omega) (by rw [b.byte0];rfl);exact u.trans d
theorem aH9:∀(b:List (List Lr)) (a:Nat),(∀L∈b,∀e∈L,qI e)->eF s a (b.flatMap pI)->gI s a (a+(b.flatMap pI).length) (b.flatMap oM)
 |[],a,_,h=>vH
 |L::r,a,hk,h=>by
  rw [zy] at h;rw [zy,zy,zz,<-zg];exact (aS8 (hk L (by simp)) h.left).trans (aH9 r _ (λc d=>hk c (by simp [d])) h.right)
end
theorem aS9{e:List Us}:kM e↔(∀c∈e,c.2.2<=5)/\∀c∈e,∀j∈e,c.1=j.1->c.2=j.2:=by
 constructor
 ·intro f;refine ⟨λc g=>?_,λc g j n d=>?_⟩
  ·obtain ⟨b,a,rfl⟩:=zj g;exact (f b a).1
  ·obtain ⟨b,a,rfl⟩:=zj g;obtain ⟨i,m,rfl⟩:=zj n;rcases Nat.lt_trichotomy b i with hl|hl|hl
   ·exact (f i m).2 b hl d
   ·subst hl;rfl
   ·exact ((f b a).2 i hl d.symm).symm
 ·rintro ⟨k,l⟩ b a;exact ⟨k _ (zo a),λp o d=>l _ (zo _) _ (zo a) d⟩
theorem aHa{e f:List Us}(b:kM f)(c:∀a∈e,a∈f):kM e:=by rw [aS9] at b ⊢;exact ⟨λa d=>b.1 a (c a d),λa d g i=>b.2 a (c a d) g (c g i)⟩
theorem aSa(b:List Lt):∀d∈eJ (aT b),d∈eJ b:=λd a=>by
 rw [sS] at a ⊢;obtain ⟨i,g,a⟩:=zh.1 a;obtain ⟨c,f,_,e⟩:=aB3 (aB2 b).2 i g;rw [<-aH1 e] at a;exact zh.2 ⟨c,(rF b).2.2 c f,a⟩
theorem aSb{a:ByteArray}{g:List (List Lt)}{o:Int}(b:kO a g o 0):kM (g.flatMap eJ)/\g.length<=40:=by
 rcases b with ⟨_,_,_,b⟩|⟨C,b⟩
 ·cases b
 ·cases hp:rU a with
  |error l=>
   rw [hp] at b;cases b.2.2
  |ok m=>
   obtain ⟨st,j⟩:=m;rw [hp] at b;obtain ⟨m,q,d⟩:=b;have c:fU (cN a 0) ((cN a 0).length+1) ⟨0,[],[]⟩ []=.ok (st,j):=hp;have v:0<(cN a 0).length:=by
    rcases z4 (cN a 0).length with hz|hz
    ·have s:=List.length_eq_zero_iff.1 hz;rw [s] at c;have:=aV8 (T:=[]) (st:=⟨0,[],[]⟩) rfl;rw [fU,aF (by decide),this] at c;cases c
    ·exact hz
   obtain ⟨A,z,i,n,w,_,_,_,_,x⟩:=aAt (zB a (by omega)) (wH a (by omega)) (aAw a 0) _ _ _ _ _ c v;simp only [zw] at i n;subst n;rcases d with ⟨_,_,_,d⟩|⟨p,e⟩
   ·cases d
   ·have k:=(aFa q (by rw [i];exact x)).1 p;rw [i,w] at k;rcases e with ⟨_,_,_,_,_,_,e⟩|⟨t,rfl,_,_⟩
    ·cases e
    ·refine ⟨aHa k λy f=>?_,?_⟩
     ·obtain ⟨B,r,f⟩:=zh.1 f;obtain ⟨l,u,rfl⟩:=List.mem_map.1 r;exact zh.2 ⟨l,u,aSa _ y f⟩
     ·rw [z0];rcases Nat.lt_or_ge 40 j.length with hl|hl
      ·exact absurd (z3 (z2 40)) (t 40 hl)
      ·exact hl
theorem aHb{cs:List (List Lt)}{B:List (List Lt)}{F z:Int}(c:kO ⟨(cs.flatMap eR).toArray⟩ B F z)(a8:(cs.flatMap eR).length<=3000)(r:∀g∈cs,bK g=true)(X:kM (cs.flatMap eJ))(a7:cs.length<=40):B=cs/\z=0:=by
 have W:∀l:List (List Lt),(∀g∈l,bK g=true)->∃b:List (List Lr),b.map (List.map nJ)=l/\(∀a∈b,∀j∈a,qI j)/\l.flatMap eR=b.flatMap pI:=by
  intro l;induction l with
  |nil=>intro _;exact ⟨[],rfl,λa i=>by simp at i,rfl⟩
  |cons g d ih=>
   intro c;obtain ⟨b,f,k,n⟩:=ih λI m=>c I (by simp [m])
   obtain ⟨a,x,G,H⟩:=aH6 g (aB1 (c g (by simp))).2;refine ⟨a::b,by rw [List.map_cons,f,x],λo hM=>?_,?_⟩
   ·rcases zm.1 hM with rfl|hM
    ·exact G
    ·exact k o hM
   ·rw [zy,zy,n,<-x,aS5 H]
 obtain ⟨b,f,k,n⟩:=W cs r;have V:(⟨(cs.flatMap eR).toArray⟩ : ByteArray).size=(cs.flatMap eR).length:=by rw [dR]
 generalize hS:(⟨(cs.flatMap eR).toArray⟩ : ByteArray)=s at c V;have m:s.data.toList=b.flatMap pI:=by rw [<-hS,<-n]
 obtain ⟨a9,E,w⟩:=aH9 (s:=s) b 0 k ⟨[],[],by simp [m],rfl⟩;have A:0+(b.flatMap pI).length=s.size:=by rw [<-m,dR];omega
 rw [A,aNj] at w;have hK:(cN s 0).map kt=pH b:=by rw [w,List.map_append,E];rfl
 have P:(cN s 0).length=(pH b).length:=by rw [<-hK,z0]
 have S:b.length<(pH b).length/\∀a∈b,a.length<=(pH b).length:=by
  unfold pH;rw [zz,z1];have Z:∀a:List Lr,1<=(oM a).length/\a.length<=(oM a).length:=by
   intro a;have a0:∀a:List Lr,a.length<=(jV a).length:=by
    intro a;induction a with
    |nil=>simp
    |cons j d ih=>
     have q:1<=(oL j).length:=by have:=aGw j.2;unfold oL;rw [zz];omega
     cases d with
     |nil=>simp [jV];omega
     |cons y d=>
      simp only [jV,zz,zx] at ih ⊢;omega
   unfold oM;rw [zz,z1];cases a with
   |nil=>simp
   |cons j d=>
    have:=a0 (j::d);simp only at this ⊢;omega
  clear E w hK P m A n k f;induction b with
  |nil=>simp
  |cons a d ih=>
   rw [zy,zz];have:=Z a;refine ⟨by have:=ih.1;rw [zx];omega,λo hM=>?_⟩;rcases zm.1 hM with rfl|hM
   ·omega
   ·have:=ih.2 o hM;omega
 obtain ⟨D,e,p,N,O⟩:=aH2 (T:=cN s 0) b ((cN s 0).length+1) ⟨0,[],[]⟩ [] (λa i=>⟨by have:=S.2 a i;omega,k a i⟩) (by omega) (by unfold At;simpa using hK);simp only [zw] at p;obtain ⟨a5,a4,v,C,a2,_,_,_,_,a3⟩:=aAt (zB s (by omega)) (wH s (by omega)) (aAw s 0) _ _ _ _ _ p (by show 0<(cN s 0).length;omega);simp only [zw] at v C;subst C;have t:e.map (λa1=>aT a1.2)=cs:=by
  rw [N,<-f];refine List.map_congr_left λa i=>?_
  have:bK (a.map nJ)=true:=r _ (by rw [<-f];exact List.mem_map_of_mem i);unfold bK at this;simp only [zs,decide_eq_true_eq] at this;exact this.2.symm
 rcases c with ⟨q,_⟩|⟨_,c⟩
 ·omega
 ·have Q:rU s=.ok (D,e):=p;rw [Q] at c;obtain ⟨d,q,L⟩:=c;have Y:kM (D.pz.map iY):=by
   rw [v,a2,O];have:(b.flatMap λa=>eJ (a.map nJ))=cs.flatMap eJ:=by rw [<-f,List.flatMap_map]
   rw [this];exact X
  rcases L with ⟨J,_⟩|⟨_,M⟩
  ·exact absurd Y ((aFa q (by rw [v];exact a3)).2 J)
  ·rcases M with ⟨u,R,hbad,_⟩|⟨_,rfl,rfl,rfl⟩
   ·have a6:e.length=cs.length:=by
     have:=congrArg List.length t;simpa using this
    rcases hbad with hbad|hbad
    ·omega
    ·have:cZ (aT e[u].2)=true:=by
      have U:aT e[u].2∈cs:=by rw [<-t];exact List.mem_map.2 ⟨e[u],zo R,rfl⟩
      exact (by
       have:=r _ U;unfold bK at this;simp only [zs] at this;exact this.1.1)
     rw [this] at hbad;cases hbad
   ·exact ⟨t,rfl⟩
