import Derived.Test.YtmelidkanelpbaaGreatDoorBase0G
import Derived.Lib.ValidLaws
import Derived.Lib.RuneCount
import Derived.Lib.IndexAny
open List renaming length_drop→zz,getElem_drop→zy,drop_eq_nil_of_le→zw,mem_iff_getElem→zv
namespace Go.Proofs.YtmelidkanelpbaaGreatDoor
open Utf8 renaming decode→zx
open Go.RowKit
set_option maxHeartbeats 1000000
set_option maxRecDepth 100000
theorem mW(a:ByteArray):a.size=a.data.toList.length:=rfl
theorem aZl(b:ByteArray)(a:Nat):bO b a<=4:=by
 have c:dF (aE b a)<=4:=by unfold dF;split<;>(try split)<;>(try split)<;>(try split)<;>(try split)<;>omega
 simp only [bO];split
 ·omega
 ·split
  ·omega
  ·split<;>omega
theorem aZm(d:ByteArray):∀c a b,d.size-a<=c->b<=20->gD d c a b=true->d.size<=a+4*(20-b):=by
 intro c;induction c with
 |zero=>intro a b i f e;omega
 |succ c ih=>
  intro a b i f e;by_cases j:a<d.size
  ·by_cases g:bO d a=0\/aE d a=10
   ·rw [aCd d (c+1) a b j i g] at e;simp at e
   ·have l:=aZl d a;simp only [gD,aI j,aH g] at e;by_cases k:b=20
    ·exfalso;subst k;have:∀c a b,20<b->gD d c a b=false:=by
      intro c;induction c with
      |zero=>intro a b f;simp [gD];omega
      |succ c ih=>
       intro a b f;simp only [gD];split
       ·split
        ·rfl
        ·exact ih _ _ (by omega)
       ·simp;omega
     rw [this _ _ _ (by omega)] at e;simp at e
    ·have:=ih (a+bO d a) (b+1) (by omega) (by omega) e;omega
  ·omega
theorem aM8(a:ByteArray)(b:eS a=true):0<a.size/\a.size<=80:=by
 refine ⟨?_,?_⟩
 ·rcases Nat.eq_zero_or_pos a.size with h0|h0
  ·unfold eS at b;rw [h0] at b;simp [gD] at b
  ·exact h0
 ·have:=aZm a a.size 0 0 (by omega) (by omega) b;omega
theorem lZ(c:ByteArray)(a:Nat):aE c a=(c.data.toList.getD a 0).toNat:=by
 unfold aE;split
 ·next h=>
  obtain ⟨⟨b⟩⟩:=c;have d:a<b.length:=h;simp [List.getD,d];rfl
 ·next h=>
  obtain ⟨⟨b⟩⟩:=c;have d:¬a<b.length:=h;simp [List.getD,List.getElem?_eq_none (show b.length<=a by omega)]
theorem tJ(b:ByteArray)(a:Nat):aE b a<256:=by rw [lZ];exact UInt8.toNat_lt _
def rU(a:Nat×Nat):Nat:=if a.1=65533/\a.2=1 then 0 else a.2
theorem uV(g i b c d a f e:Nat)(j:2<=a)(k:a<=4):rU (Lib.slowN g i b c d a f e)=if g<a\/b<f\/e<b\/(3<=a/\(c<128\/191<c))\/(4<=a/\(d<128\/191<d)) then 0 else a:=by
 unfold rU Lib.slowN;repeat' split
 all_goals first|rfl|omega|(exfalso;omega)|(simp only at *;omega)
theorem rV(b:ByteArray)(a c:Nat)(j:dF (aE b a)=c)(q:2<=c)(r:c<=4):bO b a=if b.size<a+c\/(aE b (a+1)<128\/191<aE b (a+1))\/(3<=c/\(aE b (a+2)<128\/191<aE b (a+2)))\/(4<=c/\(aE b (a+3)<128\/191<aE b (a+3)))\/tR (aE b a) (aE b (a+1))=true then 0 else c:=by
 by_cases i:b.size<a+c
 ·rw [aOz b a c j (by omega) i,aI (Or.inl i)]
 ·by_cases e:∀d,0<d->d<c->nE (aE b (a+d))=true
  ·rw [aP0 b a c j (by omega) i e];have n:=e 1 (by omega) (by omega);have k:3<=c->nE (aE b (a+2))=true:=λh=>e 2 (by omega) (by omega)
   have l:4<=c->nE (aE b (a+3))=true:=λh=>e 3 (by omega) (by omega)
   simp only [nE,Bool.and_eq_true,decide_eq_true_eq] at n k l;by_cases g:tR (aE b a) (aE b (a+1))=true
   ·rw [aI g,aI (by simp [g])]
   ·rw [aH g,aH];intro h;rcases h with h|h|h|h|h
    ·omega
    ·omega
    ·have:=k h.1;omega
    ·have:=l h.1;omega
    ·exact g h
  ·obtain ⟨d,f⟩:=Classical.not_forall.1 e;obtain ⟨o,f⟩:=Classical.not_imp.1 f;obtain ⟨p,f⟩:=Classical.not_imp.1 f;have m:nE (aE b (a+d))=false:=by simpa using f
   rw [aGa b a c d j (by omega) o p m,aI];simp only [nE,Bool.and_eq_false_iff,decide_eq_false_iff_not] at m;rcases (show d=1\/d=2\/d=3 by omega) with rfl|rfl|rfl
   ·right;left;omega
   ·right;right;left;omega
   ·right;right;right;left;omega
theorem aBe(b:ByteArray)(a:Nat)(l:a<b.size):bO b a=rU (zx b a):=by
 rw [Lib.decode_N,<-lZ,<-lZ,<-lZ,<-lZ,<-mW];have j:=tJ b a;have d:=tJ b (a+1);have e:=tJ b (a+2);have f:=tJ b (a+3);have i:1<=b.size-a:=by omega
 have g:=aOy (aE b a) (aE b (a+1));rcases (show aE b a<128\/((128<=aE b a/\aE b a<194)\/245<=aE b a)\/(194<=aE b a/\aE b a<224)\/aE b a=224\/((225<=aE b a/\aE b a<237)\/(238<=aE b a/\aE b a<240))\/aE b a=237\/aE b a=240\/(241<=aE b a/\aE b a<244)\/aE b a=244 by omega) with h|h|h|h|h|h|h|h|h
 ·rw [tS b a (by unfold dF;rw [aI h];omega)];unfold dF Lib.decodeN rU;rw [aI h,aI h,aH (by simp only;omega)]
 ·have c:dF (aE b a)=0:=by unfold dF;split<;>(try split)<;>(try split)<;>(try split)<;>(try split)<;>omega
  have k:Lib.firstT (aE b a)=241:=by unfold Lib.firstT;(repeat' split)<;>omega
  rw [tS b a (by omega),c,Lib.bad_eq _ _ _ _ _ j k];rfl
 ·have c:dF (aE b a)=2:=by unfold dF;split<;>(try split)<;>(try split)<;>(try split)<;>(try split)<;>omega
  rw [rV b a 2 c (by omega) (by omega),<-Lib.slow_C2 _ _ _ _ _ i d e f h,uV _ _ _ _ _ 2 _ _ (by omega) (by omega)];simp only [g];split<;>split<;>omega
 ·have c:dF (aE b a)=3:=by unfold dF;split<;>(try split)<;>(try split)<;>(try split)<;>(try split)<;>omega
  rw [rV b a 3 c (by omega) (by omega),<-Lib.slow_E0 _ _ _ _ _ i d e f h,uV _ _ _ _ _ 3 _ _ (by omega) (by omega)];simp only [g];split<;>split<;>omega
 ·have c:dF (aE b a)=3:=by unfold dF;split<;>(try split)<;>(try split)<;>(try split)<;>(try split)<;>omega
  rw [rV b a 3 c (by omega) (by omega),<-Lib.slow_E1 _ _ _ _ _ i d e f h,uV _ _ _ _ _ 3 _ _ (by omega) (by omega)];simp only [g];split<;>split<;>omega
 ·have c:dF (aE b a)=3:=by unfold dF;split<;>(try split)<;>(try split)<;>(try split)<;>(try split)<;>omega
  rw [rV b a 3 c (by omega) (by omega),<-Lib.slow_ED _ _ _ _ _ i d e f h,uV _ _ _ _ _ 3 _ _ (by omega) (by omega)];simp only [g];split<;>split<;>omega
 ·have c:dF (aE b a)=4:=by unfold dF;split<;>(try split)<;>(try split)<;>(try split)<;>(try split)<;>omega
  rw [rV b a 4 c (by omega) (by omega),<-Lib.slow_F0 _ _ _ _ _ i d e f h,uV _ _ _ _ _ 4 _ _ (by omega) (by omega)];simp only [g];split<;>split<;>omega
 ·have c:dF (aE b a)=4:=by unfold dF;split<;>(try split)<;>(try split)<;>(try split)<;>(try split)<;>omega
  rw [rV b a 4 c (by omega) (by omega),<-Lib.slow_F1 _ _ _ _ _ i d e f h,uV _ _ _ _ _ 4 _ _ (by omega) (by omega)];simp only [g];split<;>split<;>omega
 ·have c:dF (aE b a)=4:=by unfold dF;split<;>(try split)<;>(try split)<;>(try split)<;>(try split)<;>omega
  rw [rV b a 4 c (by omega) (by omega),<-Lib.slow_F4 _ _ _ _ _ i d e f h,uV _ _ _ _ _ 4 _ _ (by omega) (by omega)];simp only [g];split<;>split<;>omega
theorem aM9(b:ByteArray)(a c:Nat)(f:bO b a≠0)(e:0<c)(g:c<bO b a):128<=aE b (a+c):=by
 by_cases d:dF (aE b a)<=1
 ·rw [tS b a d] at g;omega
 ·have i:dF (aE b a)<=4:=by unfold dF;split<;>(try split)<;>(try split)<;>(try split)<;>(try split)<;>omega
  cases hco:nE (aE b (a+c))
  ·have j:bO b a<=dF (aE b a):=by
    simp only [bO,aH d];split
    ·omega
    ·split<;>omega
   exact absurd (aGa b a _ c rfl d e (by omega) hco) f
  ·simp only [nE,Bool.and_eq_true,decide_eq_true_eq] at hco;exact hco.1
theorem aZn(b:ByteArray)(a:Nat)(f:a<b.size)(j:bO b a≠0):(10∈b.data.toList.drop a)↔aE b a=10\/10∈b.data.toList.drop (a+bO b a):=by
 have m:=aCb b a f;rw [zv,zv];constructor
 ·rintro ⟨c,e,d⟩;simp only [zz,<-mW,zy] at e d;have i:aE b (a+c)=10:=by rw [nD b (a+c) (by omega)];show (b.data.toList[a+c]'_).toNat=10;rw [d];rfl
  by_cases l:c<bO b a
  ·by_cases k:c=0
   ·subst k;exact Or.inl i
   ·have:=aM9 b a c j (by omega) l;omega
  ·refine Or.inr ⟨c-bO b a,by simp only [zz,<-mW];omega,?_⟩;simp only [zy];have:a+bO b a+(c-bO b a)=a+c:=by omega
   simp only [this];exact d
 ·rintro (h|⟨c,e,d⟩)
  ·refine ⟨0,by simp only [zz,<-mW];omega,?_⟩;simp only [zy,Nat.add_zero];rw [nD b a f] at h;have g:(b.data.toList[a]'(by rw [<-mW];exact f)).toNat=10:=h;exact UInt8.toNat_inj.1 g
  ·simp only [zz,<-mW,zy] at e d;refine ⟨bO b a+c,by simp only [zz,<-mW];omega,?_⟩;simp only [zy];have:a+(bO b a+c)=a+bO b a+c:=by omega
   simp only [this];exact d
theorem aZo(b:ByteArray):∀c a d,b.size-a<=c->
  (gD b c a d=true↔Lib.validD (b.data.toList.drop a)=true/\¬10∈b.data.toList.drop a/\1<=d+Lib.runeCountFrom b c a/\d+Lib.runeCountFrom b c a<=20):=by
 intro c;induction c with
 |zero=>
  intro a d l;have k:b.data.toList.drop a=[]:=zw (by rw [<-mW];omega);rw [k];simp [gD,Lib.validD_nil,Lib.runeCountFrom]
 |succ c ih=>
  intro a d l;by_cases e:a<b.size
  ·have s:b.data.toList.drop a≠[]:=by
    intro p;have:=congrArg List.length p;simp only [zz,<-mW,List.length_nil] at this;omega
   have m:=aBe b a e;rw [Lib.validD_step _ s,Lib.decodeL_drop,List.drop_drop];by_cases f:(zx b a).1=65533/\(zx b a).2=1
   ·have q:bO b a=0:=by rw [m];unfold rU;rw [aI f]
    rw [aI f,aCd b (c+1) a d e l (Or.inl q)];simp
   ·have v:=Lib.decode_width_pos b a e;have r:bO b a=(zx b a).2:=by rw [m];unfold rU;rw [aH f]
    rw [aH f,aZn b a e (by omega)];have t:Lib.runeCountFrom b (c+1) a=1+Lib.runeCountFrom b c (a+(zx b a).2):=by simp [Lib.runeCountFrom,e]
    rw [t];by_cases j:aE b a=10
    ·rw [aCd b (c+1) a d e l (Or.inr j)];simp [j]
    ·have u:gD b (c+1) a d=gD b c (a+bO b a) (d+1):=by
      simp only [gD,aI e];rw [aH (by omega)]
     rw [u,ih (a+bO b a) (d+1) (by omega),r];simp only [j,false_or];constructor
     ·rintro ⟨g,i,n,o⟩;exact ⟨g,i,by omega,by omega⟩
     ·rintro ⟨g,i,n,o⟩;exact ⟨g,i,by omega,by omega⟩
  ·have k:b.data.toList.drop a=[]:=zw (by rw [<-mW];omega);rw [aCc b (c+1) a d e,k,Lib.runeCountFrom_end b (c+1) a e];simp [Lib.validD_nil]
theorem aZp(a:ByteArray):eS a=(Lib.validD a.data.toList && !decide (0<=Lib.indexByte a.data.toList 10) && (decide (1<=Lib.runeCount a) && decide (Lib.runeCount a<=20))):=by rw [Bool.eq_iff_iff];unfold eS;rw [aZo a a.size 0 0 (by omega),<-Lib.contains_iff_indexByte];have b:Lib.runeCountFrom a a.size 0=Lib.runeCount a:=rfl;rw [b];simp [and_assoc]
