import Derived.Test.YtmelidkanelpbaaGreatDoorText0H
import Derived.Lib.ValidLaws
import Derived.Lib.RuneCount
import Derived.Lib.IndexAny
open List renaming length_drop→zz,getElem_drop→zy,drop_eq_nil_of_le→zw,mem_iff_getElem→zv
namespace Go.Proofs.YtmelidkanelpbaaGreatDoor
open Utf8 renaming decode→zx
set_option maxHeartbeats 1000000
set_option maxRecDepth 100000
open Go.RowKit
theorem lU(c:ByteArray)(a:Nat):aF c a=(c.data.toList.getD a 0).toNat:=by
 unfold aF;split
 ·next h=>
  obtain ⟨⟨b⟩⟩:=c;have d:a<b.length:=h;simp [List.getD,d];rfl
 ·next h=>
  obtain ⟨⟨b⟩⟩:=c;have d:¬a<b.length:=h;simp [List.getD,List.getElem?_eq_none (show b.length<=a by omega)]
theorem tD(b:ByteArray)(a:Nat):aF b a<256:=by rw [lU];exact UInt8.toNat_lt _
def rS(a:Nat×Nat):Nat:=if a.1=65533/\a.2=1 then 0 else a.2
theorem uP(g i b c d a f e:Nat)(j:2<=a)(k:a<=4):rS (Lib.slowN g i b c d a f e)=if g<a\/b<f\/e<b\/(3<=a/\(c<128\/191<c))\/(4<=a/\(d<128\/191<d)) then 0 else a:=by
 unfold rS Lib.slowN;repeat' split
 all_goals first|rfl|omega|(exfalso;omega)|(simp only at *;omega)
theorem rT(b:ByteArray)(a c:Nat)(j:dE (aF b a)=c)(q:2<=c)(r:c<=4):bP b a=if b.size<a+c\/(aF b (a+1)<128\/191<aF b (a+1))\/(3<=c/\(aF b (a+2)<128\/191<aF b (a+2)))\/(4<=c/\(aF b (a+3)<128\/191<aF b (a+3)))\/tV (aF b a) (aF b (a+1))=true then 0 else c:=by
 by_cases i:b.size<a+c
 ·rw [aPa b a c j (by omega) i,aH (Or.inl i)]
 ·by_cases e:∀d,0<d->d<c->nG (aF b (a+d))=true
  ·rw [aPb b a c j (by omega) i e];have n:=e 1 (by omega) (by omega);have k:3<=c->nG (aF b (a+2))=true:=λh=>e 2 (by omega) (by omega)
   have l:4<=c->nG (aF b (a+3))=true:=λh=>e 3 (by omega) (by omega)
   simp only [nG,Bool.and_eq_true,decide_eq_true_eq] at n k l;by_cases g:tV (aF b a) (aF b (a+1))=true
   ·rw [aH g,aH (by simp [g])]
   ·rw [aI g,aI];intro h;rcases h with h|h|h|h|h
    ·omega
    ·omega
    ·have:=k h.1;omega
    ·have:=l h.1;omega
    ·exact g h
  ·obtain ⟨d,f⟩:=Classical.not_forall.1 e;obtain ⟨o,f⟩:=Classical.not_imp.1 f;obtain ⟨p,f⟩:=Classical.not_imp.1 f;have m:nG (aF b (a+d))=false:=by simpa using f
   rw [aGo b a c d j (by omega) o p m,aH];simp only [nG,Bool.and_eq_false_iff,decide_eq_false_iff_not] at m;rcases (show d=1\/d=2\/d=3 by omega) with rfl|rfl|rfl
   ·right;left;omega
   ·right;right;left;omega
   ·right;right;right;left;omega
theorem aAs(b:ByteArray)(a:Nat)(l:a<b.size):bP b a=rS (zx b a):=by
 rw [Lib.decode_N,<-lU,<-lU,<-lU,<-lU,<-mX];have j:=tD b a;have d:=tD b (a+1);have e:=tD b (a+2);have f:=tD b (a+3);have i:1<=b.size-a:=by omega
 have g:=aP9 (aF b a) (aF b (a+1));rcases (show aF b a<128\/((128<=aF b a/\aF b a<194)\/245<=aF b a)\/(194<=aF b a/\aF b a<224)\/aF b a=224\/((225<=aF b a/\aF b a<237)\/(238<=aF b a/\aF b a<240))\/aF b a=237\/aF b a=240\/(241<=aF b a/\aF b a<244)\/aF b a=244 by omega) with h|h|h|h|h|h|h|h|h
 ·rw [sO b a (by unfold dE;rw [aH h];omega)];unfold dE Lib.decodeN rS;rw [aH h,aH h,aI (by simp only;omega)]
 ·have c:dE (aF b a)=0:=by unfold dE;split<;>(try split)<;>(try split)<;>(try split)<;>(try split)<;>omega
  have k:Lib.firstT (aF b a)=241:=by unfold Lib.firstT;(repeat' split)<;>omega
  rw [sO b a (by omega),c,Lib.bad_eq _ _ _ _ _ j k];rfl
 ·have c:dE (aF b a)=2:=by unfold dE;split<;>(try split)<;>(try split)<;>(try split)<;>(try split)<;>omega
  rw [rT b a 2 c (by omega) (by omega),<-Lib.slow_C2 _ _ _ _ _ i d e f h,uP _ _ _ _ _ 2 _ _ (by omega) (by omega)];simp only [g];split<;>split<;>omega
 ·have c:dE (aF b a)=3:=by unfold dE;split<;>(try split)<;>(try split)<;>(try split)<;>(try split)<;>omega
  rw [rT b a 3 c (by omega) (by omega),<-Lib.slow_E0 _ _ _ _ _ i d e f h,uP _ _ _ _ _ 3 _ _ (by omega) (by omega)];simp only [g];split<;>split<;>omega
 ·have c:dE (aF b a)=3:=by unfold dE;split<;>(try split)<;>(try split)<;>(try split)<;>(try split)<;>omega
  rw [rT b a 3 c (by omega) (by omega),<-Lib.slow_E1 _ _ _ _ _ i d e f h,uP _ _ _ _ _ 3 _ _ (by omega) (by omega)];simp only [g];split<;>split<;>omega
 ·have c:dE (aF b a)=3:=by unfold dE;split<;>(try split)<;>(try split)<;>(try split)<;>(try split)<;>omega
  rw [rT b a 3 c (by omega) (by omega),<-Lib.slow_ED _ _ _ _ _ i d e f h,uP _ _ _ _ _ 3 _ _ (by omega) (by omega)];simp only [g];split<;>split<;>omega
 ·have c:dE (aF b a)=4:=by unfold dE;split<;>(try split)<;>(try split)<;>(try split)<;>(try split)<;>omega
  rw [rT b a 4 c (by omega) (by omega),<-Lib.slow_F0 _ _ _ _ _ i d e f h,uP _ _ _ _ _ 4 _ _ (by omega) (by omega)];simp only [g];split<;>split<;>omega
 ·have c:dE (aF b a)=4:=by unfold dE;split<;>(try split)<;>(try split)<;>(try split)<;>(try split)<;>omega
  rw [rT b a 4 c (by omega) (by omega),<-Lib.slow_F1 _ _ _ _ _ i d e f h,uP _ _ _ _ _ 4 _ _ (by omega) (by omega)];simp only [g];split<;>split<;>omega
 ·have c:dE (aF b a)=4:=by unfold dE;split<;>(try split)<;>(try split)<;>(try split)<;>(try split)<;>omega
  rw [rT b a 4 c (by omega) (by omega),<-Lib.slow_F4 _ _ _ _ _ i d e f h,uP _ _ _ _ _ 4 _ _ (by omega) (by omega)];simp only [g];split<;>split<;>omega
theorem aK1(b:ByteArray)(a c:Nat)(f:bP b a≠0)(e:0<c)(g:c<bP b a):128<=aF b (a+c):=by
 by_cases d:dE (aF b a)<=1
 ·rw [sO b a d] at g;omega
 ·have i:dE (aF b a)<=4:=by unfold dE;split<;>(try split)<;>(try split)<;>(try split)<;>(try split)<;>omega
  cases hco:nG (aF b (a+c))
  ·have j:bP b a<=dE (aF b a):=by
    simp only [bP,aI d];split
    ·omega
    ·split<;>omega
   exact absurd (aGo b a _ c rfl d e (by omega) hco) f
  ·simp only [nG,Bool.and_eq_true,decide_eq_true_eq] at hco;exact hco.1
theorem aVj(b:ByteArray)(a:Nat)(f:a<b.size)(j:bP b a≠0):(10∈b.data.toList.drop a)↔aF b a=10\/10∈b.data.toList.drop (a+bP b a):=by
 have m:=aCe b a f;rw [zv,zv];constructor
 ·rintro ⟨c,e,d⟩;simp only [zz,<-mX,zy] at e d;have i:aF b (a+c)=10:=by rw [nF b (a+c) (by omega)];show (b.data.toList[a+c]'_).toNat=10;rw [d];rfl
  by_cases l:c<bP b a
  ·by_cases k:c=0
   ·subst k;exact Or.inl i
   ·have:=aK1 b a c j (by omega) l;omega
  ·refine Or.inr ⟨c-bP b a,by simp only [zz,<-mX];omega,?_⟩;simp only [zy];have:a+bP b a+(c-bP b a)=a+c:=by omega
   simp only [this];exact d
 ·rintro (h|⟨c,e,d⟩)
  ·refine ⟨0,by simp only [zz,<-mX];omega,?_⟩;simp only [zy,Nat.add_zero];rw [nF b a f] at h;have g:(b.data.toList[a]'(by rw [<-mX];exact f)).toNat=10:=h;exact UInt8.toNat_inj.1 g
  ·simp only [zz,<-mX,zy] at e d;refine ⟨bP b a+c,by simp only [zz,<-mX];omega,?_⟩;simp only [zy];have:a+(bP b a+c)=a+bP b a+c:=by omega
   simp only [this];exact d
theorem aVk(b:ByteArray):∀c a d,b.size-a<=c->
  (gD b c a d=true↔Lib.validD (b.data.toList.drop a)=true/\¬10∈b.data.toList.drop a/\1<=d+Lib.runeCountFrom b c a/\d+Lib.runeCountFrom b c a<=20):=by
 intro c;induction c with
 |zero=>
  intro a d l;have k:b.data.toList.drop a=[]:=zw (by rw [<-mX];omega);rw [k];simp [gD,Lib.validD_nil,Lib.runeCountFrom]
 |succ c ih=>
  intro a d l;by_cases e:a<b.size
  ·have s:b.data.toList.drop a≠[]:=by
    intro p;have:=congrArg List.length p;simp only [zz,<-mX,List.length_nil] at this;omega
   have m:=aAs b a e;rw [Lib.validD_step _ s,Lib.decodeL_drop,List.drop_drop];by_cases f:(zx b a).1=65533/\(zx b a).2=1
   ·have q:bP b a=0:=by rw [m];unfold rS;rw [aH f]
    rw [aH f,aCg b (c+1) a d e l (Or.inl q)];simp
   ·have v:=Lib.decode_width_pos b a e;have r:bP b a=(zx b a).2:=by rw [m];unfold rS;rw [aI f]
    rw [aI f,aVj b a e (by omega)];have t:Lib.runeCountFrom b (c+1) a=1+Lib.runeCountFrom b c (a+(zx b a).2):=by simp [Lib.runeCountFrom,e]
    rw [t];by_cases j:aF b a=10
    ·rw [aCg b (c+1) a d e l (Or.inr j)];simp [j]
    ·have u:gD b (c+1) a d=gD b c (a+bP b a) (d+1):=by
      simp only [gD,aH e];rw [aI (by omega)]
     rw [u,ih (a+bP b a) (d+1) (by omega),r];simp only [j,false_or];constructor
     ·rintro ⟨g,i,n,o⟩;exact ⟨g,i,by omega,by omega⟩
     ·rintro ⟨g,i,n,o⟩;exact ⟨g,i,by omega,by omega⟩
  ·have k:b.data.toList.drop a=[]:=zw (by rw [<-mX];omega);rw [aCf b (c+1) a d e,k,Lib.runeCountFrom_end b (c+1) a e];simp [Lib.validD_nil]
theorem aVl(a:ByteArray):eM a=(Lib.validD a.data.toList && !decide (0<=Lib.indexByte a.data.toList 10) && (decide (1<=Lib.runeCount a) && decide (Lib.runeCount a<=20))):=by rw [Bool.eq_iff_iff];unfold eM;rw [aVk a a.size 0 0 (by omega),<-Lib.contains_iff_indexByte];have b:Lib.runeCountFrom a a.size 0=Lib.runeCount a:=rfl;rw [b];simp [and_assoc]
