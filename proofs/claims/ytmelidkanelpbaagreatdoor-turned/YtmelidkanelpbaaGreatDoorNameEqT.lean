import Derived.Test.YtmelidkanelpbaaGreatDoorText0T
import Derived.Lib.ValidLaws
import Derived.Lib.RuneCount
import Derived.Lib.IndexAny
open List renaming length_drop→zz,getElem_drop→zy,drop_eq_nil_of_le→zw,mem_iff_getElem→zv
namespace Go.Proofs.YtmelidkanelpbaaGreatDoor
open Utf8 renaming decode→zx
set_option maxHeartbeats 1000000
set_option maxRecDepth 100000
open Go.RowKit
theorem lT(c:ByteArray)(a:Nat):aE c a=(c.data.toList.getD a 0).toNat:=by
 unfold aE;split
 ·next h=>
  obtain ⟨⟨b⟩⟩:=c;have d:a<b.length:=h;simp [List.getD,d];rfl
 ·next h=>
  obtain ⟨⟨b⟩⟩:=c;have d:¬a<b.length:=h;simp [List.getD,List.getElem?_eq_none (show b.length<=a by omega)]
theorem sV(b:ByteArray)(a:Nat):aE b a<256:=by rw [lT];exact UInt8.toNat_lt _
def rH(a:Nat×Nat):Nat:=if a.1=65533/\a.2=1 then 0 else a.2
theorem uC(g i b c d a f e:Nat)(j:2<=a)(k:a<=4):rH (Lib.slowN g i b c d a f e)=if g<a\/b<f\/e<b\/(3<=a/\(c<128\/191<c))\/(4<=a/\(d<128\/191<d)) then 0 else a:=by
 unfold rH Lib.slowN;repeat' split
 all_goals first|rfl|omega|(exfalso;omega)|(simp only at *;omega)
theorem rI(b:ByteArray)(a c:Nat)(j:dF (aE b a)=c)(q:2<=c)(r:c<=4):bO b a=if b.size<a+c\/(aE b (a+1)<128\/191<aE b (a+1))\/(3<=c/\(aE b (a+2)<128\/191<aE b (a+2)))\/(4<=c/\(aE b (a+3)<128\/191<aE b (a+3)))\/tK (aE b a) (aE b (a+1))=true then 0 else c:=by
 by_cases i:b.size<a+c
 ·rw [aOp b a c j (by omega) i,aI (Or.inl i)]
 ·by_cases e:∀d,0<d->d<c->mX (aE b (a+d))=true
  ·rw [aOq b a c j (by omega) i e];have n:=e 1 (by omega) (by omega);have k:3<=c->mX (aE b (a+2))=true:=λh=>e 2 (by omega) (by omega)
   have l:4<=c->mX (aE b (a+3))=true:=λh=>e 3 (by omega) (by omega)
   simp only [mX,Bool.and_eq_true,decide_eq_true_eq] at n k l;by_cases g:tK (aE b a) (aE b (a+1))=true
   ·rw [aI g,aI (by simp [g])]
   ·rw [aH g,aH];intro h;rcases h with h|h|h|h|h
    ·omega
    ·omega
    ·have:=k h.1;omega
    ·have:=l h.1;omega
    ·exact g h
  ·obtain ⟨d,f⟩:=Classical.not_forall.1 e;obtain ⟨o,f⟩:=Classical.not_imp.1 f;obtain ⟨p,f⟩:=Classical.not_imp.1 f;have m:mX (aE b (a+d))=false:=by simpa using f
   rw [aG0 b a c d j (by omega) o p m,aI];simp only [mX,Bool.and_eq_false_iff,decide_eq_false_iff_not] at m;rcases (show d=1\/d=2\/d=3 by omega) with rfl|rfl|rfl
   ·right;left;omega
   ·right;right;left;omega
   ·right;right;right;left;omega
theorem aAo(b:ByteArray)(a:Nat)(l:a<b.size):bO b a=rH (zx b a):=by
 rw [Lib.decode_N,<-lT,<-lT,<-lT,<-lT,<-mS];have j:=sV b a;have d:=sV b (a+1);have e:=sV b (a+2);have f:=sV b (a+3);have i:1<=b.size-a:=by omega
 have g:=aOo (aE b a) (aE b (a+1));rcases (show aE b a<128\/((128<=aE b a/\aE b a<194)\/245<=aE b a)\/(194<=aE b a/\aE b a<224)\/aE b a=224\/((225<=aE b a/\aE b a<237)\/(238<=aE b a/\aE b a<240))\/aE b a=237\/aE b a=240\/(241<=aE b a/\aE b a<244)\/aE b a=244 by omega) with h|h|h|h|h|h|h|h|h
 ·rw [tL b a (by unfold dF;rw [aI h];omega)];unfold dF Lib.decodeN rH;rw [aI h,aI h,aH (by simp only;omega)]
 ·have c:dF (aE b a)=0:=by unfold dF;split<;>(try split)<;>(try split)<;>(try split)<;>(try split)<;>omega
  have k:Lib.firstT (aE b a)=241:=by unfold Lib.firstT;(repeat' split)<;>omega
  rw [tL b a (by omega),c,Lib.bad_eq _ _ _ _ _ j k];rfl
 ·have c:dF (aE b a)=2:=by unfold dF;split<;>(try split)<;>(try split)<;>(try split)<;>(try split)<;>omega
  rw [rI b a 2 c (by omega) (by omega),<-Lib.slow_C2 _ _ _ _ _ i d e f h,uC _ _ _ _ _ 2 _ _ (by omega) (by omega)];simp only [g];split<;>split<;>omega
 ·have c:dF (aE b a)=3:=by unfold dF;split<;>(try split)<;>(try split)<;>(try split)<;>(try split)<;>omega
  rw [rI b a 3 c (by omega) (by omega),<-Lib.slow_E0 _ _ _ _ _ i d e f h,uC _ _ _ _ _ 3 _ _ (by omega) (by omega)];simp only [g];split<;>split<;>omega
 ·have c:dF (aE b a)=3:=by unfold dF;split<;>(try split)<;>(try split)<;>(try split)<;>(try split)<;>omega
  rw [rI b a 3 c (by omega) (by omega),<-Lib.slow_E1 _ _ _ _ _ i d e f h,uC _ _ _ _ _ 3 _ _ (by omega) (by omega)];simp only [g];split<;>split<;>omega
 ·have c:dF (aE b a)=3:=by unfold dF;split<;>(try split)<;>(try split)<;>(try split)<;>(try split)<;>omega
  rw [rI b a 3 c (by omega) (by omega),<-Lib.slow_ED _ _ _ _ _ i d e f h,uC _ _ _ _ _ 3 _ _ (by omega) (by omega)];simp only [g];split<;>split<;>omega
 ·have c:dF (aE b a)=4:=by unfold dF;split<;>(try split)<;>(try split)<;>(try split)<;>(try split)<;>omega
  rw [rI b a 4 c (by omega) (by omega),<-Lib.slow_F0 _ _ _ _ _ i d e f h,uC _ _ _ _ _ 4 _ _ (by omega) (by omega)];simp only [g];split<;>split<;>omega
 ·have c:dF (aE b a)=4:=by unfold dF;split<;>(try split)<;>(try split)<;>(try split)<;>(try split)<;>omega
  rw [rI b a 4 c (by omega) (by omega),<-Lib.slow_F1 _ _ _ _ _ i d e f h,uC _ _ _ _ _ 4 _ _ (by omega) (by omega)];simp only [g];split<;>split<;>omega
 ·have c:dF (aE b a)=4:=by unfold dF;split<;>(try split)<;>(try split)<;>(try split)<;>(try split)<;>omega
  rw [rI b a 4 c (by omega) (by omega),<-Lib.slow_F4 _ _ _ _ _ i d e f h,uC _ _ _ _ _ 4 _ _ (by omega) (by omega)];simp only [g];split<;>split<;>omega
theorem aJf(b:ByteArray)(a c:Nat)(f:bO b a≠0)(e:0<c)(g:c<bO b a):128<=aE b (a+c):=by
 by_cases d:dF (aE b a)<=1
 ·rw [tL b a d] at g;omega
 ·have i:dF (aE b a)<=4:=by unfold dF;split<;>(try split)<;>(try split)<;>(try split)<;>(try split)<;>omega
  cases hco:mX (aE b (a+c))
  ·have j:bO b a<=dF (aE b a):=by
    simp only [bO,aH d];split
    ·omega
    ·split<;>omega
   exact absurd (aG0 b a _ c rfl d e (by omega) hco) f
  ·simp only [mX,Bool.and_eq_true,decide_eq_true_eq] at hco;exact hco.1
theorem aV6(b:ByteArray)(a:Nat)(f:a<b.size)(j:bO b a≠0):(10∈b.data.toList.drop a)↔aE b a=10\/10∈b.data.toList.drop (a+bO b a):=by
 have m:=aC4 b a f;rw [zv,zv];constructor
 ·rintro ⟨c,e,d⟩;simp only [zz,<-mS,zy] at e d;have i:aE b (a+c)=10:=by rw [mW b (a+c) (by omega)];show (b.data.toList[a+c]'_).toNat=10;rw [d];rfl
  by_cases l:c<bO b a
  ·by_cases k:c=0
   ·subst k;exact Or.inl i
   ·have:=aJf b a c j (by omega) l;omega
  ·refine Or.inr ⟨c-bO b a,by simp only [zz,<-mS];omega,?_⟩;simp only [zy];have:a+bO b a+(c-bO b a)=a+c:=by omega
   simp only [this];exact d
 ·rintro (h|⟨c,e,d⟩)
  ·refine ⟨0,by simp only [zz,<-mS];omega,?_⟩;simp only [zy,Nat.add_zero];rw [mW b a f] at h;have g:(b.data.toList[a]'(by rw [<-mS];exact f)).toNat=10:=h;exact UInt8.toNat_inj.1 g
  ·simp only [zz,<-mS,zy] at e d;refine ⟨bO b a+c,by simp only [zz,<-mS];omega,?_⟩;simp only [zy];have:a+(bO b a+c)=a+bO b a+c:=by omega
   simp only [this];exact d
theorem aV7(b:ByteArray):∀c a d,b.size-a<=c->
  (gA b c a d=true↔Lib.validD (b.data.toList.drop a)=true/\¬10∈b.data.toList.drop a/\1<=d+Lib.runeCountFrom b c a/\d+Lib.runeCountFrom b c a<=20):=by
 intro c;induction c with
 |zero=>
  intro a d l;have k:b.data.toList.drop a=[]:=zw (by rw [<-mS];omega);rw [k];simp [gA,Lib.validD_nil,Lib.runeCountFrom]
 |succ c ih=>
  intro a d l;by_cases e:a<b.size
  ·have s:b.data.toList.drop a≠[]:=by
    intro p;have:=congrArg List.length p;simp only [zz,<-mS,List.length_nil] at this;omega
   have m:=aAo b a e;rw [Lib.validD_step _ s,Lib.decodeL_drop,List.drop_drop];by_cases f:(zx b a).1=65533/\(zx b a).2=1
   ·have q:bO b a=0:=by rw [m];unfold rH;rw [aI f]
    rw [aI f,aC6 b (c+1) a d e l (Or.inl q)];simp
   ·have v:=Lib.decode_width_pos b a e;have r:bO b a=(zx b a).2:=by rw [m];unfold rH;rw [aH f]
    rw [aH f,aV6 b a e (by omega)];have t:Lib.runeCountFrom b (c+1) a=1+Lib.runeCountFrom b c (a+(zx b a).2):=by simp [Lib.runeCountFrom,e]
    rw [t];by_cases j:aE b a=10
    ·rw [aC6 b (c+1) a d e l (Or.inr j)];simp [j]
    ·have u:gA b (c+1) a d=gA b c (a+bO b a) (d+1):=by
      simp only [gA,aI e];rw [aH (by omega)]
     rw [u,ih (a+bO b a) (d+1) (by omega),r];simp only [j,false_or];constructor
     ·rintro ⟨g,i,n,o⟩;exact ⟨g,i,by omega,by omega⟩
     ·rintro ⟨g,i,n,o⟩;exact ⟨g,i,by omega,by omega⟩
  ·have k:b.data.toList.drop a=[]:=zw (by rw [<-mS];omega);rw [aC5 b (c+1) a d e,k,Lib.runeCountFrom_end b (c+1) a e];simp [Lib.validD_nil]
theorem aV8(a:ByteArray):eR a=(Lib.validD a.data.toList && !decide (0<=Lib.indexByte a.data.toList 10) && (decide (1<=Lib.runeCount a) && decide (Lib.runeCount a<=20))):=by rw [Bool.eq_iff_iff];unfold eR;rw [aV7 a a.size 0 0 (by omega),<-Lib.contains_iff_indexByte];have b:Lib.runeCountFrom a a.size 0=Lib.runeCount a:=rfl;rw [b];simp [and_assoc]
