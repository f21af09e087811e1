import Derived.Test.YtbpiopdphigodaaGreatDoorBase0P
import Derived.Lib.ValidLaws
import Derived.Lib.RuneCount
import Derived.Lib.IndexAny
open List renaming length_drop→zz,getElem_drop→zy,drop_eq_nil_of_le→zw,mem_iff_getElem→zv
namespace Go.Proofs.YtbpiopdphigodaaGreatDoor
open Utf8 renaming decode→zx
open Go.RowKit
set_option maxHeartbeats 1000000
set_option maxRecDepth 100000
theorem dR(a:ByteArray):a.size=a.data.toList.length:=rfl
theorem aVj(b:ByteArray)(a:Nat):bB b a<=4:=by
 have c:cM (aE b a)<=4:=by unfold cM;split<;>(try split)<;>(try split)<;>(try split)<;>(try split)<;>omega
 simp only [bB];split
 ·omega
 ·split
  ·omega
  ·split<;>omega
theorem aVk(d:ByteArray):∀c a b,d.size-a<=c->b<=20->eY d c a b=true->d.size<=a+4*(20-b):=by
 intro c;induction c with
 |zero=>intro a b i f e;omega
 |succ c ih=>
  intro a b i f e;by_cases j:a<d.size
  ·by_cases g:bB d a=0\/aE d a=10
   ·rw [aAc d (c+1) a b j i g] at e;simp at e
   ·have l:=aVj d a;simp only [eY,aG j,aF g] at e;by_cases k:b=20
    ·exfalso;subst k;have:∀c a b,20<b->eY d c a b=false:=by
      intro c;induction c with
      |zero=>intro a b f;simp [eY];omega
      |succ c ih=>
       intro a b f;simp only [eY];split
       ·split
        ·rfl
        ·exact ih _ _ (by omega)
       ·simp;omega
     rw [this _ _ _ (by omega)] at e;simp at e
    ·have:=ih (a+bB d a) (b+1) (by omega) (by omega) e;omega
  ·omega
theorem uR(a:ByteArray)(b:dL a=true):0<a.size/\a.size<=80:=by
 refine ⟨?_,?_⟩
 ·rcases Nat.eq_zero_or_pos a.size with h0|h0
  ·unfold dL at b;rw [h0] at b;simp [eY] at b
  ·exact h0
 ·have:=aVk a a.size 0 0 (by omega) (by omega) b;omega
theorem lH(c:ByteArray)(a:Nat):aE c a=(c.data.toList.getD a 0).toNat:=by
 unfold aE;split
 ·next h=>
  obtain ⟨⟨b⟩⟩:=c;have d:a<b.length:=h;simp [List.getD,d];rfl
 ·next h=>
  obtain ⟨⟨b⟩⟩:=c;have d:¬a<b.length:=h;simp [List.getD,List.getElem?_eq_none (show b.length<=a by omega)]
theorem rW(b:ByteArray)(a:Nat):aE b a<256:=by rw [lH];exact UInt8.toNat_lt _
def oT(a:Nat×Nat):Nat:=if a.1=65533/\a.2=1 then 0 else a.2
theorem tE(g i b c d a f e:Nat)(j:2<=a)(k:a<=4):oT (Lib.slowN g i b c d a f e)=if g<a\/b<f\/e<b\/(3<=a/\(c<128\/191<c))\/(4<=a/\(d<128\/191<d)) then 0 else a:=by
 unfold oT Lib.slowN;repeat' split
 all_goals first|rfl|omega|(exfalso;omega)|(simp only at *;omega)
theorem qL(b:ByteArray)(a c:Nat)(j:cM (aE b a)=c)(q:2<=c)(r:c<=4):bB b a=if b.size<a+c\/(aE b (a+1)<128\/191<aE b (a+1))\/(3<=c/\(aE b (a+2)<128\/191<aE b (a+2)))\/(4<=c/\(aE b (a+3)<128\/191<aE b (a+3)))\/sG (aE b a) (aE b (a+1))=true then 0 else c:=by
 by_cases i:b.size<a+c
 ·rw [aLl b a c j (by omega) i,aG (Or.inl i)]
 ·by_cases e:∀d,0<d->d<c->lO (aE b (a+d))=true
  ·rw [aLm b a c j (by omega) i e];have n:=e 1 (by omega) (by omega);have k:3<=c->lO (aE b (a+2))=true:=λh=>e 2 (by omega) (by omega)
   have l:4<=c->lO (aE b (a+3))=true:=λh=>e 3 (by omega) (by omega)
   simp only [lO,Bool.and_eq_true,decide_eq_true_eq] at n k l;by_cases g:sG (aE b a) (aE b (a+1))=true
   ·rw [aG g,aG (by simp [g])]
   ·rw [aF g,aF];intro h;rcases h with h|h|h|h|h
    ·omega
    ·omega
    ·have:=k h.1;omega
    ·have:=l h.1;omega
    ·exact g h
  ·obtain ⟨d,f⟩:=Classical.not_forall.1 e;obtain ⟨o,f⟩:=Classical.not_imp.1 f;obtain ⟨p,f⟩:=Classical.not_imp.1 f;have m:lO (aE b (a+d))=false:=by simpa using f
   rw [aE8 b a c d j (by omega) o p m,aG];simp only [lO,Bool.and_eq_false_iff,decide_eq_false_iff_not] at m;rcases (show d=1\/d=2\/d=3 by omega) with rfl|rfl|rfl
   ·right;left;omega
   ·right;right;left;omega
   ·right;right;right;left;omega
theorem uS(b:ByteArray)(a:Nat)(l:a<b.size):bB b a=oT (zx b a):=by
 rw [Lib.decode_N,<-lH,<-lH,<-lH,<-lH,<-dR];have j:=rW b a;have d:=rW b (a+1);have e:=rW b (a+2);have f:=rW b (a+3);have i:1<=b.size-a:=by omega
 have g:=aLk (aE b a) (aE b (a+1));rcases (show aE b a<128\/((128<=aE b a/\aE b a<194)\/245<=aE b a)\/(194<=aE b a/\aE b a<224)\/aE b a=224\/((225<=aE b a/\aE b a<237)\/(238<=aE b a/\aE b a<240))\/aE b a=237\/aE b a=240\/(241<=aE b a/\aE b a<244)\/aE b a=244 by omega) with h|h|h|h|h|h|h|h|h
 ·rw [pY b a (by unfold cM;rw [aG h];omega)];unfold cM Lib.decodeN oT;rw [aG h,aG h,aF (by simp only;omega)]
 ·have c:cM (aE b a)=0:=by unfold cM;split<;>(try split)<;>(try split)<;>(try split)<;>(try split)<;>omega
  have k:Lib.firstT (aE b a)=241:=by unfold Lib.firstT;(repeat' split)<;>omega
  rw [pY b a (by omega),c,Lib.bad_eq _ _ _ _ _ j k];rfl
 ·have c:cM (aE b a)=2:=by unfold cM;split<;>(try split)<;>(try split)<;>(try split)<;>(try split)<;>omega
  rw [qL b a 2 c (by omega) (by omega),<-Lib.slow_C2 _ _ _ _ _ i d e f h,tE _ _ _ _ _ 2 _ _ (by omega) (by omega)];simp only [g];split<;>split<;>omega
 ·have c:cM (aE b a)=3:=by unfold cM;split<;>(try split)<;>(try split)<;>(try split)<;>(try split)<;>omega
  rw [qL b a 3 c (by omega) (by omega),<-Lib.slow_E0 _ _ _ _ _ i d e f h,tE _ _ _ _ _ 3 _ _ (by omega) (by omega)];simp only [g];split<;>split<;>omega
 ·have c:cM (aE b a)=3:=by unfold cM;split<;>(try split)<;>(try split)<;>(try split)<;>(try split)<;>omega
  rw [qL b a 3 c (by omega) (by omega),<-Lib.slow_E1 _ _ _ _ _ i d e f h,tE _ _ _ _ _ 3 _ _ (by omega) (by omega)];simp only [g];split<;>split<;>omega
 ·have c:cM (aE b a)=3:=by unfold cM;split<;>(try split)<;>(try split)<;>(try split)<;>(try split)<;>omega
  rw [qL b a 3 c (by omega) (by omega),<-Lib.slow_ED _ _ _ _ _ i d e f h,tE _ _ _ _ _ 3 _ _ (by omega) (by omega)];simp only [g];split<;>split<;>omega
 ·have c:cM (aE b a)=4:=by unfold cM;split<;>(try split)<;>(try split)<;>(try split)<;>(try split)<;>omega
  rw [qL b a 4 c (by omega) (by omega),<-Lib.slow_F0 _ _ _ _ _ i d e f h,tE _ _ _ _ _ 4 _ _ (by omega) (by omega)];simp only [g];split<;>split<;>omega
 ·have c:cM (aE b a)=4:=by unfold cM;split<;>(try split)<;>(try split)<;>(try split)<;>(try split)<;>omega
  rw [qL b a 4 c (by omega) (by omega),<-Lib.slow_F1 _ _ _ _ _ i d e f h,tE _ _ _ _ _ 4 _ _ (by omega) (by omega)];simp only [g];split<;>split<;>omega
 ·have c:cM (aE b a)=4:=by unfold cM;split<;>(try split)<;>(try split)<;>(try split)<;>(try split)<;>omega
  rw [qL b a 4 c (by omega) (by omega),<-Lib.slow_F4 _ _ _ _ _ i d e f h,tE _ _ _ _ _ 4 _ _ (by omega) (by omega)];simp only [g];split<;>split<;>omega
theorem aCr(b:ByteArray)(a c:Nat)(f:bB b a≠0)(e:0<c)(g:c<bB b a):128<=aE b (a+c):=by
 by_cases d:cM (aE b a)<=1
 ·rw [pY b a d] at g;omega
 ·have i:cM (aE b a)<=4:=by unfold cM;split<;>(try split)<;>(try split)<;>(try split)<;>(try split)<;>omega
  cases hco:lO (aE b (a+c))
  ·have j:bB b a<=cM (aE b a):=by
    simp only [bB,aF d];split
    ·omega
    ·split<;>omega
   exact absurd (aE8 b a _ c rfl d e (by omega) hco) f
  ·simp only [lO,Bool.and_eq_true,decide_eq_true_eq] at hco;exact hco.1
theorem aVl(b:ByteArray)(a:Nat)(f:a<b.size)(j:bB b a≠0):(10∈b.data.toList.drop a)↔aE b a=10\/10∈b.data.toList.drop (a+bB b a):=by
 have m:=xM b a f;rw [zv,zv];constructor
 ·rintro ⟨c,e,d⟩;simp only [zz,<-dR,zy] at e d;have i:aE b (a+c)=10:=by rw [kZ b (a+c) (by omega)];show (b.data.toList[a+c]'_).toNat=10;rw [d];rfl
  by_cases l:c<bB b a
  ·by_cases k:c=0
   ·subst k;exact Or.inl i
   ·have:=aCr b a c j (by omega) l;omega
  ·refine Or.inr ⟨c-bB b a,by simp only [zz,<-dR];omega,?_⟩;simp only [zy];have:a+bB b a+(c-bB b a)=a+c:=by omega
   simp only [this];exact d
 ·rintro (h|⟨c,e,d⟩)
  ·refine ⟨0,by simp only [zz,<-dR];omega,?_⟩;simp only [zy,Nat.add_zero];rw [kZ b a f] at h;have g:(b.data.toList[a]'(by rw [<-dR];exact f)).toNat=10:=h;exact UInt8.toNat_inj.1 g
  ·simp only [zz,<-dR,zy] at e d;refine ⟨bB b a+c,by simp only [zz,<-dR];omega,?_⟩;simp only [zy];have:a+(bB b a+c)=a+bB b a+c:=by omega
   simp only [this];exact d
theorem aVm(b:ByteArray):∀c a d,b.size-a<=c->
  (eY b c a d=true↔Lib.validD (b.data.toList.drop a)=true/\¬10∈b.data.toList.drop a/\1<=d+Lib.runeCountFrom b c a/\d+Lib.runeCountFrom b c a<=20):=by
 intro c;induction c with
 |zero=>
  intro a d l;have k:b.data.toList.drop a=[]:=zw (by rw [<-dR];omega);rw [k];simp [eY,Lib.validD_nil,Lib.runeCountFrom]
 |succ c ih=>
  intro a d l;by_cases e:a<b.size
  ·have s:b.data.toList.drop a≠[]:=by
    intro p;have:=congrArg List.length p;simp only [zz,<-dR,List.length_nil] at this;omega
   have m:=uS b a e;rw [Lib.validD_step _ s,Lib.decodeL_drop,List.drop_drop];by_cases f:(zx b a).1=65533/\(zx b a).2=1
   ·have q:bB b a=0:=by rw [m];unfold oT;rw [aG f]
    rw [aG f,aAc b (c+1) a d e l (Or.inl q)];simp
   ·have v:=Lib.decode_width_pos b a e;have r:bB b a=(zx b a).2:=by rw [m];unfold oT;rw [aF f]
    rw [aF f,aVl b a e (by omega)];have t:Lib.runeCountFrom b (c+1) a=1+Lib.runeCountFrom b c (a+(zx b a).2):=by simp [Lib.runeCountFrom,e]
    rw [t];by_cases j:aE b a=10
    ·rw [aAc b (c+1) a d e l (Or.inr j)];simp [j]
    ·have u:eY b (c+1) a d=eY b c (a+bB b a) (d+1):=by
      simp only [eY,aG e];rw [aF (by omega)]
     rw [u,ih (a+bB b a) (d+1) (by omega),r];simp only [j,false_or];constructor
     ·rintro ⟨g,i,n,o⟩;exact ⟨g,i,by omega,by omega⟩
     ·rintro ⟨g,i,n,o⟩;exact ⟨g,i,by omega,by omega⟩
  ·have k:b.data.toList.drop a=[]:=zw (by rw [<-dR];omega);rw [sH b (c+1) a d e,k,Lib.runeCountFrom_end b (c+1) a e];simp [Lib.validD_nil]
theorem aIs(a:ByteArray):dL a=(Lib.validD a.data.toList && !decide (0<=Lib.indexByte a.data.toList 10) && (decide (1<=Lib.runeCount a) && decide (Lib.runeCount a<=20))):=by rw [Bool.eq_iff_iff];unfold dL;rw [aVm a a.size 0 0 (by omega),<-Lib.contains_iff_indexByte];have b:Lib.runeCountFrom a a.size 0=Lib.runeCount a:=rfl;rw [b];simp [and_assoc]
