import Derived.Test.YtmelidkanelpbaaGreatDoorBase0T
namespace Go.Proofs.YtmelidkanelpbaaGreatDoor
open Go.RowKit
theorem mS(a:ByteArray):a.size=a.data.toList.length:=rfl
theorem aZe(b:ByteArray)(a:Nat):bO b a<=4:=by
 have c:dF (aE b a)<=4:=by unfold dF;split<;>(try split)<;>(try split)<;>(try split)<;>(try split)<;>omega
 simp only [bO];split
 ·omega
 ·split
  ·omega
  ·split<;>omega
theorem aZf(d:ByteArray):∀c a b,d.size-a<=c->b<=20->gA d c a b=true->d.size<=a+4*(20-b):=by
 intro c;induction c with
 |zero=>intro a b i f e;omega
 |succ c ih=>
  intro a b i f e;by_cases j:a<d.size
  ·by_cases g:bO d a=0\/aE d a=10
   ·rw [aC6 d (c+1) a b j i g] at e;simp at e
   ·have l:=aZe d a;simp only [gA,aI j,aH g] at e;by_cases k:b=20
    ·exfalso;subst k;have:∀c a b,20<b->gA d c a b=false:=by
      intro c;induction c with
      |zero=>intro a b f;simp [gA];omega
      |succ c ih=>
       intro a b f;simp only [gA];split
       ·split
        ·rfl
        ·exact ih _ _ (by omega)
       ·simp;omega
     rw [this _ _ _ (by omega)] at e;simp at e
    ·have:=ih (a+bO d a) (b+1) (by omega) (by omega) e;omega
  ·omega
theorem aLm(a:ByteArray)(b:eR a=true):0<a.size/\a.size<=80:=by
 refine ⟨?_,?_⟩
 ·rcases Nat.eq_zero_or_pos a.size with h0|h0
  ·unfold eR at b;rw [h0] at b;simp [gA] at b
  ·exact h0
 ·have:=aZf a a.size 0 0 (by omega) (by omega) b;omega
