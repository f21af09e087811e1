import Derived.Test.YtmelidkanelpbaaGreatDoorBase0H
namespace Go.Proofs.YtmelidkanelpbaaGreatDoor
open Go.RowKit
theorem mX(a:ByteArray):a.size=a.data.toList.length:=rfl
theorem aZy(b:ByteArray)(a:Nat):bP b a<=4:=by
 have c:dE (aF b a)<=4:=by unfold dE;split<;>(try split)<;>(try split)<;>(try split)<;>(try split)<;>omega
 simp only [bP];split
 ·omega
 ·split
  ·omega
  ·split<;>omega
theorem aZz(d:ByteArray):∀c a b,d.size-a<=c->b<=20->gD d c a b=true->d.size<=a+4*(20-b):=by
 intro c;induction c with
 |zero=>intro a b i f e;omega
 |succ c ih=>
  intro a b i f e;by_cases j:a<d.size
  ·by_cases g:bP d a=0\/aF d a=10
   ·rw [aCg d (c+1) a b j i g] at e;simp at e
   ·have l:=aZy d a;simp only [gD,aH j,aI g] at e;by_cases k:b=20
    ·exfalso;subst k;have:∀c a b,20<b->gD d c a b=false:=by
      intro c;induction c with
      |zero=>intro a b f;simp [gD];omega
      |succ c ih=>
       intro a b f;simp only [gD];split
       ·split
        ·rfl
        ·exact ih _ _ (by omega)
       ·simp;omega
     rw [this _ _ _ (by omega)] at e;simp at e
    ·have:=ih (a+bP d a) (b+1) (by omega) (by omega) e;omega
  ·omega
theorem aM1(a:ByteArray)(b:eM a=true):0<a.size/\a.size<=80:=by
 refine ⟨?_,?_⟩
 ·rcases Nat.eq_zero_or_pos a.size with h0|h0
  ·unfold eM at b;rw [h0] at b;simp [gD] at b
  ·exact h0
 ·have:=aZz a a.size 0 0 (by omega) (by omega) b;omega
