/- How long a name can be. -/
import Derived.Test.YtbddofieljiihaaGreatDoorBase0I
namespace Go.Proofs.YtbddofieljiihaaGreatDoor
open Go.RowKit
theorem kK (x:ByteArray):x.size=x.data.toList.length:=rfl
theorem aRi (s:ByteArray) (p:Nat):bD s p≤4:=by
 have hz:cK (aC s p)≤4:=by unfold cK;split <;> (try split) <;> (try split) <;> (try split) <;> (try split) <;> omega
 simp only [bD]
 split
 ·omega
 ·split
  ·omega
  ·split <;> omega
theorem aRj (s:ByteArray):∀f p m,s.size - p≤f→m≤20→eW s f p m=true→s.size≤p+4 * (20 - m):=by
 intro f
 induction f with
 | zero=>intro p m hf hm h;omega
 | succ f ih=>
  intro p m hf hm h
  by_cases hp:p < s.size
  ·by_cases hb:bD s p=0∨aC s p=10
   ·rw [yE s (f+1) p m hp hf hb] at h;simp at h
   ·have hc:=aRi s p
    simp only [eW,if_pos hp,if_neg hb] at h
    by_cases hm20:m=20
    ·exfalso
     subst hm20
     have:∀f p m,20 < m→eW s f p m=false:=by
      intro f
      induction f with
      | zero=>intro p m hm;simp [eW];omega
      | succ f ih=>
       intro p m hm
       simp only [eW]
       split
       ·split
        ·rfl
        ·exact ih _ _ (by omega)
       ·simp;omega
     rw [this _ _ _ (by omega)] at h
     simp at h
    ·have:=ih (p+bD s p) (m+1) (by omega) (by omega) h
     omega
  ·omega
theorem aFt (s:ByteArray) (h:dW s=true):0 < s.size∧s.size≤80:=by
 refine ⟨?_,?_⟩
 ·rcases Nat.eq_zero_or_pos s.size with h0 | h0
  ·unfold dW at h;rw [h0] at h;simp [eW] at h
  ·exact h0
 ·have:=aRj s s.size 0 0 (by omega) (by omega) h
  omega
end Go.Proofs.YtbddofieljiihaaGreatDoor
