/- A map that has no such key. -/
import Derived.Test.YthicbnejchpmgaaGreatDoorBase0D
import Derived.Maps.OwnSet
import Derived.Maps.Keyed
namespace Go.Proofs.YthicbnejchpmgaaGreatDoor
open Go.RowKit Go.WideMaps
theorem wN {D:DataW Unit} (hD:Maps.IsMap D) {k:Lit} (h:Maps.has D k=false) (z:DataW Unit):D.atKey k z=z:=by
 obtain ⟨es,rfl⟩:=hD
 rw [Maps.has_eq] at h
 have:es.find? (fun p=>p.1.sameKey k)=none:=by
  rw [List.find?_eq_none]
  intro p hp
  rw [List.any_eq_false] at h
  exact h p hp
 simp [DataW.atKey,this]
end Go.Proofs.YthicbnejchpmgaaGreatDoor
