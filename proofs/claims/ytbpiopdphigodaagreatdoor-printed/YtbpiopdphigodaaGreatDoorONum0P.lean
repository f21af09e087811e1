import Derived.Test.YtbpiopdphigodaaGreatDoorBase0P
import Derived.Maps.OwnSet
import Derived.Maps.Keyed
namespace Go.Proofs.YtbpiopdphigodaaGreatDoor
open Go.RowKit Go.WideMaps
theorem yI{a:DataW Unit}(g:Maps.IsMap a){c:Lit}(b:Maps.has a c=false)(e:DataW Unit):a.atKey c e=e:=by
 obtain ⟨f,rfl⟩:=g;rw [Maps.has_eq] at b;have:f.find? (λd=>d.1.sameKey c)=none:=by rw [List.find?_eq_none];intro d i;rw [List.any_eq_false] at b;exact b d i
 simp [DataW.atKey,this]
