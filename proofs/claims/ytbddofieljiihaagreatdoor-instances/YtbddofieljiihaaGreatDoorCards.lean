/-
  DERIVED. GIVEN WITH THE SEED: THE CARDS: each row of YtbddofieljiihaaGreatDoorRows.lean that lists a variable, with what it lists TIED to the program's text (the seventh form; the later family's looks); each row that meets fmt, with fmt's text TOLD by the authors' own Lean function (tested against real Go, not proved from fmt's source: count such statements apart). THE CARD IS WHAT COUNTS. Prove the row's statement (the work); the ties are given (YtbddofieljiihaaGreatDoorTie.lean); close each card by the builder's one call (the guide's Derived/Test/ToyasCard.lean, 'card_holds'). Laid BY PROGRAM, IN A SANDBOX (cutbox-door.mjs). By AI agents, Wed Nov 11 2026. No macro, syntax, notation, axiom, sorry.
-/
import Derived.Test.YtbddofieljiihaaGreatDoorRows
import GoSem.ClaimSeven
namespace Go.Proofs.YtbddofieljiihaaGreatDoor
namespace Rows

/-- THE TIED CARD OF 'mootkeep.Instances'. -/
def instancesCard : Claim7 := { stood := { row := instancesRow, standIns := [], harness := (true, "3380fac1fe57920798167fd922d18b22b8ee52a53d8f1eca5766079a24963e7e"), looks := false }, kinds := [], alts := [], laidByText := true, laidKinds := [.data, .pinned], laidTests := true, laidLooks := .later }
def InstancesCardSaid : Prop := Claim7.holds Tryz.pinned (.plain (OpenSpec.ofChange instancesSpec)) instancesCard

/-- THE SECOND FORM's CARD OF 'mootkeep.Instances'. -/
def instancesUptoCard : Claim7 := { stood := { row := instancesUptoRow, standIns := [], harness := (true, "3380fac1fe57920798167fd922d18b22b8ee52a53d8f1eca5766079a24963e7e"), looks := false }, kinds := [], alts := [], laidByText := true, laidKinds := [.data, .pinned], laidTests := true, laidLooks := .later }
def InstancesUptoCardSaid : Prop := Claim7.holds Tryz.pinned (.plain (OpenSpec.upto instancesSpec)) instancesUptoCard
end Rows
end Go.Proofs.YtbddofieljiihaaGreatDoor
