/-
  DERIVED. GIVEN WITH THE SEED: THE CARDS: each row of YtmelidkanelpbaaGreatDoorRows.lean that lists a variable, with what it lists TIED to the program's text (the seventh form; the later family's looks); each row that meets fmt, with fmt's text TOLD by the authors' own Lean function (tested against real Go, not proved from fmt's source: count such statements apart). THE CARD IS WHAT COUNTS. Prove the row's statement (the work); the ties are given (YtmelidkanelpbaaGreatDoorTie.lean); close each card by the builder's one call (the guide's Derived/Test/ToyasCard.lean, 'card_holds'). Laid BY PROGRAM, IN A SANDBOX (cutbox-door.mjs). By AI agents, Wed Nov 11 2026. No macro, syntax, notation, axiom, sorry.
-/
import Derived.Test.YtmelidkanelpbaaGreatDoorRows
import GoSem.ClaimSeven
namespace Go.Proofs.YtmelidkanelpbaaGreatDoor
namespace Rows

/-- THE TIED CARD OF 'mootkeep.Turned'. -/
def turnedCard : Claim7 := { stood := { row := turnedRow, standIns := [], harness := (true, "6d2c79b451a2800557f4ff87667ce2207a193533aa8fc3bab26ab750ab949189"), looks := false }, kinds := [], alts := [], laidByText := true, laidKinds := [.data, .pinned], laidTests := true, laidLooks := .later }
def TurnedCardSaid : Prop := Claim7.holds Tryz.pinned (.plain (OpenSpec.ofChange turnedSpec)) turnedCard

/-- THE TIED CARD OF 'mootkeep.Grounded'. -/
def groundedCard : Claim7 := { stood := { row := groundedRow, standIns := [], harness := (true, "6d2c79b451a2800557f4ff87667ce2207a193533aa8fc3bab26ab750ab949189"), looks := false }, kinds := [], alts := [], laidByText := true, laidKinds := [.data, .pinned], laidTests := true, laidLooks := .later }
def GroundedCardSaid : Prop := Claim7.holds Tryz.pinned (.plain (OpenSpec.ofChange groundedSpec)) groundedCard

/-- THE TIED CARD OF 'mootkeep.Chosen'. -/
def chosenCard : Claim7 := { stood := { row := chosenRow, standIns := [], harness := (true, "6d2c79b451a2800557f4ff87667ce2207a193533aa8fc3bab26ab750ab949189"), looks := false }, kinds := [], alts := [], laidByText := true, laidKinds := [.data, .pinned], laidTests := true, laidLooks := .later }
def ChosenCardSaid : Prop := Claim7.holds Tryz.pinned (.plain (OpenSpec.ofChange chosenSpec)) chosenCard

/-- THE SECOND FORM's CARD OF 'mootkeep.Turned'. -/
def turnedUptoCard : Claim7 := { stood := { row := turnedUptoRow, standIns := [], harness := (true, "6d2c79b451a2800557f4ff87667ce2207a193533aa8fc3bab26ab750ab949189"), looks := false }, kinds := [], alts := [], laidByText := true, laidKinds := [.data, .pinned], laidTests := true, laidLooks := .later }
def TurnedUptoCardSaid : Prop := Claim7.holds Tryz.pinned (.plain (OpenSpec.upto turnedSpec)) turnedUptoCard

/-- THE SECOND FORM's CARD OF 'mootkeep.Grounded'. -/
def groundedUptoCard : Claim7 := { stood := { row := groundedUptoRow, standIns := [], harness := (true, "6d2c79b451a2800557f4ff87667ce2207a193533aa8fc3bab26ab750ab949189"), looks := false }, kinds := [], alts := [], laidByText := true, laidKinds := [.data, .pinned], laidTests := true, laidLooks := .later }
def GroundedUptoCardSaid : Prop := Claim7.holds Tryz.pinned (.plain (OpenSpec.upto groundedSpec)) groundedUptoCard

/-- THE SECOND FORM's CARD OF 'mootkeep.Chosen'. -/
def chosenUptoCard : Claim7 := { stood := { row := chosenUptoRow, standIns := [], harness := (true, "6d2c79b451a2800557f4ff87667ce2207a193533aa8fc3bab26ab750ab949189"), looks := false }, kinds := [], alts := [], laidByText := true, laidKinds := [.data, .pinned], laidTests := true, laidLooks := .later }
def ChosenUptoCardSaid : Prop := Claim7.holds Tryz.pinned (.plain (OpenSpec.upto chosenSpec)) chosenUptoCard
end Rows
end Go.Proofs.YtmelidkanelpbaaGreatDoor
