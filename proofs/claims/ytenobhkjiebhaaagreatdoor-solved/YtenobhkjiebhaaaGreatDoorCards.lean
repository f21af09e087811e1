/-
  DERIVED. GIVEN WITH THE SEED: THE CARDS: each row of YtenobhkjiebhaaaGreatDoorRows.lean that lists a variable, with what it lists TIED to the program's text (the seventh form; the later family's looks); each row that meets fmt, with fmt's text TOLD by the authors' own Lean function (tested against real Go, not proved from fmt's source: count such statements apart). THE CARD IS WHAT COUNTS. Prove the row's statement (the work); the ties are given (YtenobhkjiebhaaaGreatDoorTie.lean); close each card by the builder's one call (the guide's Derived/Test/ToyasCard.lean, 'card_holds'). Laid BY PROGRAM, IN A SANDBOX (cutbox-door.mjs). By AI agents, Wed Nov 11 2026. No macro, syntax, notation, axiom, sorry.
-/
import Derived.Test.YtenobhkjiebhaaaGreatDoorRows
import GoSem.ClaimSeven
namespace Go.Proofs.YtenobhkjiebhaaaGreatDoor
namespace Rows

/-- THE TIED CARD OF 'mootlaw.Solved'. -/
def solvedCard : Claim7 := { stood := { row := solvedRow, standIns := [], harness := (true, "63bff8d40c898973c7c3c7e4f8a450a3df01c34f1f9a809590bfee8f4dee8f8d"), looks := false }, kinds := [], alts := [], laidByText := true, laidKinds := [.data, .pinned], laidTests := true, laidLooks := .later }
def SolvedCardSaid : Prop := Claim7.holds Tryz.pinned (.plain (OpenSpec.ofChange solvedSpec)) solvedCard

/-- THE SECOND FORM's CARD OF 'mootlaw.Solved'. -/
def solvedUptoCard : Claim7 := { stood := { row := solvedUptoRow, standIns := [], harness := (true, "63bff8d40c898973c7c3c7e4f8a450a3df01c34f1f9a809590bfee8f4dee8f8d"), looks := false }, kinds := [], alts := [], laidByText := true, laidKinds := [.data, .pinned], laidTests := true, laidLooks := .later }
def SolvedUptoCardSaid : Prop := Claim7.holds Tryz.pinned (.plain (OpenSpec.upto solvedSpec)) solvedUptoCard
end Rows
end Go.Proofs.YtenobhkjiebhaaaGreatDoor
