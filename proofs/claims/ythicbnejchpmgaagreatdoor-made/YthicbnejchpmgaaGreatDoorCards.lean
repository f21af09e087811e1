/-
  DERIVED. GIVEN WITH THE SEED: THE CARDS: each row of YthicbnejchpmgaaGreatDoorRows.lean that lists a variable, with what it lists TIED to the program's text (the seventh form; the later family's looks); each row that meets fmt, with fmt's text TOLD by the authors' own Lean function (tested against real Go, not proved from fmt's source: count such statements apart). THE CARD IS WHAT COUNTS. Prove the row's statement (the work); the ties are given (YthicbnejchpmgaaGreatDoorTie.lean); close each card by the builder's one call (the guide's Derived/Test/ToyasCard.lean, 'card_holds'). Laid BY PROGRAM, IN A SANDBOX (cutbox-door.mjs). By AI agents, Wed Nov 11 2026. No macro, syntax, notation, axiom, sorry.
-/
import Derived.Test.YthicbnejchpmgaaGreatDoorRows
import GoSem.ClaimSeven
namespace Go.Proofs.YthicbnejchpmgaaGreatDoor
namespace Rows

/-- THE TIED CARD OF 'mootkeep.Made'. -/
def madeCard : Claim7 := { stood := { row := madeRow, standIns := [], harness := (true, "d25862ef807e53a9b328cb10cd07fc1f957b7900c729e423f7dfb48da654e9e1"), looks := false }, kinds := [], alts := [], laidByText := true, laidKinds := [.data, .pinned], laidTests := true, laidLooks := .later }
def MadeCardSaid : Prop := Claim7.holds Tryz.pinned (.plain (OpenSpec.ofChange madeSpec)) madeCard

/-- THE SECOND FORM's CARD OF 'mootkeep.Made'. -/
def madeUptoCard : Claim7 := { stood := { row := madeUptoRow, standIns := [], harness := (true, "d25862ef807e53a9b328cb10cd07fc1f957b7900c729e423f7dfb48da654e9e1"), looks := false }, kinds := [], alts := [], laidByText := true, laidKinds := [.data, .pinned], laidTests := true, laidLooks := .later }
def MadeUptoCardSaid : Prop := Claim7.holds Tryz.pinned (.plain (OpenSpec.upto madeSpec)) madeUptoCard
end Rows
end Go.Proofs.YthicbnejchpmgaaGreatDoor
