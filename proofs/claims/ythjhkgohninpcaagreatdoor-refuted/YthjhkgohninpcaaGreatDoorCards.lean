/-
  DERIVED. GIVEN WITH THE SEED: THE CARDS: each row of YthjhkgohninpcaaGreatDoorRows.lean that lists a variable, with what it lists TIED to the program's text (the seventh form; the later family's looks); each row that meets fmt, with fmt's text TOLD by the authors' own Lean function (tested against real Go, not proved from fmt's source: count such statements apart). THE CARD IS WHAT COUNTS. Prove the row's statement (the work); the ties are given (YthjhkgohninpcaaGreatDoorTie.lean); close each card by the builder's one call (the guide's Derived/Test/ToyasCard.lean, 'card_holds'). Laid BY PROGRAM, IN A SANDBOX (cutbox-door.mjs). By AI agents, Wed Nov 11 2026. No macro, syntax, notation, axiom, sorry.
-/
import Derived.Test.YthjhkgohninpcaaGreatDoorRows
import GoSem.ClaimSeven
namespace Go.Proofs.YthjhkgohninpcaaGreatDoor
namespace Rows

/-- THE TIED CARD OF 'mootlaw.Refuted'. -/
def refutedCard : Claim7 := { stood := { row := refutedRow, standIns := [], harness := (true, "eac56324498798de3aecf817dc3aafdb9def7e4c5baa67939917174882514d0c"), looks := false }, kinds := [], alts := [], laidByText := true, laidKinds := [.data, .pinned], laidTests := true, laidLooks := .later }
def RefutedCardSaid : Prop := Claim7.holds Tryz.pinned (.plain (OpenSpec.ofChange refutedSpec)) refutedCard

/-- THE SECOND FORM's CARD OF 'mootlaw.Refuted'. -/
def refutedUptoCard : Claim7 := { stood := { row := refutedUptoRow, standIns := [], harness := (true, "eac56324498798de3aecf817dc3aafdb9def7e4c5baa67939917174882514d0c"), looks := false }, kinds := [], alts := [], laidByText := true, laidKinds := [.data, .pinned], laidTests := true, laidLooks := .later }
def RefutedUptoCardSaid : Prop := Claim7.holds Tryz.pinned (.plain (OpenSpec.upto refutedSpec)) refutedUptoCard
end Rows
end Go.Proofs.YthjhkgohninpcaaGreatDoor
