/-
  DERIVED. GIVEN WITH THE SEED: THE CARDS: each row of YtcldkjcpofjmhaaGreatDoorRows.lean that lists a variable, with what it lists TIED to the program's text (the seventh form; the later family's looks); each row that meets fmt, with fmt's text TOLD by the authors' own Lean function (tested against real Go, not proved from fmt's source: count such statements apart). THE CARD IS WHAT COUNTS. Prove the row's statement (the work); the ties are given (YtcldkjcpofjmhaaGreatDoorTie.lean); close each card by the builder's one call (the guide's Derived/Test/ToyasCard.lean, 'card_holds'). Laid BY PROGRAM, IN A SANDBOX (cutbox-door.mjs). By AI agents, Wed Nov 11 2026. No macro, syntax, notation, axiom, sorry.
-/
import Derived.Test.YtcldkjcpofjmhaaGreatDoorRows
import GoSem.ClaimSeven
namespace Go.Proofs.YtcldkjcpofjmhaaGreatDoor
namespace Rows

/-- THE TIED CARD OF 'mootlaw.Resolved'. -/
def resolvedCard : Claim7 := { stood := { row := resolvedRow, standIns := [], harness := (true, "f03c89d1126cac6523a94607ada00c430e2459b41ffab22033939c848b9bd234"), looks := false }, kinds := [], alts := [], laidByText := true, laidKinds := [.data, .pinned], laidTests := true, laidLooks := .later }
def ResolvedCardSaid : Prop := Claim7.holds Tryz.pinned (.plain (OpenSpec.ofChange resolvedSpec)) resolvedCard

/-- THE TIED CARD OF 'mootlaw.Factored'. -/
def factoredCard : Claim7 := { stood := { row := factoredRow, standIns := [], harness := (true, "f03c89d1126cac6523a94607ada00c430e2459b41ffab22033939c848b9bd234"), looks := false }, kinds := [], alts := [], laidByText := true, laidKinds := [.data, .pinned], laidTests := true, laidLooks := .later }
def FactoredCardSaid : Prop := Claim7.holds Tryz.pinned (.plain (OpenSpec.ofChange factoredSpec)) factoredCard

/-- THE SECOND FORM's CARD OF 'mootlaw.Resolved'. -/
def resolvedUptoCard : Claim7 := { stood := { row := resolvedUptoRow, standIns := [], harness := (true, "f03c89d1126cac6523a94607ada00c430e2459b41ffab22033939c848b9bd234"), looks := false }, kinds := [], alts := [], laidByText := true, laidKinds := [.data, .pinned], laidTests := true, laidLooks := .later }
def ResolvedUptoCardSaid : Prop := Claim7.holds Tryz.pinned (.plain (OpenSpec.upto resolvedSpec)) resolvedUptoCard

/-- THE SECOND FORM's CARD OF 'mootlaw.Factored'. -/
def factoredUptoCard : Claim7 := { stood := { row := factoredUptoRow, standIns := [], harness := (true, "f03c89d1126cac6523a94607ada00c430e2459b41ffab22033939c848b9bd234"), looks := false }, kinds := [], alts := [], laidByText := true, laidKinds := [.data, .pinned], laidTests := true, laidLooks := .later }
def FactoredUptoCardSaid : Prop := Claim7.holds Tryz.pinned (.plain (OpenSpec.upto factoredSpec)) factoredUptoCard
end Rows
end Go.Proofs.YtcldkjcpofjmhaaGreatDoor
