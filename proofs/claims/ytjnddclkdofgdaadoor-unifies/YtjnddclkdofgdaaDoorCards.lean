/-
  DERIVED. GIVEN WITH THE SEED: THE CARDS: each row of YtjnddclkdofgdaaDoorRows.lean that lists a variable, with what it lists TIED to the program's text (the seventh form; the later family's looks); each row that meets fmt, with fmt's text TOLD by the authors' own Lean function (tested against real Go, not proved from fmt's source: count such statements apart). THE CARD IS WHAT COUNTS. Prove the row's statement (the work); the ties are given (YtjnddclkdofgdaaDoorTie.lean); close each card by the builder's one call (the guide's Derived/Test/ToyasCard.lean, 'card_holds'). Laid BY PROGRAM, IN A SANDBOX (cutbox-door.mjs). By AI agents, Wed Nov 11 2026. No macro, syntax, notation, axiom, sorry.
-/
import Derived.Test.YtjnddclkdofgdaaDoorRows
import GoSem.ClaimSeven
namespace Go.Proofs.YtjnddclkdofgdaaDoor
namespace Rows

/-- THE TIED CARD OF 'mootlaw.Prints'. -/
def printsCard : Claim7 := { stood := { row := printsRow, standIns := [], harness := (true, "6992fc9474a8c6a0372adc9eab9446261f9589da8a4d1803c958fe0d5017f086"), looks := false }, kinds := [], alts := [], laidByText := true, laidKinds := [.data, .data, .data, .data, .pinned], laidTests := true, laidLooks := .later }
def PrintsCardSaid : Prop := Claim7.holds Tryd.pinned (.plain (OpenSpec.ofChange printsSpec)) printsCard

/-- THE TIED CARD OF 'mootlaw.Unifies'. -/
def unifiesCard : Claim7 := { stood := { row := unifiesRow, standIns := [], harness := (true, "6992fc9474a8c6a0372adc9eab9446261f9589da8a4d1803c958fe0d5017f086"), looks := false }, kinds := [], alts := [], laidByText := true, laidKinds := [.data, .pinned], laidTests := true, laidLooks := .later }
def UnifiesCardSaid : Prop := Claim7.holds Tryd.pinned (.plain (OpenSpec.ofChange unifiesSpec)) unifiesCard

/-- THE TIED CARD OF 'mootlaw.Covered'. -/
def coveredCard : Claim7 := { stood := { row := coveredRow, standIns := [], harness := (true, "6992fc9474a8c6a0372adc9eab9446261f9589da8a4d1803c958fe0d5017f086"), looks := false }, kinds := [], alts := [], laidByText := true, laidKinds := [.data, .pinned], laidTests := true, laidLooks := .later }
def CoveredCardSaid : Prop := Claim7.holds Tryd.pinned (.plain (OpenSpec.ofChange coveredSpec)) coveredCard

/-- THE SECOND FORM's CARD OF 'mootlaw.Prints'. -/
def printsUptoCard : Claim7 := { stood := { row := printsUptoRow, standIns := [], harness := (true, "6992fc9474a8c6a0372adc9eab9446261f9589da8a4d1803c958fe0d5017f086"), looks := false }, kinds := [], alts := [], laidByText := true, laidKinds := [.data, .data, .data, .data, .pinned], laidTests := true, laidLooks := .later }
def PrintsUptoCardSaid : Prop := Claim7.holds Tryd.pinned (.plain (OpenSpec.upto printsSpec)) printsUptoCard

/-- THE SECOND FORM's CARD OF 'mootlaw.Unifies'. -/
def unifiesUptoCard : Claim7 := { stood := { row := unifiesUptoRow, standIns := [], harness := (true, "6992fc9474a8c6a0372adc9eab9446261f9589da8a4d1803c958fe0d5017f086"), looks := false }, kinds := [], alts := [], laidByText := true, laidKinds := [.data, .pinned], laidTests := true, laidLooks := .later }
def UnifiesUptoCardSaid : Prop := Claim7.holds Tryd.pinned (.plain (OpenSpec.upto unifiesSpec)) unifiesUptoCard

/-- THE SECOND FORM's CARD OF 'mootlaw.Covered'. -/
def coveredUptoCard : Claim7 := { stood := { row := coveredUptoRow, standIns := [], harness := (true, "6992fc9474a8c6a0372adc9eab9446261f9589da8a4d1803c958fe0d5017f086"), looks := false }, kinds := [], alts := [], laidByText := true, laidKinds := [.data, .pinned], laidTests := true, laidLooks := .later }
def CoveredUptoCardSaid : Prop := Claim7.holds Tryd.pinned (.plain (OpenSpec.upto coveredSpec)) coveredUptoCard
end Rows
end Go.Proofs.YtjnddclkdofgdaaDoor
