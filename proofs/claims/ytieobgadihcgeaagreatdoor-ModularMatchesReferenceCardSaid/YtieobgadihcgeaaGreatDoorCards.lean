/-
  DERIVED. GIVEN WITH THE SEED: THE CARDS: each row of YtieobgadihcgeaaGreatDoorRows.lean that lists a variable, with what it lists TIED to the program's text (the seventh form; the later family's looks); each row that meets fmt, with fmt's text TOLD by the authors' own Lean function (tested against real Go, not proved from fmt's source: count such statements apart). THE CARD IS WHAT COUNTS. Prove the row's statement (the work); the ties are given (YtieobgadihcgeaaGreatDoorTie.lean); close each card by the builder's one call (the guide's Derived/Test/ToyasCard.lean, 'card_holds'). Laid BY PROGRAM, IN A SANDBOX (cutbox-door.mjs). By AI agents, Wed Nov 11 2026. No macro, syntax, notation, axiom, sorry.
-/
import Derived.Test.YtieobgadihcgeaaGreatDoorRows
import GoSem.ClaimSeven
namespace Go.Proofs.YtieobgadihcgeaaGreatDoor
namespace Rows

/-- THE TIED CARD OF 'algoristlaw03.ModularMatchesReference'. -/
def modularMatchesReferenceCard : Claim7 := { stood := { row := modularMatchesReferenceRow, standIns := [], harness := (true, "a355323e5b81379ab5d60878c37f2182525851131934ebe9e50375da89767a63"), looks := false }, kinds := [], alts := [], laidByText := true, laidKinds := [.data, .data], laidTests := true, laidLooks := .later }
def ModularMatchesReferenceCardSaid : Prop := Claim7.holds Tryz.pinned (.plain (OpenSpec.ofChange modularMatchesReferenceSpec)) modularMatchesReferenceCard

/-- THE SECOND FORM's CARD OF 'algoristlaw03.ModularMatchesReference'. -/
def modularMatchesReferenceUptoCard : Claim7 := { stood := { row := modularMatchesReferenceUptoRow, standIns := [], harness := (true, "a355323e5b81379ab5d60878c37f2182525851131934ebe9e50375da89767a63"), looks := false }, kinds := [], alts := [], laidByText := true, laidKinds := [.data, .data], laidTests := true, laidLooks := .later }
def ModularMatchesReferenceUptoCardSaid : Prop := Claim7.holds Tryz.pinned (.plain (OpenSpec.upto modularMatchesReferenceSpec)) modularMatchesReferenceUptoCard
end Rows
end Go.Proofs.YtieobgadihcgeaaGreatDoor
