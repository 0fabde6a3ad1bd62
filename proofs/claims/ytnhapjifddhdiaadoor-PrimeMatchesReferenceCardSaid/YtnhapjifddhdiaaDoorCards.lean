/-
  DERIVED. GIVEN WITH THE SEED: THE CARDS: each row of YtnhapjifddhdiaaDoorRows.lean that lists a variable, with what it lists TIED to the program's text (the seventh form; the later family's looks); each row that meets fmt, with fmt's text TOLD by the authors' own Lean function (tested against real Go, not proved from fmt's source: count such statements apart). THE CARD IS WHAT COUNTS. Prove the row's statement (the work); the ties are given (YtnhapjifddhdiaaDoorTie.lean); close each card by the builder's one call (the guide's Derived/Test/ToyasCard.lean, 'card_holds'). Laid BY PROGRAM, IN A SANDBOX (cutbox-door.mjs). By AI agents, Wed Nov 11 2026. No macro, syntax, notation, axiom, sorry.
-/
import Derived.Test.YtnhapjifddhdiaaDoorRows
import GoSem.ClaimSeven
namespace Go.Proofs.YtnhapjifddhdiaaDoor
namespace Rows

/-- THE TIED CARD OF 'algoristlaw04.PrimeMatchesReference'. -/
def primeMatchesReferenceCard : Claim7 := { stood := { row := primeMatchesReferenceRow, standIns := [], harness := (true, "6e7688ebd924c84614585692415ce3513b4e5a5ababa16e317d275339bf3c0ec"), looks := false }, kinds := [], alts := [], laidByText := true, laidKinds := [.data, .data], laidTests := true, laidLooks := .later }
def PrimeMatchesReferenceCardSaid : Prop := Claim7.holds Tryd.pinned (.plain (OpenSpec.ofChange primeMatchesReferenceSpec)) primeMatchesReferenceCard

/-- THE SECOND FORM's CARD OF 'algoristlaw04.PrimeMatchesReference'. -/
def primeMatchesReferenceUptoCard : Claim7 := { stood := { row := primeMatchesReferenceUptoRow, standIns := [], harness := (true, "6e7688ebd924c84614585692415ce3513b4e5a5ababa16e317d275339bf3c0ec"), looks := false }, kinds := [], alts := [], laidByText := true, laidKinds := [.data, .data], laidTests := true, laidLooks := .later }
def PrimeMatchesReferenceUptoCardSaid : Prop := Claim7.holds Tryd.pinned (.plain (OpenSpec.upto primeMatchesReferenceSpec)) primeMatchesReferenceUptoCard
end Rows
end Go.Proofs.YtnhapjifddhdiaaDoor
