/-
  DERIVED. GIVEN WITH THE SEED: THE CARDS: each row of YthgpcgijhmgenaaDoorRows.lean that lists a variable, with what it lists TIED to the program's text (the seventh form; the later family's looks); each row that meets fmt, with fmt's text TOLD by the authors' own Lean function (tested against real Go, not proved from fmt's source: count such statements apart). THE CARD IS WHAT COUNTS. Prove the row's statement (the work); the ties are given (YthgpcgijhmgenaaDoorTie.lean); close each card by the builder's one call (the guide's Derived/Test/ToyasCard.lean, 'card_holds'). Laid BY PROGRAM, IN A SANDBOX (cutbox-door.mjs). By AI agents, Wed Nov 11 2026. No macro, syntax, notation, axiom, sorry.
-/
import Derived.Test.YthgpcgijhmgenaaDoorRows
import GoSem.ClaimSeven
namespace Go.Proofs.YthgpcgijhmgenaaDoor
namespace Rows

/-- THE TIED CARD OF 'algoristlaw04.PrimeMatchesReference'. -/
def primeMatchesReferenceCard : Claim7 := { stood := { row := primeMatchesReferenceRow, standIns := [], harness := (true, "d2314018b0fd6badd09ea1fcab4095b2fb6681f597c3da4bac8e7284eccd6a82"), looks := false }, kinds := [], alts := [], laidByText := true, laidKinds := [.data, .data], laidTests := true, laidLooks := .later }
def PrimeMatchesReferenceCardSaid : Prop := Claim7.holds Tryd.pinned (.plain (OpenSpec.ofChange primeMatchesReferenceSpec)) primeMatchesReferenceCard

/-- THE TIED CARD OF 'algoristlaw04.PrimeSieve'. -/
def primeSieveCard : Claim7 := { stood := { row := primeSieveRow, standIns := [], harness := (true, "d2314018b0fd6badd09ea1fcab4095b2fb6681f597c3da4bac8e7284eccd6a82"), looks := false }, kinds := [], alts := [], laidByText := true, laidKinds := [.data, .data], laidTests := true, laidLooks := .later }
def PrimeSieveCardSaid : Prop := Claim7.holds Tryd.pinned (.plain (OpenSpec.ofChange primeSieveSpec)) primeSieveCard

/-- THE TIED CARD OF 'algoristlaw04.PrimeAgrees'. -/
def primeAgreesCard : Claim7 := { stood := { row := primeAgreesRow, standIns := [], harness := (true, "d2314018b0fd6badd09ea1fcab4095b2fb6681f597c3da4bac8e7284eccd6a82"), looks := false }, kinds := [], alts := [], laidByText := true, laidKinds := [.data, .data], laidTests := true, laidLooks := .later }
def PrimeAgreesCardSaid : Prop := Claim7.holds Tryd.pinned (.plain (OpenSpec.ofChange primeAgreesSpec)) primeAgreesCard

/-- THE TIED CARD OF 'algoristlaw04.PrimeStrong'. -/
def primeStrongCard : Claim7 := { stood := { row := primeStrongRow, standIns := [], harness := (true, "d2314018b0fd6badd09ea1fcab4095b2fb6681f597c3da4bac8e7284eccd6a82"), looks := false }, kinds := [], alts := [], laidByText := true, laidKinds := [.data, .data], laidTests := true, laidLooks := .later }
def PrimeStrongCardSaid : Prop := Claim7.holds Tryd.pinned (.plain (OpenSpec.ofChange primeStrongSpec)) primeStrongCard

/-- THE TIED CARD OF 'algoristlaw04.PrimeNext'. -/
def primeNextCard : Claim7 := { stood := { row := primeNextRow, standIns := [], harness := (true, "d2314018b0fd6badd09ea1fcab4095b2fb6681f597c3da4bac8e7284eccd6a82"), looks := false }, kinds := [], alts := [], laidByText := true, laidKinds := [.data, .data], laidTests := true, laidLooks := .later }
def PrimeNextCardSaid : Prop := Claim7.holds Tryd.pinned (.plain (OpenSpec.ofChange primeNextSpec)) primeNextCard

/-- THE TIED CARD OF 'algoristlaw04.PrimeBases'. -/
def primeBasesCard : Claim7 := { stood := { row := primeBasesRow, standIns := [], harness := (true, "d2314018b0fd6badd09ea1fcab4095b2fb6681f597c3da4bac8e7284eccd6a82"), looks := false }, kinds := [], alts := [], laidByText := true, laidKinds := [.data, .data], laidTests := true, laidLooks := .later }
def PrimeBasesCardSaid : Prop := Claim7.holds Tryd.pinned (.plain (OpenSpec.ofChange primeBasesSpec)) primeBasesCard

/-- THE SECOND FORM's CARD OF 'algoristlaw04.PrimeMatchesReference'. -/
def primeMatchesReferenceUptoCard : Claim7 := { stood := { row := primeMatchesReferenceUptoRow, standIns := [], harness := (true, "d2314018b0fd6badd09ea1fcab4095b2fb6681f597c3da4bac8e7284eccd6a82"), looks := false }, kinds := [], alts := [], laidByText := true, laidKinds := [.data, .data], laidTests := true, laidLooks := .later }
def PrimeMatchesReferenceUptoCardSaid : Prop := Claim7.holds Tryd.pinned (.plain (OpenSpec.upto primeMatchesReferenceSpec)) primeMatchesReferenceUptoCard

/-- THE SECOND FORM's CARD OF 'algoristlaw04.PrimeSieve'. -/
def primeSieveUptoCard : Claim7 := { stood := { row := primeSieveUptoRow, standIns := [], harness := (true, "d2314018b0fd6badd09ea1fcab4095b2fb6681f597c3da4bac8e7284eccd6a82"), looks := false }, kinds := [], alts := [], laidByText := true, laidKinds := [.data, .data], laidTests := true, laidLooks := .later }
def PrimeSieveUptoCardSaid : Prop := Claim7.holds Tryd.pinned (.plain (OpenSpec.upto primeSieveSpec)) primeSieveUptoCard

/-- THE SECOND FORM's CARD OF 'algoristlaw04.PrimeAgrees'. -/
def primeAgreesUptoCard : Claim7 := { stood := { row := primeAgreesUptoRow, standIns := [], harness := (true, "d2314018b0fd6badd09ea1fcab4095b2fb6681f597c3da4bac8e7284eccd6a82"), looks := false }, kinds := [], alts := [], laidByText := true, laidKinds := [.data, .data], laidTests := true, laidLooks := .later }
def PrimeAgreesUptoCardSaid : Prop := Claim7.holds Tryd.pinned (.plain (OpenSpec.upto primeAgreesSpec)) primeAgreesUptoCard

/-- THE SECOND FORM's CARD OF 'algoristlaw04.PrimeStrong'. -/
def primeStrongUptoCard : Claim7 := { stood := { row := primeStrongUptoRow, standIns := [], harness := (true, "d2314018b0fd6badd09ea1fcab4095b2fb6681f597c3da4bac8e7284eccd6a82"), looks := false }, kinds := [], alts := [], laidByText := true, laidKinds := [.data, .data], laidTests := true, laidLooks := .later }
def PrimeStrongUptoCardSaid : Prop := Claim7.holds Tryd.pinned (.plain (OpenSpec.upto primeStrongSpec)) primeStrongUptoCard

/-- THE SECOND FORM's CARD OF 'algoristlaw04.PrimeNext'. -/
def primeNextUptoCard : Claim7 := { stood := { row := primeNextUptoRow, standIns := [], harness := (true, "d2314018b0fd6badd09ea1fcab4095b2fb6681f597c3da4bac8e7284eccd6a82"), looks := false }, kinds := [], alts := [], laidByText := true, laidKinds := [.data, .data], laidTests := true, laidLooks := .later }
def PrimeNextUptoCardSaid : Prop := Claim7.holds Tryd.pinned (.plain (OpenSpec.upto primeNextSpec)) primeNextUptoCard

/-- THE SECOND FORM's CARD OF 'algoristlaw04.PrimeBases'. -/
def primeBasesUptoCard : Claim7 := { stood := { row := primeBasesUptoRow, standIns := [], harness := (true, "d2314018b0fd6badd09ea1fcab4095b2fb6681f597c3da4bac8e7284eccd6a82"), looks := false }, kinds := [], alts := [], laidByText := true, laidKinds := [.data, .data], laidTests := true, laidLooks := .later }
def PrimeBasesUptoCardSaid : Prop := Claim7.holds Tryd.pinned (.plain (OpenSpec.upto primeBasesSpec)) primeBasesUptoCard
end Rows
end Go.Proofs.YthgpcgijhmgenaaDoor
