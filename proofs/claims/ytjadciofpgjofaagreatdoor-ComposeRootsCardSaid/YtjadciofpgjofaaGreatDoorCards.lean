/-
  DERIVED. GIVEN WITH THE SEED: THE CARDS: each row of YtjadciofpgjofaaGreatDoorRows.lean that lists a variable, with what it lists TIED to the program's text (the seventh form; the later family's looks); each row that meets fmt, with fmt's text TOLD by the authors' own Lean function (tested against real Go, not proved from fmt's source: count such statements apart). THE CARD IS WHAT COUNTS. Prove the row's statement (the work); the ties are given (YtjadciofpgjofaaGreatDoorTie.lean); close each card by the builder's one call (the guide's Derived/Test/ToyasCard.lean, 'card_holds'). Laid BY PROGRAM, IN A SANDBOX (cutbox-door.mjs). By AI agents, Wed Nov 11 2026. No macro, syntax, notation, axiom, sorry.
-/
import Derived.Test.YtjadciofpgjofaaGreatDoorRows
import GoSem.ClaimSeven
namespace Go.Proofs.YtjadciofpgjofaaGreatDoor
namespace Rows

/-- THE TIED CARD OF 'algoristlaw09.ComposeMatchesReference'. -/
def composeMatchesReferenceCard : Claim7 := { stood := { row := composeMatchesReferenceRow, standIns := [], harness := (true, "234a53ada90cfb7d86f9284c5220d4200069ea33484bfe235e42003ee99cb7f3"), looks := false }, kinds := [], alts := [], laidByText := true, laidKinds := [.data, .data], laidTests := true, laidLooks := .later }
def ComposeMatchesReferenceCardSaid : Prop := Claim7.holds Tryz.pinned (.plain (OpenSpec.ofChange composeMatchesReferenceSpec)) composeMatchesReferenceCard

/-- THE TIED CARD OF 'algoristlaw09.ComposeGroup'. -/
def composeGroupCard : Claim7 := { stood := { row := composeGroupRow, standIns := [], harness := (true, "234a53ada90cfb7d86f9284c5220d4200069ea33484bfe235e42003ee99cb7f3"), looks := false }, kinds := [], alts := [], laidByText := true, laidKinds := [.data, .data], laidTests := true, laidLooks := .later }
def ComposeGroupCardSaid : Prop := Claim7.holds Tryz.pinned (.plain (OpenSpec.ofChange composeGroupSpec)) composeGroupCard

/-- THE TIED CARD OF 'algoristlaw09.ComposeValues'. -/
def composeValuesCard : Claim7 := { stood := { row := composeValuesRow, standIns := [], harness := (true, "234a53ada90cfb7d86f9284c5220d4200069ea33484bfe235e42003ee99cb7f3"), looks := false }, kinds := [], alts := [], laidByText := true, laidKinds := [.data, .data], laidTests := true, laidLooks := .later }
def ComposeValuesCardSaid : Prop := Claim7.holds Tryz.pinned (.plain (OpenSpec.ofChange composeValuesSpec)) composeValuesCard

/-- THE TIED CARD OF 'algoristlaw09.ComposePowers'. -/
def composePowersCard : Claim7 := { stood := { row := composePowersRow, standIns := [], harness := (true, "234a53ada90cfb7d86f9284c5220d4200069ea33484bfe235e42003ee99cb7f3"), looks := false }, kinds := [], alts := [], laidByText := true, laidKinds := [.data, .data], laidTests := true, laidLooks := .later }
def ComposePowersCardSaid : Prop := Claim7.holds Tryz.pinned (.plain (OpenSpec.ofChange composePowersSpec)) composePowersCard

/-- THE TIED CARD OF 'algoristlaw09.ComposePrimes'. -/
def composePrimesCard : Claim7 := { stood := { row := composePrimesRow, standIns := [], harness := (true, "234a53ada90cfb7d86f9284c5220d4200069ea33484bfe235e42003ee99cb7f3"), looks := false }, kinds := [], alts := [], laidByText := true, laidKinds := [.data, .data], laidTests := true, laidLooks := .later }
def ComposePrimesCardSaid : Prop := Claim7.holds Tryz.pinned (.plain (OpenSpec.ofChange composePrimesSpec)) composePrimesCard

/-- THE TIED CARD OF 'algoristlaw09.ComposeRoots'. -/
def composeRootsCard : Claim7 := { stood := { row := composeRootsRow, standIns := [], harness := (true, "234a53ada90cfb7d86f9284c5220d4200069ea33484bfe235e42003ee99cb7f3"), looks := false }, kinds := [], alts := [], laidByText := true, laidKinds := [.data, .data], laidTests := true, laidLooks := .later }
def ComposeRootsCardSaid : Prop := Claim7.holds Tryz.pinned (.plain (OpenSpec.ofChange composeRootsSpec)) composeRootsCard

/-- THE SECOND FORM's CARD OF 'algoristlaw09.ComposeMatchesReference'. -/
def composeMatchesReferenceUptoCard : Claim7 := { stood := { row := composeMatchesReferenceUptoRow, standIns := [], harness := (true, "234a53ada90cfb7d86f9284c5220d4200069ea33484bfe235e42003ee99cb7f3"), looks := false }, kinds := [], alts := [], laidByText := true, laidKinds := [.data, .data], laidTests := true, laidLooks := .later }
def ComposeMatchesReferenceUptoCardSaid : Prop := Claim7.holds Tryz.pinned (.plain (OpenSpec.upto composeMatchesReferenceSpec)) composeMatchesReferenceUptoCard

/-- THE SECOND FORM's CARD OF 'algoristlaw09.ComposeGroup'. -/
def composeGroupUptoCard : Claim7 := { stood := { row := composeGroupUptoRow, standIns := [], harness := (true, "234a53ada90cfb7d86f9284c5220d4200069ea33484bfe235e42003ee99cb7f3"), looks := false }, kinds := [], alts := [], laidByText := true, laidKinds := [.data, .data], laidTests := true, laidLooks := .later }
def ComposeGroupUptoCardSaid : Prop := Claim7.holds Tryz.pinned (.plain (OpenSpec.upto composeGroupSpec)) composeGroupUptoCard

/-- THE SECOND FORM's CARD OF 'algoristlaw09.ComposeValues'. -/
def composeValuesUptoCard : Claim7 := { stood := { row := composeValuesUptoRow, standIns := [], harness := (true, "234a53ada90cfb7d86f9284c5220d4200069ea33484bfe235e42003ee99cb7f3"), looks := false }, kinds := [], alts := [], laidByText := true, laidKinds := [.data, .data], laidTests := true, laidLooks := .later }
def ComposeValuesUptoCardSaid : Prop := Claim7.holds Tryz.pinned (.plain (OpenSpec.upto composeValuesSpec)) composeValuesUptoCard

/-- THE SECOND FORM's CARD OF 'algoristlaw09.ComposePowers'. -/
def composePowersUptoCard : Claim7 := { stood := { row := composePowersUptoRow, standIns := [], harness := (true, "234a53ada90cfb7d86f9284c5220d4200069ea33484bfe235e42003ee99cb7f3"), looks := false }, kinds := [], alts := [], laidByText := true, laidKinds := [.data, .data], laidTests := true, laidLooks := .later }
def ComposePowersUptoCardSaid : Prop := Claim7.holds Tryz.pinned (.plain (OpenSpec.upto composePowersSpec)) composePowersUptoCard

/-- THE SECOND FORM's CARD OF 'algoristlaw09.ComposePrimes'. -/
def composePrimesUptoCard : Claim7 := { stood := { row := composePrimesUptoRow, standIns := [], harness := (true, "234a53ada90cfb7d86f9284c5220d4200069ea33484bfe235e42003ee99cb7f3"), looks := false }, kinds := [], alts := [], laidByText := true, laidKinds := [.data, .data], laidTests := true, laidLooks := .later }
def ComposePrimesUptoCardSaid : Prop := Claim7.holds Tryz.pinned (.plain (OpenSpec.upto composePrimesSpec)) composePrimesUptoCard

/-- THE SECOND FORM's CARD OF 'algoristlaw09.ComposeRoots'. -/
def composeRootsUptoCard : Claim7 := { stood := { row := composeRootsUptoRow, standIns := [], harness := (true, "234a53ada90cfb7d86f9284c5220d4200069ea33484bfe235e42003ee99cb7f3"), looks := false }, kinds := [], alts := [], laidByText := true, laidKinds := [.data, .data], laidTests := true, laidLooks := .later }
def ComposeRootsUptoCardSaid : Prop := Claim7.holds Tryz.pinned (.plain (OpenSpec.upto composeRootsSpec)) composeRootsUptoCard
end Rows
end Go.Proofs.YtjadciofpgjofaaGreatDoor
