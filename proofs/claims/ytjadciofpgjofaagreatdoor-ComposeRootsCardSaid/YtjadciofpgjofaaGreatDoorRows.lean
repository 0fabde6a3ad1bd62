/-
  NARROWER THAN 'FOR EVERY INPUT', by the rows' own cells (each row's printed sentence says how): ComposeMatchesReference: laid · ComposeGroup: laid · ComposeValues: laid · ComposePowers: laid · ComposePrimes: laid · ComposeRoots: laid.
  DERIVED. THE GIVEN ROWS OF THIS SEAT. 6 by the template 'for every input the law returns true; each argument reads behind the call as it read before'; 0 by the template 'total and deterministic' (their statements: YtjadciofpgjofaaGreatDoorTotals.lean).
  GIVEN WITH THE SEED: the statements are not yours to turn. If you find one false, say at which input.
  Laid BY PROGRAM, IN A SANDBOX (cutbox-rows.mjs): the forced cells as the released guide's own fill.sh prints them over the translation 24601cd1b5ef30e5… (all of the seat's roots in one cut). By AI agents, Wed Nov 11 2026. No macro, syntax, notation, axiom, sorry.
-/
import Derived.Test.YtjadciofpgjofaaGreatDoorChecked
import GoSem.Claim
import GoSem.ClaimJoined
import GoSem.ClaimMapViews
import Derived.JoinedTies
import Derived.KernelRfl
namespace Go.Proofs.YtjadciofpgjofaaGreatDoor
/- THE CELL 'sum', in the pinned program and in every row, IS THE sha256 OF THE DUMP (.gsa) THAT YtjadciofpgjofaaGreatDoorProg.lean LOADS. Nothing in Lean hashes anything: it is a label: what it is worth is what the hold of that sum in a sandbox is worth. -/
noncomputable def Tryz.pinned : Pinned := { name := "ytjadciofpgjofaagreatdoor", sum := "24601cd1b5ef30e59165d440b02f3bec40e9494d58592003f39eae227b103983", checked := Tryz.checked }
namespace Rows
def none {H : Type} : Left H := { results := [], args := [] }

/- WHAT THE LISTED PACKAGE-LEVEL VARIABLES READ AS WHEN THE CALL BEGINS. Each datum BY PROGRAM (the guide's laid-datum.mjs) off the statement by which the dump's own 'gosem.cut.vars' lays the variable. In a bare row this is a premise. The card (YtjadciofpgjofaaGreatDoorCards.lean) ties it to the program's text. -/
def laid_math_bits_deBruijn32tab {H : Type} : DataW H := .agg [.lit (.int .u8 0), .lit (.int .u8 1), .lit (.int .u8 28), .lit (.int .u8 2), .lit (.int .u8 29), .lit (.int .u8 14), .lit (.int .u8 24), .lit (.int .u8 3), .lit (.int .u8 30), .lit (.int .u8 22), .lit (.int .u8 20), .lit (.int .u8 15), .lit (.int .u8 25), .lit (.int .u8 17), .lit (.int .u8 4), .lit (.int .u8 8), .lit (.int .u8 31), .lit (.int .u8 27), .lit (.int .u8 13), .lit (.int .u8 23), .lit (.int .u8 21), .lit (.int .u8 19), .lit (.int .u8 16), .lit (.int .u8 7), .lit (.int .u8 26), .lit (.int .u8 12), .lit (.int .u8 18), .lit (.int .u8 6), .lit (.int .u8 11), .lit (.int .u8 5), .lit (.int .u8 10), .lit (.int .u8 9)]
def laid_math_bits_deBruijn64tab {H : Type} : DataW H := .agg [.lit (.int .u8 0), .lit (.int .u8 1), .lit (.int .u8 56), .lit (.int .u8 2), .lit (.int .u8 57), .lit (.int .u8 49), .lit (.int .u8 28), .lit (.int .u8 3), .lit (.int .u8 61), .lit (.int .u8 58), .lit (.int .u8 42), .lit (.int .u8 50), .lit (.int .u8 38), .lit (.int .u8 29), .lit (.int .u8 17), .lit (.int .u8 4), .lit (.int .u8 62), .lit (.int .u8 47), .lit (.int .u8 59), .lit (.int .u8 36), .lit (.int .u8 45), .lit (.int .u8 43), .lit (.int .u8 51), .lit (.int .u8 22), .lit (.int .u8 53), .lit (.int .u8 39), .lit (.int .u8 33), .lit (.int .u8 30), .lit (.int .u8 24), .lit (.int .u8 18), .lit (.int .u8 12), .lit (.int .u8 5), .lit (.int .u8 63), .lit (.int .u8 55), .lit (.int .u8 48), .lit (.int .u8 27), .lit (.int .u8 60), .lit (.int .u8 41), .lit (.int .u8 37), .lit (.int .u8 16), .lit (.int .u8 46), .lit (.int .u8 35), .lit (.int .u8 44), .lit (.int .u8 21), .lit (.int .u8 52), .lit (.int .u8 32), .lit (.int .u8 23), .lit (.int .u8 11), .lit (.int .u8 54), .lit (.int .u8 26), .lit (.int .u8 40), .lit (.int .u8 15), .lit (.int .u8 34), .lit (.int .u8 20), .lit (.int .u8 31), .lit (.int .u8 10), .lit (.int .u8 25), .lit (.int .u8 14), .lit (.int .u8 19), .lit (.int .u8 9), .lit (.int .u8 13), .lit (.int .u8 8), .lit (.int .u8 7), .lit (.int .u8 6)]

/-- 'algoristlaw09.ComposeMatchesReference': WHATEVER THE INPUT: true; the input reads as it did. -/
def composeMatchesReferenceSpec : ChangeSpec := { name := "composeMatchesReference", fn := fun _ => fun
  | [d1, d2, d3] => { results := [.lit (.bool true)], args := [d1, d2, d3] }
  | _ => none }
def composeMatchesReferenceRow : OpenClaim := { program := "ytjadciofpgjofaagreatdoor", sum := "24601cd1b5ef30e59165d440b02f3bec40e9494d58592003f39eae227b103983", func := "algorist/algoristlaw09.ComposeMatchesReference", spec := "composeMatchesReference", unfollowed := true, recurses := true, named := ["math/bits.deBruijn32tab", "math/bits.deBruijn64tab"], apart := false, laid := [("math/bits.deBruijn32tab", laid_math_bits_deBruijn32tab), ("math/bits.deBruijn64tab", laid_math_bits_deBruijn64tab)] }
def ComposeMatchesReferenceSaid : Prop := composeMatchesReferenceRow.holds Tryz.pinned (OpenSpec.ofChange composeMatchesReferenceSpec)

/-- ITS FALSE NEIGHBOUR: 'it returns false'. Refute it at one input. -/
def composeMatchesReferenceWrong : ChangeSpec := { name := "composeMatchesReference", fn := fun _ => fun
  | [d1, d2, d3] => { results := [.lit (.bool false)], args := [d1, d2, d3] }
  | _ => none }
def ComposeMatchesReferenceWrongFalsely : Prop := composeMatchesReferenceRow.holds Tryz.pinned (OpenSpec.ofChange composeMatchesReferenceWrong)

/-- 'algoristlaw09.ComposeGroup': WHATEVER THE INPUT: true; the input reads as it did. -/
def composeGroupSpec : ChangeSpec := { name := "composeGroup", fn := fun _ => fun
  | [d] => { results := [.lit (.bool true)], args := [d] }
  | _ => none }
def composeGroupRow : OpenClaim := { program := "ytjadciofpgjofaagreatdoor", sum := "24601cd1b5ef30e59165d440b02f3bec40e9494d58592003f39eae227b103983", func := "algorist/algoristlaw09.ComposeGroup", spec := "composeGroup", unfollowed := true, recurses := true, named := ["math/bits.deBruijn32tab", "math/bits.deBruijn64tab"], apart := false, laid := [("math/bits.deBruijn32tab", laid_math_bits_deBruijn32tab), ("math/bits.deBruijn64tab", laid_math_bits_deBruijn64tab)] }
def ComposeGroupSaid : Prop := composeGroupRow.holds Tryz.pinned (OpenSpec.ofChange composeGroupSpec)

/-- ITS FALSE NEIGHBOUR: 'it returns false'. Refute it at one input. -/
def composeGroupWrong : ChangeSpec := { name := "composeGroup", fn := fun _ => fun
  | [d] => { results := [.lit (.bool false)], args := [d] }
  | _ => none }
def ComposeGroupWrongFalsely : Prop := composeGroupRow.holds Tryz.pinned (OpenSpec.ofChange composeGroupWrong)

/-- 'algoristlaw09.ComposeValues': WHATEVER THE INPUT: true; the input reads as it did. -/
def composeValuesSpec : ChangeSpec := { name := "composeValues", fn := fun _ => fun
  | [d1, d2] => { results := [.lit (.bool true)], args := [d1, d2] }
  | _ => none }
def composeValuesRow : OpenClaim := { program := "ytjadciofpgjofaagreatdoor", sum := "24601cd1b5ef30e59165d440b02f3bec40e9494d58592003f39eae227b103983", func := "algorist/algoristlaw09.ComposeValues", spec := "composeValues", unfollowed := true, recurses := true, named := ["math/bits.deBruijn32tab", "math/bits.deBruijn64tab"], apart := false, laid := [("math/bits.deBruijn32tab", laid_math_bits_deBruijn32tab), ("math/bits.deBruijn64tab", laid_math_bits_deBruijn64tab)] }
def ComposeValuesSaid : Prop := composeValuesRow.holds Tryz.pinned (OpenSpec.ofChange composeValuesSpec)

/-- ITS FALSE NEIGHBOUR: 'it returns false'. Refute it at one input. -/
def composeValuesWrong : ChangeSpec := { name := "composeValues", fn := fun _ => fun
  | [d1, d2] => { results := [.lit (.bool false)], args := [d1, d2] }
  | _ => none }
def ComposeValuesWrongFalsely : Prop := composeValuesRow.holds Tryz.pinned (OpenSpec.ofChange composeValuesWrong)

/-- 'algoristlaw09.ComposePowers': WHATEVER THE INPUT: true; the input reads as it did. -/
def composePowersSpec : ChangeSpec := { name := "composePowers", fn := fun _ => fun
  | [d1, d2, d3] => { results := [.lit (.bool true)], args := [d1, d2, d3] }
  | _ => none }
def composePowersRow : OpenClaim := { program := "ytjadciofpgjofaagreatdoor", sum := "24601cd1b5ef30e59165d440b02f3bec40e9494d58592003f39eae227b103983", func := "algorist/algoristlaw09.ComposePowers", spec := "composePowers", unfollowed := true, recurses := true, named := ["math/bits.deBruijn32tab", "math/bits.deBruijn64tab"], apart := false, laid := [("math/bits.deBruijn32tab", laid_math_bits_deBruijn32tab), ("math/bits.deBruijn64tab", laid_math_bits_deBruijn64tab)] }
def ComposePowersSaid : Prop := composePowersRow.holds Tryz.pinned (OpenSpec.ofChange composePowersSpec)

/-- ITS FALSE NEIGHBOUR: 'it returns false'. Refute it at one input. -/
def composePowersWrong : ChangeSpec := { name := "composePowers", fn := fun _ => fun
  | [d1, d2, d3] => { results := [.lit (.bool false)], args := [d1, d2, d3] }
  | _ => none }
def ComposePowersWrongFalsely : Prop := composePowersRow.holds Tryz.pinned (OpenSpec.ofChange composePowersWrong)

/-- 'algoristlaw09.ComposePrimes': WHATEVER THE INPUT: true; the input reads as it did. -/
def composePrimesSpec : ChangeSpec := { name := "composePrimes", fn := fun _ => fun
  | [d1, d2, d3] => { results := [.lit (.bool true)], args := [d1, d2, d3] }
  | _ => none }
def composePrimesRow : OpenClaim := { program := "ytjadciofpgjofaagreatdoor", sum := "24601cd1b5ef30e59165d440b02f3bec40e9494d58592003f39eae227b103983", func := "algorist/algoristlaw09.ComposePrimes", spec := "composePrimes", unfollowed := true, recurses := true, named := ["math/bits.deBruijn32tab", "math/bits.deBruijn64tab"], apart := false, laid := [("math/bits.deBruijn32tab", laid_math_bits_deBruijn32tab), ("math/bits.deBruijn64tab", laid_math_bits_deBruijn64tab)] }
def ComposePrimesSaid : Prop := composePrimesRow.holds Tryz.pinned (OpenSpec.ofChange composePrimesSpec)

/-- ITS FALSE NEIGHBOUR: 'it returns false'. Refute it at one input. -/
def composePrimesWrong : ChangeSpec := { name := "composePrimes", fn := fun _ => fun
  | [d1, d2, d3] => { results := [.lit (.bool false)], args := [d1, d2, d3] }
  | _ => none }
def ComposePrimesWrongFalsely : Prop := composePrimesRow.holds Tryz.pinned (OpenSpec.ofChange composePrimesWrong)

/-- 'algoristlaw09.ComposeRoots': WHATEVER THE INPUT: true; the input reads as it did. -/
def composeRootsSpec : ChangeSpec := { name := "composeRoots", fn := fun _ => fun
  | [d] => { results := [.lit (.bool true)], args := [d] }
  | _ => none }
def composeRootsRow : OpenClaim := { program := "ytjadciofpgjofaagreatdoor", sum := "24601cd1b5ef30e59165d440b02f3bec40e9494d58592003f39eae227b103983", func := "algorist/algoristlaw09.ComposeRoots", spec := "composeRoots", unfollowed := true, recurses := true, named := ["math/bits.deBruijn32tab", "math/bits.deBruijn64tab"], apart := false, laid := [("math/bits.deBruijn32tab", laid_math_bits_deBruijn32tab), ("math/bits.deBruijn64tab", laid_math_bits_deBruijn64tab)] }
def ComposeRootsSaid : Prop := composeRootsRow.holds Tryz.pinned (OpenSpec.ofChange composeRootsSpec)

/-- ITS FALSE NEIGHBOUR: 'it returns false'. Refute it at one input. -/
def composeRootsWrong : ChangeSpec := { name := "composeRoots", fn := fun _ => fun
  | [d] => { results := [.lit (.bool false)], args := [d] }
  | _ => none }
def ComposeRootsWrongFalsely : Prop := composeRootsRow.holds Tryz.pinned (OpenSpec.ofChange composeRootsWrong)

/- THE SECOND FORM. 'bulk': how many values and letters a reading holds, each counted each time it is reached (what is shared counts as often as it is met; a slice's spare places count too). A statement '..UptoSaid' is the law's where the arguments, and the package variables that the reading takes, are together of bulk at most 1048576: NARROWER than '..Said'. Prove '..Said' where nothing that the law and all that it calls make is longer than what came in: it says more and counts as full. Else prove '..UptoSaid'. A law counts once. -/
mutual
def uptoBulk {H : Type} : DataW H → Nat
  | .lit (.string bytes) => bytes.length + 1
  | .lit _ => 1
  | .nil => 1
  | .ptr d => uptoBulk d + 1
  | .slice elems spare => uptoBulkAll elems + uptoBulkAll spare + 1
  | .agg parts => uptoBulkAll parts + 1
  | .iface _ d => uptoBulk d + 1
  | .map entries => uptoBulkEntries entries + 1
  | .held _ => 1
def uptoBulkAll {H : Type} : List (DataW H) → Nat
  | [] => 0
  | d :: r => uptoBulk d + uptoBulkAll r
def uptoBulkEntries {H : Type} : List (Lit × DataW H) → Nat
  | [] => 0
  | x :: r => uptoBulkEntry x + uptoBulkEntries r
def uptoBulkEntry {H : Type} : Lit × DataW H → Nat
  | (.string bytes, d) => bytes.length + uptoBulk d + 1
  | (_, d) => uptoBulk d + 1
 end
def uptoSmall : (H : Type) → List (DataW H) → Bool := fun _ ds => decide (uptoBulkAll ds ≤ 1048576)
def OpenSpec.upto (s : _root_.Go.ChangeSpec) : _root_.Go.OpenSpec := { _root_.Go.OpenSpec.ofChange s with cond := some uptoSmall }

/-- 'algoristlaw09.ComposeMatchesReference', WHERE WHAT IT READS IS OF BULK AT MOST 1048576: true; the input reads as it did. -/
def composeMatchesReferenceUptoRow : OpenClaim := { program := "ytjadciofpgjofaagreatdoor", sum := "24601cd1b5ef30e59165d440b02f3bec40e9494d58592003f39eae227b103983", func := "algorist/algoristlaw09.ComposeMatchesReference", spec := "composeMatchesReference", unfollowed := true, recurses := true, named := ["math/bits.deBruijn32tab", "math/bits.deBruijn64tab"], apart := false, laid := [("math/bits.deBruijn32tab", laid_math_bits_deBruijn32tab), ("math/bits.deBruijn64tab", laid_math_bits_deBruijn64tab)], narrowed := true }
def ComposeMatchesReferenceUptoSaid : Prop := composeMatchesReferenceUptoRow.holds Tryz.pinned (OpenSpec.upto composeMatchesReferenceSpec)

/-- 'algoristlaw09.ComposeGroup', WHERE WHAT IT READS IS OF BULK AT MOST 1048576: true; the input reads as it did. -/
def composeGroupUptoRow : OpenClaim := { program := "ytjadciofpgjofaagreatdoor", sum := "24601cd1b5ef30e59165d440b02f3bec40e9494d58592003f39eae227b103983", func := "algorist/algoristlaw09.ComposeGroup", spec := "composeGroup", unfollowed := true, recurses := true, named := ["math/bits.deBruijn32tab", "math/bits.deBruijn64tab"], apart := false, laid := [("math/bits.deBruijn32tab", laid_math_bits_deBruijn32tab), ("math/bits.deBruijn64tab", laid_math_bits_deBruijn64tab)], narrowed := true }
def ComposeGroupUptoSaid : Prop := composeGroupUptoRow.holds Tryz.pinned (OpenSpec.upto composeGroupSpec)

/-- 'algoristlaw09.ComposeValues', WHERE WHAT IT READS IS OF BULK AT MOST 1048576: true; the input reads as it did. -/
def composeValuesUptoRow : OpenClaim := { program := "ytjadciofpgjofaagreatdoor", sum := "24601cd1b5ef30e59165d440b02f3bec40e9494d58592003f39eae227b103983", func := "algorist/algoristlaw09.ComposeValues", spec := "composeValues", unfollowed := true, recurses := true, named := ["math/bits.deBruijn32tab", "math/bits.deBruijn64tab"], apart := false, laid := [("math/bits.deBruijn32tab", laid_math_bits_deBruijn32tab), ("math/bits.deBruijn64tab", laid_math_bits_deBruijn64tab)], narrowed := true }
def ComposeValuesUptoSaid : Prop := composeValuesUptoRow.holds Tryz.pinned (OpenSpec.upto composeValuesSpec)

/-- 'algoristlaw09.ComposePowers', WHERE WHAT IT READS IS OF BULK AT MOST 1048576: true; the input reads as it did. -/
def composePowersUptoRow : OpenClaim := { program := "ytjadciofpgjofaagreatdoor", sum := "24601cd1b5ef30e59165d440b02f3bec40e9494d58592003f39eae227b103983", func := "algorist/algoristlaw09.ComposePowers", spec := "composePowers", unfollowed := true, recurses := true, named := ["math/bits.deBruijn32tab", "math/bits.deBruijn64tab"], apart := false, laid := [("math/bits.deBruijn32tab", laid_math_bits_deBruijn32tab), ("math/bits.deBruijn64tab", laid_math_bits_deBruijn64tab)], narrowed := true }
def ComposePowersUptoSaid : Prop := composePowersUptoRow.holds Tryz.pinned (OpenSpec.upto composePowersSpec)

/-- 'algoristlaw09.ComposePrimes', WHERE WHAT IT READS IS OF BULK AT MOST 1048576: true; the input reads as it did. -/
def composePrimesUptoRow : OpenClaim := { program := "ytjadciofpgjofaagreatdoor", sum := "24601cd1b5ef30e59165d440b02f3bec40e9494d58592003f39eae227b103983", func := "algorist/algoristlaw09.ComposePrimes", spec := "composePrimes", unfollowed := true, recurses := true, named := ["math/bits.deBruijn32tab", "math/bits.deBruijn64tab"], apart := false, laid := [("math/bits.deBruijn32tab", laid_math_bits_deBruijn32tab), ("math/bits.deBruijn64tab", laid_math_bits_deBruijn64tab)], narrowed := true }
def ComposePrimesUptoSaid : Prop := composePrimesUptoRow.holds Tryz.pinned (OpenSpec.upto composePrimesSpec)

/-- 'algoristlaw09.ComposeRoots', WHERE WHAT IT READS IS OF BULK AT MOST 1048576: true; the input reads as it did. -/
def composeRootsUptoRow : OpenClaim := { program := "ytjadciofpgjofaagreatdoor", sum := "24601cd1b5ef30e59165d440b02f3bec40e9494d58592003f39eae227b103983", func := "algorist/algoristlaw09.ComposeRoots", spec := "composeRoots", unfollowed := true, recurses := true, named := ["math/bits.deBruijn32tab", "math/bits.deBruijn64tab"], apart := false, laid := [("math/bits.deBruijn32tab", laid_math_bits_deBruijn32tab), ("math/bits.deBruijn64tab", laid_math_bits_deBruijn64tab)], narrowed := true }
def ComposeRootsUptoSaid : Prop := composeRootsUptoRow.holds Tryz.pinned (OpenSpec.upto composeRootsSpec)

end Rows
end Go.Proofs.YtjadciofpgjofaaGreatDoor
