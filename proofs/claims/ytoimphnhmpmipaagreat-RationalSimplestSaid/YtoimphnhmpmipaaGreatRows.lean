/-
  No cell of these rows narrows 'for every input' (looked for: loops, veiled, ifaces, maps, wideKeys, modest, calm, conditions, laid).
  DERIVED. THE GIVEN ROWS OF THIS SEAT. 4 by the template 'for every input the law returns true; each argument reads behind the call as it read before'; 0 by the template 'total and deterministic' (their statements: YtoimphnhmpmipaaGreatTotals.lean).
  GIVEN WITH THE SEED: the statements are not yours to turn. If you find one false, say at which input.
  Laid BY PROGRAM, IN A SANDBOX (cutbox-rows.mjs): the forced cells as the released guide's own fill.sh prints them over the translation a3f9e327783508c2… (all of the seat's roots in one cut). By AI agents, Wed Nov 11 2026. No macro, syntax, notation, axiom, sorry.
-/
import Derived.Test.YtoimphnhmpmipaaGreatChecked
import GoSem.Claim
import GoSem.ClaimJoined
import GoSem.ClaimMapViews
import Derived.JoinedTies
import Derived.KernelRfl
namespace Go.Proofs.YtoimphnhmpmipaaGreat
/- THE CELL 'sum', in the pinned program and in every row, IS THE sha256 OF THE DUMP (.gsa) THAT YtoimphnhmpmipaaGreatProg.lean LOADS. Nothing in Lean hashes anything: it is a label: what it is worth is what the hold of that sum in a sandbox is worth. -/
noncomputable def Tryz.pinned : Pinned := { name := "ytoimphnhmpmipaagreat", sum := "a3f9e327783508c272bee07a4f747ce1f645c1798b6740e2ea3f2c3ba45a7988", checked := Tryz.checked }
namespace Rows
def none {H : Type} : Left H := { results := [], args := [] }

/-- 'algoristlaw02.RationalMatchesReference': WHATEVER THE INPUT: true; the input reads as it did. -/
def rationalMatchesReferenceSpec : ChangeSpec := { name := "rationalMatchesReference", fn := fun _ => fun
  | [d1, d2] => { results := [.lit (.bool true)], args := [d1, d2] }
  | _ => none }
def rationalMatchesReferenceRow : OpenClaim := { program := "ytoimphnhmpmipaagreat", sum := "a3f9e327783508c272bee07a4f747ce1f645c1798b6740e2ea3f2c3ba45a7988", func := "algorist/algoristlaw02.RationalMatchesReference", spec := "rationalMatchesReference", inPlace := ["internal/bytealg.IndexByteString", "internal/bytealg.IndexString"], unfollowed := true, recurses := true, named := ["internal/bytealg.MaxLen"], apart := false }
def RationalMatchesReferenceSaid : Prop := rationalMatchesReferenceRow.holds Tryz.pinned (OpenSpec.ofChange rationalMatchesReferenceSpec)

/-- ITS FALSE NEIGHBOUR: 'it returns false'. Refute it at one input. -/
def rationalMatchesReferenceWrong : ChangeSpec := { name := "rationalMatchesReference", fn := fun _ => fun
  | [d1, d2] => { results := [.lit (.bool false)], args := [d1, d2] }
  | _ => none }
def RationalMatchesReferenceWrongFalsely : Prop := rationalMatchesReferenceRow.holds Tryz.pinned (OpenSpec.ofChange rationalMatchesReferenceWrong)

/-- 'algoristlaw02.RationalIntervals': WHATEVER THE INPUT: true; the input reads as it did. -/
def rationalIntervalsSpec : ChangeSpec := { name := "rationalIntervals", fn := fun _ => fun
  | [d1, d2, d3] => { results := [.lit (.bool true)], args := [d1, d2, d3] }
  | _ => none }
def rationalIntervalsRow : OpenClaim := { program := "ytoimphnhmpmipaagreat", sum := "a3f9e327783508c272bee07a4f747ce1f645c1798b6740e2ea3f2c3ba45a7988", func := "algorist/algoristlaw02.RationalIntervals", spec := "rationalIntervals", inPlace := ["internal/bytealg.IndexByteString", "internal/bytealg.IndexString"], unfollowed := true, recurses := true, named := ["internal/bytealg.MaxLen"], apart := false }
def RationalIntervalsSaid : Prop := rationalIntervalsRow.holds Tryz.pinned (OpenSpec.ofChange rationalIntervalsSpec)

/-- ITS FALSE NEIGHBOUR: 'it returns false'. Refute it at one input. -/
def rationalIntervalsWrong : ChangeSpec := { name := "rationalIntervals", fn := fun _ => fun
  | [d1, d2, d3] => { results := [.lit (.bool false)], args := [d1, d2, d3] }
  | _ => none }
def RationalIntervalsWrongFalsely : Prop := rationalIntervalsRow.holds Tryz.pinned (OpenSpec.ofChange rationalIntervalsWrong)

/-- 'algoristlaw02.RationalMeets': WHATEVER THE INPUT: true; the input reads as it did. -/
def rationalMeetsSpec : ChangeSpec := { name := "rationalMeets", fn := fun _ => fun
  | [d1, d2, d3] => { results := [.lit (.bool true)], args := [d1, d2, d3] }
  | _ => none }
def rationalMeetsRow : OpenClaim := { program := "ytoimphnhmpmipaagreat", sum := "a3f9e327783508c272bee07a4f747ce1f645c1798b6740e2ea3f2c3ba45a7988", func := "algorist/algoristlaw02.RationalMeets", spec := "rationalMeets", inPlace := ["internal/bytealg.IndexByteString", "internal/bytealg.IndexString"], unfollowed := true, recurses := true, named := ["internal/bytealg.MaxLen"], apart := false }
def RationalMeetsSaid : Prop := rationalMeetsRow.holds Tryz.pinned (OpenSpec.ofChange rationalMeetsSpec)

/-- ITS FALSE NEIGHBOUR: 'it returns false'. Refute it at one input. -/
def rationalMeetsWrong : ChangeSpec := { name := "rationalMeets", fn := fun _ => fun
  | [d1, d2, d3] => { results := [.lit (.bool false)], args := [d1, d2, d3] }
  | _ => none }
def RationalMeetsWrongFalsely : Prop := rationalMeetsRow.holds Tryz.pinned (OpenSpec.ofChange rationalMeetsWrong)

/-- 'algoristlaw02.RationalSimplest': WHATEVER THE INPUT: true; the input reads as it did. -/
def rationalSimplestSpec : ChangeSpec := { name := "rationalSimplest", fn := fun _ => fun
  | [d1, d2] => { results := [.lit (.bool true)], args := [d1, d2] }
  | _ => none }
def rationalSimplestRow : OpenClaim := { program := "ytoimphnhmpmipaagreat", sum := "a3f9e327783508c272bee07a4f747ce1f645c1798b6740e2ea3f2c3ba45a7988", func := "algorist/algoristlaw02.RationalSimplest", spec := "rationalSimplest", inPlace := ["internal/bytealg.IndexByteString", "internal/bytealg.IndexString"], unfollowed := true, recurses := true, named := ["internal/bytealg.MaxLen"], apart := false }
def RationalSimplestSaid : Prop := rationalSimplestRow.holds Tryz.pinned (OpenSpec.ofChange rationalSimplestSpec)

/-- ITS FALSE NEIGHBOUR: 'it returns false'. Refute it at one input. -/
def rationalSimplestWrong : ChangeSpec := { name := "rationalSimplest", fn := fun _ => fun
  | [d1, d2] => { results := [.lit (.bool false)], args := [d1, d2] }
  | _ => none }
def RationalSimplestWrongFalsely : Prop := rationalSimplestRow.holds Tryz.pinned (OpenSpec.ofChange rationalSimplestWrong)

/- THE SECOND FORM. 'bulk': how many values and letters a reading holds, each counted each time it is reached (what is shared counts as often as it is met; a slice's spare places count too). A statement '..UptoSaid' is the law's where the arguments, and the package variables that the reading takes, are together of bulk at most 1048576: NARROWER than '..Said'. Prove '..Said' where nothing that the law and all that it calls make is longer than what came in: it says more and counts as full. Else prove '..UptoSaid'. A law counts once. -/
mutual
def uptoBulk {H : Type} : DataW H → Nat
  | .lit (.string bytes) => bytes.length + 1
  | .lit _ => 1
  | .nil => 1
  | .ptr d => uptoBulk d + 1
  | .slice elems spare => uptoBulkAll elems + uptoBulkAll spare + 1
  | .agg parts => uptoBulkAll parts + 1
  | .iface _ d => uptoBulk d + 1
  | .map entries => uptoBulkEntries entries + 1
  | .held _ => 1
def uptoBulkAll {H : Type} : List (DataW H) → Nat
  | [] => 0
  | d :: r => uptoBulk d + uptoBulkAll r
def uptoBulkEntries {H : Type} : List (Lit × DataW H) → Nat
  | [] => 0
  | x :: r => uptoBulkEntry x + uptoBulkEntries r
def uptoBulkEntry {H : Type} : Lit × DataW H → Nat
  | (.string bytes, d) => bytes.length + uptoBulk d + 1
  | (_, d) => uptoBulk d + 1
 end
def uptoSmall : (H : Type) → List (DataW H) → Bool := fun _ ds => decide (uptoBulkAll ds ≤ 1048576)
def OpenSpec.upto (s : _root_.Go.ChangeSpec) : _root_.Go.OpenSpec := { _root_.Go.OpenSpec.ofChange s with cond := some uptoSmall }

/-- 'algoristlaw02.RationalMatchesReference', WHERE WHAT IT READS IS OF BULK AT MOST 1048576: true; the input reads as it did. -/
def rationalMatchesReferenceUptoRow : OpenClaim := { program := "ytoimphnhmpmipaagreat", sum := "a3f9e327783508c272bee07a4f747ce1f645c1798b6740e2ea3f2c3ba45a7988", func := "algorist/algoristlaw02.RationalMatchesReference", spec := "rationalMatchesReference", inPlace := ["internal/bytealg.IndexByteString", "internal/bytealg.IndexString"], unfollowed := true, recurses := true, named := ["internal/bytealg.MaxLen"], apart := false, narrowed := true }
def RationalMatchesReferenceUptoSaid : Prop := rationalMatchesReferenceUptoRow.holds Tryz.pinned (OpenSpec.upto rationalMatchesReferenceSpec)

/-- 'algoristlaw02.RationalIntervals', WHERE WHAT IT READS IS OF BULK AT MOST 1048576: true; the input reads as it did. -/
def rationalIntervalsUptoRow : OpenClaim := { program := "ytoimphnhmpmipaagreat", sum := "a3f9e327783508c272bee07a4f747ce1f645c1798b6740e2ea3f2c3ba45a7988", func := "algorist/algoristlaw02.RationalIntervals", spec := "rationalIntervals", inPlace := ["internal/bytealg.IndexByteString", "internal/bytealg.IndexString"], unfollowed := true, recurses := true, named := ["internal/bytealg.MaxLen"], apart := false, narrowed := true }
def RationalIntervalsUptoSaid : Prop := rationalIntervalsUptoRow.holds Tryz.pinned (OpenSpec.upto rationalIntervalsSpec)

/-- 'algoristlaw02.RationalMeets', WHERE WHAT IT READS IS OF BULK AT MOST 1048576: true; the input reads as it did. -/
def rationalMeetsUptoRow : OpenClaim := { program := "ytoimphnhmpmipaagreat", sum := "a3f9e327783508c272bee07a4f747ce1f645c1798b6740e2ea3f2c3ba45a7988", func := "algorist/algoristlaw02.RationalMeets", spec := "rationalMeets", inPlace := ["internal/bytealg.IndexByteString", "internal/bytealg.IndexString"], unfollowed := true, recurses := true, named := ["internal/bytealg.MaxLen"], apart := false, narrowed := true }
def RationalMeetsUptoSaid : Prop := rationalMeetsUptoRow.holds Tryz.pinned (OpenSpec.upto rationalMeetsSpec)

/-- 'algoristlaw02.RationalSimplest', WHERE WHAT IT READS IS OF BULK AT MOST 1048576: true; the input reads as it did. -/
def rationalSimplestUptoRow : OpenClaim := { program := "ytoimphnhmpmipaagreat", sum := "a3f9e327783508c272bee07a4f747ce1f645c1798b6740e2ea3f2c3ba45a7988", func := "algorist/algoristlaw02.RationalSimplest", spec := "rationalSimplest", inPlace := ["internal/bytealg.IndexByteString", "internal/bytealg.IndexString"], unfollowed := true, recurses := true, named := ["internal/bytealg.MaxLen"], apart := false, narrowed := true }
def RationalSimplestUptoSaid : Prop := rationalSimplestUptoRow.holds Tryz.pinned (OpenSpec.upto rationalSimplestSpec)

end Rows
end Go.Proofs.YtoimphnhmpmipaaGreat
