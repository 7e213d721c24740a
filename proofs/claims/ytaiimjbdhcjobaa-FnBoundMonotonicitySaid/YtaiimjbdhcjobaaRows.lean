/-
  No cell of these rows narrows 'for every input' (looked for: loops, veiled, ifaces, maps, wideKeys, modest, calm, conditions, laid).
  DERIVED. THE GIVEN ROWS OF THIS SEAT. 10 by the template 'for every input the law returns true; each argument reads behind the call as it read before'; 0 by the template 'total and deterministic' (their statements: YtaiimjbdhcjobaaTotals.lean).
  GIVEN WITH THE SEED: the statements are not yours to turn. If you find one false, say at which input.
  Laid BY PROGRAM, IN A SANDBOX (cutbox-rows.mjs): the forced cells as the released guide's own fill.sh prints them over the translation 075da65066a66034… (all of the seat's roots in one cut). By AI agents, Wed Nov 11 2026. No macro, syntax, notation, axiom, sorry.
-/
import Derived.Test.YtaiimjbdhcjobaaChecked
import GoSem.Claim
import GoSem.ClaimJoined
import GoSem.ClaimMapViews
import Derived.JoinedTies
import Derived.KernelRfl
namespace Go.Proofs.Ytaiimjbdhcjobaa
/- THE CELL 'sum', in the pinned program and in every row, IS THE sha256 OF THE DUMP (.gsa) THAT YtaiimjbdhcjobaaProg.lean LOADS. Nothing in Lean hashes anything: it is a label: what it is worth is what the hold of that sum in a sandbox is worth. -/
noncomputable def Try.pinned : Pinned := { name := "ytaiimjbdhcjobaa", sum := "075da65066a660342a0394d93af88457d05aeabba69c6b8302b26fc93e31da3f", checked := Try.checked }
namespace Rows
def none {H : Type} : Left H := { results := [], args := [] }

/-- 'laws.FnMinimum': WHATEVER THE INPUT: true; the input reads as it did. -/
def fnMinimumSpec : ChangeSpec := { name := "fnMinimum", fn := fun _ => fun
  | [d] => { results := [.lit (.bool true)], args := [d] }
  | _ => none }
def fnMinimumRow : OpenClaim := { program := "ytaiimjbdhcjobaa", sum := "075da65066a660342a0394d93af88457d05aeabba69c6b8302b26fc93e31da3f", func := "loop.example/g01917/laws.FnMinimum", spec := "fnMinimum", unfollowed := true, recurses := true, apart := false }
def FnMinimumSaid : Prop := fnMinimumRow.holds Try.pinned (OpenSpec.ofChange fnMinimumSpec)

/-- ITS FALSE NEIGHBOUR: 'it returns false'. Refute it at one input. -/
def fnMinimumWrong : ChangeSpec := { name := "fnMinimum", fn := fun _ => fun
  | [d] => { results := [.lit (.bool false)], args := [d] }
  | _ => none }
def FnMinimumWrongFalsely : Prop := fnMinimumRow.holds Try.pinned (OpenSpec.ofChange fnMinimumWrong)

/-- 'laws.FnStrongDuality': WHATEVER THE INPUT: true; the input reads as it did. -/
def fnStrongDualitySpec : ChangeSpec := { name := "fnStrongDuality", fn := fun _ => fun
  | [d] => { results := [.lit (.bool true)], args := [d] }
  | _ => none }
def fnStrongDualityRow : OpenClaim := { program := "ytaiimjbdhcjobaa", sum := "075da65066a660342a0394d93af88457d05aeabba69c6b8302b26fc93e31da3f", func := "loop.example/g01917/laws.FnStrongDuality", spec := "fnStrongDuality", unfollowed := true, recurses := true, apart := false }
def FnStrongDualitySaid : Prop := fnStrongDualityRow.holds Try.pinned (OpenSpec.ofChange fnStrongDualitySpec)

/-- ITS FALSE NEIGHBOUR: 'it returns false'. Refute it at one input. -/
def fnStrongDualityWrong : ChangeSpec := { name := "fnStrongDuality", fn := fun _ => fun
  | [d] => { results := [.lit (.bool false)], args := [d] }
  | _ => none }
def FnStrongDualityWrongFalsely : Prop := fnStrongDualityRow.holds Try.pinned (OpenSpec.ofChange fnStrongDualityWrong)

/-- 'laws.FnBoundMonotonicity': WHATEVER THE INPUT: true; the input reads as it did. -/
def fnBoundMonotonicitySpec : ChangeSpec := { name := "fnBoundMonotonicity", fn := fun _ => fun
  | [d] => { results := [.lit (.bool true)], args := [d] }
  | _ => none }
def fnBoundMonotonicityRow : OpenClaim := { program := "ytaiimjbdhcjobaa", sum := "075da65066a660342a0394d93af88457d05aeabba69c6b8302b26fc93e31da3f", func := "loop.example/g01917/laws.FnBoundMonotonicity", spec := "fnBoundMonotonicity", apart := false }
def FnBoundMonotonicitySaid : Prop := fnBoundMonotonicityRow.holds Try.pinned (OpenSpec.ofChange fnBoundMonotonicitySpec)

/-- ITS FALSE NEIGHBOUR: 'it returns false'. Refute it at one input. -/
def fnBoundMonotonicityWrong : ChangeSpec := { name := "fnBoundMonotonicity", fn := fun _ => fun
  | [d] => { results := [.lit (.bool false)], args := [d] }
  | _ => none }
def FnBoundMonotonicityWrongFalsely : Prop := fnBoundMonotonicityRow.holds Try.pinned (OpenSpec.ofChange fnBoundMonotonicityWrong)

/-- 'laws.FnExactMinimize': WHATEVER THE INPUT: true; the input reads as it did. -/
def fnExactMinimizeSpec : ChangeSpec := { name := "fnExactMinimize", fn := fun _ => fun
  | [d] => { results := [.lit (.bool true)], args := [d] }
  | _ => none }
def fnExactMinimizeRow : OpenClaim := { program := "ytaiimjbdhcjobaa", sum := "075da65066a660342a0394d93af88457d05aeabba69c6b8302b26fc93e31da3f", func := "loop.example/g01917/laws.FnExactMinimize", spec := "fnExactMinimize", unfollowed := true, recurses := true, apart := false }
def FnExactMinimizeSaid : Prop := fnExactMinimizeRow.holds Try.pinned (OpenSpec.ofChange fnExactMinimizeSpec)

/-- ITS FALSE NEIGHBOUR: 'it returns false'. Refute it at one input. -/
def fnExactMinimizeWrong : ChangeSpec := { name := "fnExactMinimize", fn := fun _ => fun
  | [d] => { results := [.lit (.bool false)], args := [d] }
  | _ => none }
def FnExactMinimizeWrongFalsely : Prop := fnExactMinimizeRow.holds Try.pinned (OpenSpec.ofChange fnExactMinimizeWrong)

/-- 'laws.FnExactMaximize': WHATEVER THE INPUT: true; the input reads as it did. -/
def fnExactMaximizeSpec : ChangeSpec := { name := "fnExactMaximize", fn := fun _ => fun
  | [d] => { results := [.lit (.bool true)], args := [d] }
  | _ => none }
def fnExactMaximizeRow : OpenClaim := { program := "ytaiimjbdhcjobaa", sum := "075da65066a660342a0394d93af88457d05aeabba69c6b8302b26fc93e31da3f", func := "loop.example/g01917/laws.FnExactMaximize", spec := "fnExactMaximize", unfollowed := true, recurses := true, apart := false }
def FnExactMaximizeSaid : Prop := fnExactMaximizeRow.holds Try.pinned (OpenSpec.ofChange fnExactMaximizeSpec)

/-- ITS FALSE NEIGHBOUR: 'it returns false'. Refute it at one input. -/
def fnExactMaximizeWrong : ChangeSpec := { name := "fnExactMaximize", fn := fun _ => fun
  | [d] => { results := [.lit (.bool false)], args := [d] }
  | _ => none }
def FnExactMaximizeWrongFalsely : Prop := fnExactMaximizeRow.holds Try.pinned (OpenSpec.ofChange fnExactMaximizeWrong)

/-- 'laws.FnExactFeasibleVertices': WHATEVER THE INPUT: true; the input reads as it did. -/
def fnExactFeasibleVerticesSpec : ChangeSpec := { name := "fnExactFeasibleVertices", fn := fun _ => fun
  | [d] => { results := [.lit (.bool true)], args := [d] }
  | _ => none }
def fnExactFeasibleVerticesRow : OpenClaim := { program := "ytaiimjbdhcjobaa", sum := "075da65066a660342a0394d93af88457d05aeabba69c6b8302b26fc93e31da3f", func := "loop.example/g01917/laws.FnExactFeasibleVertices", spec := "fnExactFeasibleVertices", unfollowed := true, recurses := true, apart := false }
def FnExactFeasibleVerticesSaid : Prop := fnExactFeasibleVerticesRow.holds Try.pinned (OpenSpec.ofChange fnExactFeasibleVerticesSpec)

/-- ITS FALSE NEIGHBOUR: 'it returns false'. Refute it at one input. -/
def fnExactFeasibleVerticesWrong : ChangeSpec := { name := "fnExactFeasibleVertices", fn := fun _ => fun
  | [d] => { results := [.lit (.bool false)], args := [d] }
  | _ => none }
def FnExactFeasibleVerticesWrongFalsely : Prop := fnExactFeasibleVerticesRow.holds Try.pinned (OpenSpec.ofChange fnExactFeasibleVerticesWrong)

/-- 'laws.FnExactCoverProgram': WHATEVER THE INPUT: true; the input reads as it did. -/
def fnExactCoverProgramSpec : ChangeSpec := { name := "fnExactCoverProgram", fn := fun _ => fun
  | [d] => { results := [.lit (.bool true)], args := [d] }
  | _ => none }
def fnExactCoverProgramRow : OpenClaim := { program := "ytaiimjbdhcjobaa", sum := "075da65066a660342a0394d93af88457d05aeabba69c6b8302b26fc93e31da3f", func := "loop.example/g01917/laws.FnExactCoverProgram", spec := "fnExactCoverProgram", unfollowed := true, recurses := true, apart := false }
def FnExactCoverProgramSaid : Prop := fnExactCoverProgramRow.holds Try.pinned (OpenSpec.ofChange fnExactCoverProgramSpec)

/-- ITS FALSE NEIGHBOUR: 'it returns false'. Refute it at one input. -/
def fnExactCoverProgramWrong : ChangeSpec := { name := "fnExactCoverProgram", fn := fun _ => fun
  | [d] => { results := [.lit (.bool false)], args := [d] }
  | _ => none }
def FnExactCoverProgramWrongFalsely : Prop := fnExactCoverProgramRow.holds Try.pinned (OpenSpec.ofChange fnExactCoverProgramWrong)

/-- 'laws.FnExactProductOfPowers': WHATEVER THE INPUT: true; the input reads as it did. -/
def fnExactProductOfPowersSpec : ChangeSpec := { name := "fnExactProductOfPowers", fn := fun _ => fun
  | [d1, d2] => { results := [.lit (.bool true)], args := [d1, d2] }
  | _ => none }
def fnExactProductOfPowersRow : OpenClaim := { program := "ytaiimjbdhcjobaa", sum := "075da65066a660342a0394d93af88457d05aeabba69c6b8302b26fc93e31da3f", func := "loop.example/g01917/laws.FnExactProductOfPowers", spec := "fnExactProductOfPowers", apart := false }
def FnExactProductOfPowersSaid : Prop := fnExactProductOfPowersRow.holds Try.pinned (OpenSpec.ofChange fnExactProductOfPowersSpec)

/-- ITS FALSE NEIGHBOUR: 'it returns false'. Refute it at one input. -/
def fnExactProductOfPowersWrong : ChangeSpec := { name := "fnExactProductOfPowers", fn := fun _ => fun
  | [d1, d2] => { results := [.lit (.bool false)], args := [d1, d2] }
  | _ => none }
def FnExactProductOfPowersWrongFalsely : Prop := fnExactProductOfPowersRow.holds Try.pinned (OpenSpec.ofChange fnExactProductOfPowersWrong)

/-- 'laws.FnExactIsWithinAGMBound': WHATEVER THE INPUT: true; the input reads as it did. -/
def fnExactIsWithinAGMBoundSpec : ChangeSpec := { name := "fnExactIsWithinAGMBound", fn := fun _ => fun
  | [d1, d2, d3] => { results := [.lit (.bool true)], args := [d1, d2, d3] }
  | _ => none }
def fnExactIsWithinAGMBoundRow : OpenClaim := { program := "ytaiimjbdhcjobaa", sum := "075da65066a660342a0394d93af88457d05aeabba69c6b8302b26fc93e31da3f", func := "loop.example/g01917/laws.FnExactIsWithinAGMBound", spec := "fnExactIsWithinAGMBound", apart := false }
def FnExactIsWithinAGMBoundSaid : Prop := fnExactIsWithinAGMBoundRow.holds Try.pinned (OpenSpec.ofChange fnExactIsWithinAGMBoundSpec)

/-- ITS FALSE NEIGHBOUR: 'it returns false'. Refute it at one input. -/
def fnExactIsWithinAGMBoundWrong : ChangeSpec := { name := "fnExactIsWithinAGMBound", fn := fun _ => fun
  | [d1, d2, d3] => { results := [.lit (.bool false)], args := [d1, d2, d3] }
  | _ => none }
def FnExactIsWithinAGMBoundWrongFalsely : Prop := fnExactIsWithinAGMBoundRow.holds Try.pinned (OpenSpec.ofChange fnExactIsWithinAGMBoundWrong)

/-- 'laws.FnExactCompareAGMBounds': WHATEVER THE INPUT: true; the input reads as it did. -/
def fnExactCompareAGMBoundsSpec : ChangeSpec := { name := "fnExactCompareAGMBounds", fn := fun _ => fun
  | [d1, d2, d3] => { results := [.lit (.bool true)], args := [d1, d2, d3] }
  | _ => none }
def fnExactCompareAGMBoundsRow : OpenClaim := { program := "ytaiimjbdhcjobaa", sum := "075da65066a660342a0394d93af88457d05aeabba69c6b8302b26fc93e31da3f", func := "loop.example/g01917/laws.FnExactCompareAGMBounds", spec := "fnExactCompareAGMBounds", apart := false }
def FnExactCompareAGMBoundsSaid : Prop := fnExactCompareAGMBoundsRow.holds Try.pinned (OpenSpec.ofChange fnExactCompareAGMBoundsSpec)

/-- ITS FALSE NEIGHBOUR: 'it returns false'. Refute it at one input. -/
def fnExactCompareAGMBoundsWrong : ChangeSpec := { name := "fnExactCompareAGMBounds", fn := fun _ => fun
  | [d1, d2, d3] => { results := [.lit (.bool false)], args := [d1, d2, d3] }
  | _ => none }
def FnExactCompareAGMBoundsWrongFalsely : Prop := fnExactCompareAGMBoundsRow.holds Try.pinned (OpenSpec.ofChange fnExactCompareAGMBoundsWrong)

/- THE SECOND FORM. 'bulk': how many values and letters a reading holds, each counted each time it is reached (what is shared counts as often as it is met; a slice's spare places count too). A statement '..UptoSaid' is the law's where the arguments, and the package variables that the reading takes, are together of bulk at most 1048576: NARROWER than '..Said'. Prove '..Said' where nothing that the law and all that it calls make is longer than what came in: it says more and counts as full. Else prove '..UptoSaid'. A law counts once. -/
mutual
def uptoBulk {H : Type} : DataW H → Nat
  | .lit (.string bytes) => bytes.length + 1
  | .lit _ => 1
  | .nil => 1
  | .ptr d => uptoBulk d + 1
  | .slice elems spare => uptoBulkAll elems + uptoBulkAll spare + 1
  | .agg parts => uptoBulkAll parts + 1
  | .iface _ d => uptoBulk d + 1
  | .map entries => uptoBulkEntries entries + 1
  | .held _ => 1
def uptoBulkAll {H : Type} : List (DataW H) → Nat
  | [] => 0
  | d :: r => uptoBulk d + uptoBulkAll r
def uptoBulkEntries {H : Type} : List (Lit × DataW H) → Nat
  | [] => 0
  | x :: r => uptoBulkEntry x + uptoBulkEntries r
def uptoBulkEntry {H : Type} : Lit × DataW H → Nat
  | (.string bytes, d) => bytes.length + uptoBulk d + 1
  | (_, d) => uptoBulk d + 1
 end
def uptoSmall : (H : Type) → List (DataW H) → Bool := fun _ ds => decide (uptoBulkAll ds ≤ 1048576)
def OpenSpec.upto (s : _root_.Go.ChangeSpec) : _root_.Go.OpenSpec := { _root_.Go.OpenSpec.ofChange s with cond := some uptoSmall }

/-- 'laws.FnMinimum', WHERE WHAT IT READS IS OF BULK AT MOST 1048576: true; the input reads as it did. -/
def fnMinimumUptoRow : OpenClaim := { program := "ytaiimjbdhcjobaa", sum := "075da65066a660342a0394d93af88457d05aeabba69c6b8302b26fc93e31da3f", func := "loop.example/g01917/laws.FnMinimum", spec := "fnMinimum", unfollowed := true, recurses := true, apart := false, narrowed := true }
def FnMinimumUptoSaid : Prop := fnMinimumUptoRow.holds Try.pinned (OpenSpec.upto fnMinimumSpec)

/-- 'laws.FnStrongDuality', WHERE WHAT IT READS IS OF BULK AT MOST 1048576: true; the input reads as it did. -/
def fnStrongDualityUptoRow : OpenClaim := { program := "ytaiimjbdhcjobaa", sum := "075da65066a660342a0394d93af88457d05aeabba69c6b8302b26fc93e31da3f", func := "loop.example/g01917/laws.FnStrongDuality", spec := "fnStrongDuality", unfollowed := true, recurses := true, apart := false, narrowed := true }
def FnStrongDualityUptoSaid : Prop := fnStrongDualityUptoRow.holds Try.pinned (OpenSpec.upto fnStrongDualitySpec)

/-- 'laws.FnBoundMonotonicity', WHERE WHAT IT READS IS OF BULK AT MOST 1048576: true; the input reads as it did. -/
def fnBoundMonotonicityUptoRow : OpenClaim := { program := "ytaiimjbdhcjobaa", sum := "075da65066a660342a0394d93af88457d05aeabba69c6b8302b26fc93e31da3f", func := "loop.example/g01917/laws.FnBoundMonotonicity", spec := "fnBoundMonotonicity", apart := false, narrowed := true }
def FnBoundMonotonicityUptoSaid : Prop := fnBoundMonotonicityUptoRow.holds Try.pinned (OpenSpec.upto fnBoundMonotonicitySpec)

/-- 'laws.FnExactMinimize', WHERE WHAT IT READS IS OF BULK AT MOST 1048576: true; the input reads as it did. -/
def fnExactMinimizeUptoRow : OpenClaim := { program := "ytaiimjbdhcjobaa", sum := "075da65066a660342a0394d93af88457d05aeabba69c6b8302b26fc93e31da3f", func := "loop.example/g01917/laws.FnExactMinimize", spec := "fnExactMinimize", unfollowed := true, recurses := true, apart := false, narrowed := true }
def FnExactMinimizeUptoSaid : Prop := fnExactMinimizeUptoRow.holds Try.pinned (OpenSpec.upto fnExactMinimizeSpec)

/-- 'laws.FnExactMaximize', WHERE WHAT IT READS IS OF BULK AT MOST 1048576: true; the input reads as it did. -/
def fnExactMaximizeUptoRow : OpenClaim := { program := "ytaiimjbdhcjobaa", sum := "075da65066a660342a0394d93af88457d05aeabba69c6b8302b26fc93e31da3f", func := "loop.example/g01917/laws.FnExactMaximize", spec := "fnExactMaximize", unfollowed := true, recurses := true, apart := false, narrowed := true }
def FnExactMaximizeUptoSaid : Prop := fnExactMaximizeUptoRow.holds Try.pinned (OpenSpec.upto fnExactMaximizeSpec)

/-- 'laws.FnExactFeasibleVertices', WHERE WHAT IT READS IS OF BULK AT MOST 1048576: true; the input reads as it did. -/
def fnExactFeasibleVerticesUptoRow : OpenClaim := { program := "ytaiimjbdhcjobaa", sum := "075da65066a660342a0394d93af88457d05aeabba69c6b8302b26fc93e31da3f", func := "loop.example/g01917/laws.FnExactFeasibleVertices", spec := "fnExactFeasibleVertices", unfollowed := true, recurses := true, apart := false, narrowed := true }
def FnExactFeasibleVerticesUptoSaid : Prop := fnExactFeasibleVerticesUptoRow.holds Try.pinned (OpenSpec.upto fnExactFeasibleVerticesSpec)

/-- 'laws.FnExactCoverProgram', WHERE WHAT IT READS IS OF BULK AT MOST 1048576: true; the input reads as it did. -/
def fnExactCoverProgramUptoRow : OpenClaim := { program := "ytaiimjbdhcjobaa", sum := "075da65066a660342a0394d93af88457d05aeabba69c6b8302b26fc93e31da3f", func := "loop.example/g01917/laws.FnExactCoverProgram", spec := "fnExactCoverProgram", unfollowed := true, recurses := true, apart := false, narrowed := true }
def FnExactCoverProgramUptoSaid : Prop := fnExactCoverProgramUptoRow.holds Try.pinned (OpenSpec.upto fnExactCoverProgramSpec)

/-- 'laws.FnExactProductOfPowers', WHERE WHAT IT READS IS OF BULK AT MOST 1048576: true; the input reads as it did. -/
def fnExactProductOfPowersUptoRow : OpenClaim := { program := "ytaiimjbdhcjobaa", sum := "075da65066a660342a0394d93af88457d05aeabba69c6b8302b26fc93e31da3f", func := "loop.example/g01917/laws.FnExactProductOfPowers", spec := "fnExactProductOfPowers", apart := false, narrowed := true }
def FnExactProductOfPowersUptoSaid : Prop := fnExactProductOfPowersUptoRow.holds Try.pinned (OpenSpec.upto fnExactProductOfPowersSpec)

/-- 'laws.FnExactIsWithinAGMBound', WHERE WHAT IT READS IS OF BULK AT MOST 1048576: true; the input reads as it did. -/
def fnExactIsWithinAGMBoundUptoRow : OpenClaim := { program := "ytaiimjbdhcjobaa", sum := "075da65066a660342a0394d93af88457d05aeabba69c6b8302b26fc93e31da3f", func := "loop.example/g01917/laws.FnExactIsWithinAGMBound", spec := "fnExactIsWithinAGMBound", apart := false, narrowed := true }
def FnExactIsWithinAGMBoundUptoSaid : Prop := fnExactIsWithinAGMBoundUptoRow.holds Try.pinned (OpenSpec.upto fnExactIsWithinAGMBoundSpec)

/-- 'laws.FnExactCompareAGMBounds', WHERE WHAT IT READS IS OF BULK AT MOST 1048576: true; the input reads as it did. -/
def fnExactCompareAGMBoundsUptoRow : OpenClaim := { program := "ytaiimjbdhcjobaa", sum := "075da65066a660342a0394d93af88457d05aeabba69c6b8302b26fc93e31da3f", func := "loop.example/g01917/laws.FnExactCompareAGMBounds", spec := "fnExactCompareAGMBounds", apart := false, narrowed := true }
def FnExactCompareAGMBoundsUptoSaid : Prop := fnExactCompareAGMBoundsUptoRow.holds Try.pinned (OpenSpec.upto fnExactCompareAGMBoundsSpec)

end Rows
end Go.Proofs.Ytaiimjbdhcjobaa
