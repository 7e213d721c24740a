/-
  No cell of these rows narrows 'for every input' (looked for: loops, veiled, ifaces, maps, wideKeys, modest, calm, conditions, laid).
  DERIVED. THE GIVEN ROWS OF THIS SEAT. 6 by the template 'for every input the law returns true; each argument reads behind the call as it read before'; 0 by the template 'total and deterministic' (their statements: YtgpdnleooeekbaaTotals.lean).
  GIVEN WITH THE SEED: the statements are not yours to turn. If you find one false, say at which input.
  Laid BY PROGRAM, IN A SANDBOX (cutbox-rows.mjs): the forced cells as the released guide's own fill.sh prints them over the translation 44e9f674c4b8b21c… (all of the seat's roots in one cut). By AI agents, Wed Nov 11 2026. No macro, syntax, notation, axiom, sorry.
-/
import Derived.Test.YtgpdnleooeekbaaChecked
import GoSem.Claim
import GoSem.ClaimJoined
import GoSem.ClaimMapViews
import Derived.JoinedTies
import Derived.KernelRfl
namespace Go.Proofs.Ytgpdnleooeekbaa
/- THE CELL 'sum', in the pinned program and in every row, IS THE sha256 OF THE DUMP (.gsa) THAT YtgpdnleooeekbaaProg.lean LOADS. Nothing in Lean hashes anything: it is a label: what it is worth is what the hold of that sum in a sandbox is worth. -/
noncomputable def Try.pinned : Pinned := { name := "ytgpdnleooeekbaa", sum := "44e9f674c4b8b21c979b16d5aa9837d72c0c7e76359f2aad09798e6eec63bfdb", checked := Try.checked }
namespace Rows
def none {H : Type} : Left H := { results := [], args := [] }

/-- 'laws.FnScaling': WHATEVER THE INPUT: true; the input reads as it did. -/
def fnScalingSpec : ChangeSpec := { name := "fnScaling", fn := fun _ => fun
  | [d] => { results := [.lit (.bool true)], args := [d] }
  | _ => none }
def fnScalingRow : OpenClaim := { program := "ytgpdnleooeekbaa", sum := "44e9f674c4b8b21c979b16d5aa9837d72c0c7e76359f2aad09798e6eec63bfdb", func := "loop.example/g01917/laws.FnScaling", spec := "fnScaling", apart := false }
def FnScalingSaid : Prop := fnScalingRow.holds Try.pinned (OpenSpec.ofChange fnScalingSpec)

/-- ITS FALSE NEIGHBOUR: 'it returns false'. Refute it at one input. -/
def fnScalingWrong : ChangeSpec := { name := "fnScaling", fn := fun _ => fun
  | [d] => { results := [.lit (.bool false)], args := [d] }
  | _ => none }
def FnScalingWrongFalsely : Prop := fnScalingRow.holds Try.pinned (OpenSpec.ofChange fnScalingWrong)

/-- 'laws.FnExactVariableDegree': WHATEVER THE INPUT: true; the input reads as it did. -/
def fnExactVariableDegreeSpec : ChangeSpec := { name := "fnExactVariableDegree", fn := fun _ => fun
  | [d1, d2] => { results := [.lit (.bool true)], args := [d1, d2] }
  | _ => none }
def fnExactVariableDegreeRow : OpenClaim := { program := "ytgpdnleooeekbaa", sum := "44e9f674c4b8b21c979b16d5aa9837d72c0c7e76359f2aad09798e6eec63bfdb", func := "loop.example/g01917/laws.FnExactVariableDegree", spec := "fnExactVariableDegree", unfollowed := true, recurses := true, apart := false }
def FnExactVariableDegreeSaid : Prop := fnExactVariableDegreeRow.holds Try.pinned (OpenSpec.ofChange fnExactVariableDegreeSpec)

/-- ITS FALSE NEIGHBOUR: 'it returns false'. Refute it at one input. -/
def fnExactVariableDegreeWrong : ChangeSpec := { name := "fnExactVariableDegree", fn := fun _ => fun
  | [d1, d2] => { results := [.lit (.bool false)], args := [d1, d2] }
  | _ => none }
def FnExactVariableDegreeWrongFalsely : Prop := fnExactVariableDegreeRow.holds Try.pinned (OpenSpec.ofChange fnExactVariableDegreeWrong)

/-- 'laws.FnExactSumRationals': WHATEVER THE INPUT: true; the input reads as it did. -/
def fnExactSumRationalsSpec : ChangeSpec := { name := "fnExactSumRationals", fn := fun _ => fun
  | [d] => { results := [.lit (.bool true)], args := [d] }
  | _ => none }
def fnExactSumRationalsRow : OpenClaim := { program := "ytgpdnleooeekbaa", sum := "44e9f674c4b8b21c979b16d5aa9837d72c0c7e76359f2aad09798e6eec63bfdb", func := "loop.example/g01917/laws.FnExactSumRationals", spec := "fnExactSumRationals", apart := false }
def FnExactSumRationalsSaid : Prop := fnExactSumRationalsRow.holds Try.pinned (OpenSpec.ofChange fnExactSumRationalsSpec)

/-- ITS FALSE NEIGHBOUR: 'it returns false'. Refute it at one input. -/
def fnExactSumRationalsWrong : ChangeSpec := { name := "fnExactSumRationals", fn := fun _ => fun
  | [d] => { results := [.lit (.bool false)], args := [d] }
  | _ => none }
def FnExactSumRationalsWrongFalsely : Prop := fnExactSumRationalsRow.holds Try.pinned (OpenSpec.ofChange fnExactSumRationalsWrong)

/-- 'laws.FnExactIsFractionalCover': WHATEVER THE INPUT: true; the input reads as it did. -/
def fnExactIsFractionalCoverSpec : ChangeSpec := { name := "fnExactIsFractionalCover", fn := fun _ => fun
  | [d1, d2] => { results := [.lit (.bool true)], args := [d1, d2] }
  | _ => none }
def fnExactIsFractionalCoverRow : OpenClaim := { program := "ytgpdnleooeekbaa", sum := "44e9f674c4b8b21c979b16d5aa9837d72c0c7e76359f2aad09798e6eec63bfdb", func := "loop.example/g01917/laws.FnExactIsFractionalCover", spec := "fnExactIsFractionalCover", unfollowed := true, recurses := true, apart := false }
def FnExactIsFractionalCoverSaid : Prop := fnExactIsFractionalCoverRow.holds Try.pinned (OpenSpec.ofChange fnExactIsFractionalCoverSpec)

/-- ITS FALSE NEIGHBOUR: 'it returns false'. Refute it at one input. -/
def fnExactIsFractionalCoverWrong : ChangeSpec := { name := "fnExactIsFractionalCover", fn := fun _ => fun
  | [d1, d2] => { results := [.lit (.bool false)], args := [d1, d2] }
  | _ => none }
def FnExactIsFractionalCoverWrongFalsely : Prop := fnExactIsFractionalCoverRow.holds Try.pinned (OpenSpec.ofChange fnExactIsFractionalCoverWrong)

/-- 'laws.FnExactScaleToIntegers': WHATEVER THE INPUT: true; the input reads as it did. -/
def fnExactScaleToIntegersSpec : ChangeSpec := { name := "fnExactScaleToIntegers", fn := fun _ => fun
  | [d] => { results := [.lit (.bool true)], args := [d] }
  | _ => none }
def fnExactScaleToIntegersRow : OpenClaim := { program := "ytgpdnleooeekbaa", sum := "44e9f674c4b8b21c979b16d5aa9837d72c0c7e76359f2aad09798e6eec63bfdb", func := "loop.example/g01917/laws.FnExactScaleToIntegers", spec := "fnExactScaleToIntegers", apart := false }
def FnExactScaleToIntegersSaid : Prop := fnExactScaleToIntegersRow.holds Try.pinned (OpenSpec.ofChange fnExactScaleToIntegersSpec)

/-- ITS FALSE NEIGHBOUR: 'it returns false'. Refute it at one input. -/
def fnExactScaleToIntegersWrong : ChangeSpec := { name := "fnExactScaleToIntegers", fn := fun _ => fun
  | [d] => { results := [.lit (.bool false)], args := [d] }
  | _ => none }
def FnExactScaleToIntegersWrongFalsely : Prop := fnExactScaleToIntegersRow.holds Try.pinned (OpenSpec.ofChange fnExactScaleToIntegersWrong)

/-- 'laws.FnExactEqualRationals': WHATEVER THE INPUT: true; the input reads as it did. -/
def fnExactEqualRationalsSpec : ChangeSpec := { name := "fnExactEqualRationals", fn := fun _ => fun
  | [d1, d2] => { results := [.lit (.bool true)], args := [d1, d2] }
  | _ => none }
def fnExactEqualRationalsRow : OpenClaim := { program := "ytgpdnleooeekbaa", sum := "44e9f674c4b8b21c979b16d5aa9837d72c0c7e76359f2aad09798e6eec63bfdb", func := "loop.example/g01917/laws.FnExactEqualRationals", spec := "fnExactEqualRationals", apart := false }
def FnExactEqualRationalsSaid : Prop := fnExactEqualRationalsRow.holds Try.pinned (OpenSpec.ofChange fnExactEqualRationalsSpec)

/-- ITS FALSE NEIGHBOUR: 'it returns false'. Refute it at one input. -/
def fnExactEqualRationalsWrong : ChangeSpec := { name := "fnExactEqualRationals", fn := fun _ => fun
  | [d1, d2] => { results := [.lit (.bool false)], args := [d1, d2] }
  | _ => none }
def FnExactEqualRationalsWrongFalsely : Prop := fnExactEqualRationalsRow.holds Try.pinned (OpenSpec.ofChange fnExactEqualRationalsWrong)

/- THE SECOND FORM. 'bulk': how many values and letters a reading holds, each counted each time it is reached (what is shared counts as often as it is met; a slice's spare places count too). A statement '..UptoSaid' is the law's where the arguments, and the package variables that the reading takes, are together of bulk at most 1048576: NARROWER than '..Said'. Prove '..Said' where nothing that the law and all that it calls make is longer than what came in: it says more and counts as full. Else prove '..UptoSaid'. A law counts once. -/
mutual
def uptoBulk {H : Type} : DataW H → Nat
  | .lit (.string bytes) => bytes.length + 1
  | .lit _ => 1
  | .nil => 1
  | .ptr d => uptoBulk d + 1
  | .slice elems spare => uptoBulkAll elems + uptoBulkAll spare + 1
  | .agg parts => uptoBulkAll parts + 1
  | .iface _ d => uptoBulk d + 1
  | .map entries => uptoBulkEntries entries + 1
  | .held _ => 1
def uptoBulkAll {H : Type} : List (DataW H) → Nat
  | [] => 0
  | d :: r => uptoBulk d + uptoBulkAll r
def uptoBulkEntries {H : Type} : List (Lit × DataW H) → Nat
  | [] => 0
  | x :: r => uptoBulkEntry x + uptoBulkEntries r
def uptoBulkEntry {H : Type} : Lit × DataW H → Nat
  | (.string bytes, d) => bytes.length + uptoBulk d + 1
  | (_, d) => uptoBulk d + 1
 end
def uptoSmall : (H : Type) → List (DataW H) → Bool := fun _ ds => decide (uptoBulkAll ds ≤ 1048576)
def OpenSpec.upto (s : _root_.Go.ChangeSpec) : _root_.Go.OpenSpec := { _root_.Go.OpenSpec.ofChange s with cond := some uptoSmall }

/-- 'laws.FnScaling', WHERE WHAT IT READS IS OF BULK AT MOST 1048576: true; the input reads as it did. -/
def fnScalingUptoRow : OpenClaim := { program := "ytgpdnleooeekbaa", sum := "44e9f674c4b8b21c979b16d5aa9837d72c0c7e76359f2aad09798e6eec63bfdb", func := "loop.example/g01917/laws.FnScaling", spec := "fnScaling", apart := false, narrowed := true }
def FnScalingUptoSaid : Prop := fnScalingUptoRow.holds Try.pinned (OpenSpec.upto fnScalingSpec)

/-- 'laws.FnExactVariableDegree', WHERE WHAT IT READS IS OF BULK AT MOST 1048576: true; the input reads as it did. -/
def fnExactVariableDegreeUptoRow : OpenClaim := { program := "ytgpdnleooeekbaa", sum := "44e9f674c4b8b21c979b16d5aa9837d72c0c7e76359f2aad09798e6eec63bfdb", func := "loop.example/g01917/laws.FnExactVariableDegree", spec := "fnExactVariableDegree", unfollowed := true, recurses := true, apart := false, narrowed := true }
def FnExactVariableDegreeUptoSaid : Prop := fnExactVariableDegreeUptoRow.holds Try.pinned (OpenSpec.upto fnExactVariableDegreeSpec)

/-- 'laws.FnExactSumRationals', WHERE WHAT IT READS IS OF BULK AT MOST 1048576: true; the input reads as it did. -/
def fnExactSumRationalsUptoRow : OpenClaim := { program := "ytgpdnleooeekbaa", sum := "44e9f674c4b8b21c979b16d5aa9837d72c0c7e76359f2aad09798e6eec63bfdb", func := "loop.example/g01917/laws.FnExactSumRationals", spec := "fnExactSumRationals", apart := false, narrowed := true }
def FnExactSumRationalsUptoSaid : Prop := fnExactSumRationalsUptoRow.holds Try.pinned (OpenSpec.upto fnExactSumRationalsSpec)

/-- 'laws.FnExactIsFractionalCover', WHERE WHAT IT READS IS OF BULK AT MOST 1048576: true; the input reads as it did. -/
def fnExactIsFractionalCoverUptoRow : OpenClaim := { program := "ytgpdnleooeekbaa", sum := "44e9f674c4b8b21c979b16d5aa9837d72c0c7e76359f2aad09798e6eec63bfdb", func := "loop.example/g01917/laws.FnExactIsFractionalCover", spec := "fnExactIsFractionalCover", unfollowed := true, recurses := true, apart := false, narrowed := true }
def FnExactIsFractionalCoverUptoSaid : Prop := fnExactIsFractionalCoverUptoRow.holds Try.pinned (OpenSpec.upto fnExactIsFractionalCoverSpec)

/-- 'laws.FnExactScaleToIntegers', WHERE WHAT IT READS IS OF BULK AT MOST 1048576: true; the input reads as it did. -/
def fnExactScaleToIntegersUptoRow : OpenClaim := { program := "ytgpdnleooeekbaa", sum := "44e9f674c4b8b21c979b16d5aa9837d72c0c7e76359f2aad09798e6eec63bfdb", func := "loop.example/g01917/laws.FnExactScaleToIntegers", spec := "fnExactScaleToIntegers", apart := false, narrowed := true }
def FnExactScaleToIntegersUptoSaid : Prop := fnExactScaleToIntegersUptoRow.holds Try.pinned (OpenSpec.upto fnExactScaleToIntegersSpec)

/-- 'laws.FnExactEqualRationals', WHERE WHAT IT READS IS OF BULK AT MOST 1048576: true; the input reads as it did. -/
def fnExactEqualRationalsUptoRow : OpenClaim := { program := "ytgpdnleooeekbaa", sum := "44e9f674c4b8b21c979b16d5aa9837d72c0c7e76359f2aad09798e6eec63bfdb", func := "loop.example/g01917/laws.FnExactEqualRationals", spec := "fnExactEqualRationals", apart := false, narrowed := true }
def FnExactEqualRationalsUptoSaid : Prop := fnExactEqualRationalsUptoRow.holds Try.pinned (OpenSpec.upto fnExactEqualRationalsSpec)

end Rows
end Go.Proofs.Ytgpdnleooeekbaa
