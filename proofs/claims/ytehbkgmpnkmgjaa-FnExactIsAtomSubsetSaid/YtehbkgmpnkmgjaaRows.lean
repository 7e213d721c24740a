/-
  No cell of these rows narrows 'for every input' (looked for: loops, veiled, ifaces, maps, wideKeys, modest, calm, conditions, laid).
  DERIVED. THE GIVEN ROWS OF THIS SEAT. 5 by the template 'for every input the law returns true; each argument reads behind the call as it read before'; 0 by the template 'total and deterministic' (their statements: YtehbkgmpnkmgjaaTotals.lean).
  GIVEN WITH THE SEED: the statements are not yours to turn. If you find one false, say at which input.
  Laid BY PROGRAM, IN A SANDBOX (cutbox-rows.mjs): the forced cells as the released guide's own fill.sh prints them over the translation aec706ad1d3ea31b… (all of the seat's roots in one cut). By AI agents, Wed Nov 11 2026. No macro, syntax, notation, axiom, sorry.
-/
import Derived.Test.YtehbkgmpnkmgjaaChecked
import GoSem.Claim
import GoSem.ClaimJoined
import GoSem.ClaimMapViews
import Derived.JoinedTies
import Derived.KernelRfl
namespace Go.Proofs.Ytehbkgmpnkmgjaa
/- THE CELL 'sum', in the pinned program and in every row, IS THE sha256 OF THE DUMP (.gsa) THAT YtehbkgmpnkmgjaaProg.lean LOADS. Nothing in Lean hashes anything: it is a label: what it is worth is what the hold of that sum in a sandbox is worth. -/
noncomputable def Try.pinned : Pinned := { name := "ytehbkgmpnkmgjaa", sum := "aec706ad1d3ea31b29407ceab8478a83cb01a122ca7bc0ff12ec26a17bee4079", checked := Try.checked }
namespace Rows
def none {H : Type} : Left H := { results := [], args := [] }

/-- 'laws.FnExactVariableDegree': WHATEVER THE INPUT: true; the input reads as it did. -/
def fnExactVariableDegreeSpec : ChangeSpec := { name := "fnExactVariableDegree", fn := fun _ => fun
  | [d1, d2] => { results := [.lit (.bool true)], args := [d1, d2] }
  | _ => none }
def fnExactVariableDegreeRow : OpenClaim := { program := "ytehbkgmpnkmgjaa", sum := "aec706ad1d3ea31b29407ceab8478a83cb01a122ca7bc0ff12ec26a17bee4079", func := "loop.example/g01917/laws.FnExactVariableDegree", spec := "fnExactVariableDegree", unfollowed := true, recurses := true, apart := false }
def FnExactVariableDegreeSaid : Prop := fnExactVariableDegreeRow.holds Try.pinned (OpenSpec.ofChange fnExactVariableDegreeSpec)

/-- ITS FALSE NEIGHBOUR: 'it returns false'. Refute it at one input. -/
def fnExactVariableDegreeWrong : ChangeSpec := { name := "fnExactVariableDegree", fn := fun _ => fun
  | [d1, d2] => { results := [.lit (.bool false)], args := [d1, d2] }
  | _ => none }
def FnExactVariableDegreeWrongFalsely : Prop := fnExactVariableDegreeRow.holds Try.pinned (OpenSpec.ofChange fnExactVariableDegreeWrong)

/-- 'laws.FnExactIsAtomSubset': WHATEVER THE INPUT: true; the input reads as it did. -/
def fnExactIsAtomSubsetSpec : ChangeSpec := { name := "fnExactIsAtomSubset", fn := fun _ => fun
  | [d1, d2] => { results := [.lit (.bool true)], args := [d1, d2] }
  | _ => none }
def fnExactIsAtomSubsetRow : OpenClaim := { program := "ytehbkgmpnkmgjaa", sum := "aec706ad1d3ea31b29407ceab8478a83cb01a122ca7bc0ff12ec26a17bee4079", func := "loop.example/g01917/laws.FnExactIsAtomSubset", spec := "fnExactIsAtomSubset", apart := false }
def FnExactIsAtomSubsetSaid : Prop := fnExactIsAtomSubsetRow.holds Try.pinned (OpenSpec.ofChange fnExactIsAtomSubsetSpec)

/-- ITS FALSE NEIGHBOUR: 'it returns false'. Refute it at one input. -/
def fnExactIsAtomSubsetWrong : ChangeSpec := { name := "fnExactIsAtomSubset", fn := fun _ => fun
  | [d1, d2] => { results := [.lit (.bool false)], args := [d1, d2] }
  | _ => none }
def FnExactIsAtomSubsetWrongFalsely : Prop := fnExactIsAtomSubsetRow.holds Try.pinned (OpenSpec.ofChange fnExactIsAtomSubsetWrong)

/-- 'laws.FnExactUnion': WHATEVER THE INPUT: true; the input reads as it did. -/
def fnExactUnionSpec : ChangeSpec := { name := "fnExactUnion", fn := fun _ => fun
  | [d1, d2] => { results := [.lit (.bool true)], args := [d1, d2] }
  | _ => none }
def fnExactUnionRow : OpenClaim := { program := "ytehbkgmpnkmgjaa", sum := "aec706ad1d3ea31b29407ceab8478a83cb01a122ca7bc0ff12ec26a17bee4079", func := "loop.example/g01917/laws.FnExactUnion", spec := "fnExactUnion", unfollowed := true, recurses := true, apart := false }
def FnExactUnionSaid : Prop := fnExactUnionRow.holds Try.pinned (OpenSpec.ofChange fnExactUnionSpec)

/-- ITS FALSE NEIGHBOUR: 'it returns false'. Refute it at one input. -/
def fnExactUnionWrong : ChangeSpec := { name := "fnExactUnion", fn := fun _ => fun
  | [d1, d2] => { results := [.lit (.bool false)], args := [d1, d2] }
  | _ => none }
def FnExactUnionWrongFalsely : Prop := fnExactUnionRow.holds Try.pinned (OpenSpec.ofChange fnExactUnionWrong)

/-- 'laws.FnExactSetRelation': WHATEVER THE INPUT: true; the input reads as it did. -/
def fnExactSetRelationSpec : ChangeSpec := { name := "fnExactSetRelation", fn := fun _ => fun
  | [d1, d2, d3] => { results := [.lit (.bool true)], args := [d1, d2, d3] }
  | _ => none }
def fnExactSetRelationRow : OpenClaim := { program := "ytehbkgmpnkmgjaa", sum := "aec706ad1d3ea31b29407ceab8478a83cb01a122ca7bc0ff12ec26a17bee4079", func := "loop.example/g01917/laws.FnExactSetRelation", spec := "fnExactSetRelation", unfollowed := true, recurses := true, apart := false }
def FnExactSetRelationSaid : Prop := fnExactSetRelationRow.holds Try.pinned (OpenSpec.ofChange fnExactSetRelationSpec)

/-- ITS FALSE NEIGHBOUR: 'it returns false'. Refute it at one input. -/
def fnExactSetRelationWrong : ChangeSpec := { name := "fnExactSetRelation", fn := fun _ => fun
  | [d1, d2, d3] => { results := [.lit (.bool false)], args := [d1, d2, d3] }
  | _ => none }
def FnExactSetRelationWrongFalsely : Prop := fnExactSetRelationRow.holds Try.pinned (OpenSpec.ofChange fnExactSetRelationWrong)

/-- 'laws.FnExactFormatQuery': WHATEVER THE INPUT: true; the input reads as it did. -/
def fnExactFormatQuerySpec : ChangeSpec := { name := "fnExactFormatQuery", fn := fun _ => fun
  | [d] => { results := [.lit (.bool true)], args := [d] }
  | _ => none }
def fnExactFormatQueryRow : OpenClaim := { program := "ytehbkgmpnkmgjaa", sum := "aec706ad1d3ea31b29407ceab8478a83cb01a122ca7bc0ff12ec26a17bee4079", func := "loop.example/g01917/laws.FnExactFormatQuery", spec := "fnExactFormatQuery", inPlace := ["internal/abi.NoEscape", "internal/bytealg.MakeNoZero"], unfollowed := true, recurses := true, apart := false }
def FnExactFormatQuerySaid : Prop := fnExactFormatQueryRow.holds Try.pinned (OpenSpec.ofChange fnExactFormatQuerySpec)

/-- ITS FALSE NEIGHBOUR: 'it returns false'. Refute it at one input. -/
def fnExactFormatQueryWrong : ChangeSpec := { name := "fnExactFormatQuery", fn := fun _ => fun
  | [d] => { results := [.lit (.bool false)], args := [d] }
  | _ => none }
def FnExactFormatQueryWrongFalsely : Prop := fnExactFormatQueryRow.holds Try.pinned (OpenSpec.ofChange fnExactFormatQueryWrong)

/- THE SECOND FORM. 'bulk': how many values and letters a reading holds, each counted each time it is reached (what is shared counts as often as it is met; a slice's spare places count too). A statement '..UptoSaid' is the law's where the arguments, and the package variables that the reading takes, are together of bulk at most 1048576: NARROWER than '..Said'. Prove '..Said' where nothing that the law and all that it calls make is longer than what came in: it says more and counts as full. Else prove '..UptoSaid'. A law counts once. -/
mutual
def uptoBulk {H : Type} : DataW H → Nat
  | .lit (.string bytes) => bytes.length + 1
  | .lit _ => 1
  | .nil => 1
  | .ptr d => uptoBulk d + 1
  | .slice elems spare => uptoBulkAll elems + uptoBulkAll spare + 1
  | .agg parts => uptoBulkAll parts + 1
  | .iface _ d => uptoBulk d + 1
  | .map entries => uptoBulkEntries entries + 1
  | .held _ => 1
def uptoBulkAll {H : Type} : List (DataW H) → Nat
  | [] => 0
  | d :: r => uptoBulk d + uptoBulkAll r
def uptoBulkEntries {H : Type} : List (Lit × DataW H) → Nat
  | [] => 0
  | x :: r => uptoBulkEntry x + uptoBulkEntries r
def uptoBulkEntry {H : Type} : Lit × DataW H → Nat
  | (.string bytes, d) => bytes.length + uptoBulk d + 1
  | (_, d) => uptoBulk d + 1
 end
def uptoSmall : (H : Type) → List (DataW H) → Bool := fun _ ds => decide (uptoBulkAll ds ≤ 1048576)
def OpenSpec.upto (s : _root_.Go.ChangeSpec) : _root_.Go.OpenSpec := { _root_.Go.OpenSpec.ofChange s with cond := some uptoSmall }

/-- 'laws.FnExactVariableDegree', WHERE WHAT IT READS IS OF BULK AT MOST 1048576: true; the input reads as it did. -/
def fnExactVariableDegreeUptoRow : OpenClaim := { program := "ytehbkgmpnkmgjaa", sum := "aec706ad1d3ea31b29407ceab8478a83cb01a122ca7bc0ff12ec26a17bee4079", func := "loop.example/g01917/laws.FnExactVariableDegree", spec := "fnExactVariableDegree", unfollowed := true, recurses := true, apart := false, narrowed := true }
def FnExactVariableDegreeUptoSaid : Prop := fnExactVariableDegreeUptoRow.holds Try.pinned (OpenSpec.upto fnExactVariableDegreeSpec)

/-- 'laws.FnExactIsAtomSubset', WHERE WHAT IT READS IS OF BULK AT MOST 1048576: true; the input reads as it did. -/
def fnExactIsAtomSubsetUptoRow : OpenClaim := { program := "ytehbkgmpnkmgjaa", sum := "aec706ad1d3ea31b29407ceab8478a83cb01a122ca7bc0ff12ec26a17bee4079", func := "loop.example/g01917/laws.FnExactIsAtomSubset", spec := "fnExactIsAtomSubset", apart := false, narrowed := true }
def FnExactIsAtomSubsetUptoSaid : Prop := fnExactIsAtomSubsetUptoRow.holds Try.pinned (OpenSpec.upto fnExactIsAtomSubsetSpec)

/-- 'laws.FnExactUnion', WHERE WHAT IT READS IS OF BULK AT MOST 1048576: true; the input reads as it did. -/
def fnExactUnionUptoRow : OpenClaim := { program := "ytehbkgmpnkmgjaa", sum := "aec706ad1d3ea31b29407ceab8478a83cb01a122ca7bc0ff12ec26a17bee4079", func := "loop.example/g01917/laws.FnExactUnion", spec := "fnExactUnion", unfollowed := true, recurses := true, apart := false, narrowed := true }
def FnExactUnionUptoSaid : Prop := fnExactUnionUptoRow.holds Try.pinned (OpenSpec.upto fnExactUnionSpec)

/-- 'laws.FnExactSetRelation', WHERE WHAT IT READS IS OF BULK AT MOST 1048576: true; the input reads as it did. -/
def fnExactSetRelationUptoRow : OpenClaim := { program := "ytehbkgmpnkmgjaa", sum := "aec706ad1d3ea31b29407ceab8478a83cb01a122ca7bc0ff12ec26a17bee4079", func := "loop.example/g01917/laws.FnExactSetRelation", spec := "fnExactSetRelation", unfollowed := true, recurses := true, apart := false, narrowed := true }
def FnExactSetRelationUptoSaid : Prop := fnExactSetRelationUptoRow.holds Try.pinned (OpenSpec.upto fnExactSetRelationSpec)

/-- 'laws.FnExactFormatQuery', WHERE WHAT IT READS IS OF BULK AT MOST 1048576: true; the input reads as it did. -/
def fnExactFormatQueryUptoRow : OpenClaim := { program := "ytehbkgmpnkmgjaa", sum := "aec706ad1d3ea31b29407ceab8478a83cb01a122ca7bc0ff12ec26a17bee4079", func := "loop.example/g01917/laws.FnExactFormatQuery", spec := "fnExactFormatQuery", inPlace := ["internal/abi.NoEscape", "internal/bytealg.MakeNoZero"], unfollowed := true, recurses := true, apart := false, narrowed := true }
def FnExactFormatQueryUptoSaid : Prop := fnExactFormatQueryUptoRow.holds Try.pinned (OpenSpec.upto fnExactFormatQuerySpec)

end Rows
end Go.Proofs.Ytehbkgmpnkmgjaa
