/-
  No cell of these rows narrows 'for every input' (looked for: loops, veiled, ifaces, maps, wideKeys, modest, calm, conditions, laid).
  DERIVED. THE GIVEN ROWS OF THIS SEAT. 7 by the template 'for every input the law returns true; each argument reads behind the call as it read before'; 0 by the template 'total and deterministic' (their statements: YtnnhkghdlekanaaTotals.lean).
  GIVEN WITH THE SEED: the statements are not yours to turn. If you find one false, say at which input.
  Laid BY PROGRAM, IN A SANDBOX (cutbox-rows.mjs): the forced cells as the released guide's own fill.sh prints them over the translation ab0ab1a96b5ddd4c… (all of the seat's roots in one cut). By AI agents, Wed Nov 11 2026. No macro, syntax, notation, axiom, sorry.
-/
import Derived.Test.YtnnhkghdlekanaaChecked
import GoSem.Claim
import GoSem.ClaimJoined
import GoSem.ClaimMapViews
import Derived.JoinedTies
import Derived.KernelRfl
namespace Go.Proofs.Ytnnhkghdlekanaa
/- THE CELL 'sum', in the pinned program and in every row, IS THE sha256 OF THE DUMP (.gsa) THAT YtnnhkghdlekanaaProg.lean LOADS. Nothing in Lean hashes anything: it is a label: what it is worth is what the hold of that sum in a sandbox is worth. -/
noncomputable def Try.pinned : Pinned := { name := "ytnnhkghdlekanaa", sum := "ab0ab1a96b5ddd4c5682165f09a3fb2daffc134b253efaa94c39083ff4728788", checked := Try.checked }
namespace Rows
def none {H : Type} : Left H := { results := [], args := [] }

/-- 'laws.FnRowEncoding': WHATEVER THE INPUT: true; the input reads as it did. -/
def fnRowEncodingSpec : ChangeSpec := { name := "fnRowEncoding", fn := fun _ => fun
  | [d] => { results := [.lit (.bool true)], args := [d] }
  | _ => none }
def fnRowEncodingRow : OpenClaim := { program := "ytnnhkghdlekanaa", sum := "ab0ab1a96b5ddd4c5682165f09a3fb2daffc134b253efaa94c39083ff4728788", func := "loop.example/g01917/laws.FnRowEncoding", spec := "fnRowEncoding", apart := false }
def FnRowEncodingSaid : Prop := fnRowEncodingRow.holds Try.pinned (OpenSpec.ofChange fnRowEncodingSpec)

/-- ITS FALSE NEIGHBOUR: 'it returns false'. Refute it at one input. -/
def fnRowEncodingWrong : ChangeSpec := { name := "fnRowEncoding", fn := fun _ => fun
  | [d] => { results := [.lit (.bool false)], args := [d] }
  | _ => none }
def FnRowEncodingWrongFalsely : Prop := fnRowEncodingRow.holds Try.pinned (OpenSpec.ofChange fnRowEncodingWrong)

/-- 'laws.FnExactEncodeValue': WHATEVER THE INPUT: true; the input reads as it did. -/
def fnExactEncodeValueSpec : ChangeSpec := { name := "fnExactEncodeValue", fn := fun _ => fun
  | [d] => { results := [.lit (.bool true)], args := [d] }
  | _ => none }
def fnExactEncodeValueRow : OpenClaim := { program := "ytnnhkghdlekanaa", sum := "ab0ab1a96b5ddd4c5682165f09a3fb2daffc134b253efaa94c39083ff4728788", func := "loop.example/g01917/laws.FnExactEncodeValue", spec := "fnExactEncodeValue", apart := false }
def FnExactEncodeValueSaid : Prop := fnExactEncodeValueRow.holds Try.pinned (OpenSpec.ofChange fnExactEncodeValueSpec)

/-- ITS FALSE NEIGHBOUR: 'it returns false'. Refute it at one input. -/
def fnExactEncodeValueWrong : ChangeSpec := { name := "fnExactEncodeValue", fn := fun _ => fun
  | [d] => { results := [.lit (.bool false)], args := [d] }
  | _ => none }
def FnExactEncodeValueWrongFalsely : Prop := fnExactEncodeValueRow.holds Try.pinned (OpenSpec.ofChange fnExactEncodeValueWrong)

/-- 'laws.FnExactDecodeValue': WHATEVER THE INPUT: true; the input reads as it did. -/
def fnExactDecodeValueSpec : ChangeSpec := { name := "fnExactDecodeValue", fn := fun _ => fun
  | [d1, d2] => { results := [.lit (.bool true)], args := [d1, d2] }
  | _ => none }
def fnExactDecodeValueRow : OpenClaim := { program := "ytnnhkghdlekanaa", sum := "ab0ab1a96b5ddd4c5682165f09a3fb2daffc134b253efaa94c39083ff4728788", func := "loop.example/g01917/laws.FnExactDecodeValue", spec := "fnExactDecodeValue", apart := false }
def FnExactDecodeValueSaid : Prop := fnExactDecodeValueRow.holds Try.pinned (OpenSpec.ofChange fnExactDecodeValueSpec)

/-- ITS FALSE NEIGHBOUR: 'it returns false'. Refute it at one input. -/
def fnExactDecodeValueWrong : ChangeSpec := { name := "fnExactDecodeValue", fn := fun _ => fun
  | [d1, d2] => { results := [.lit (.bool false)], args := [d1, d2] }
  | _ => none }
def FnExactDecodeValueWrongFalsely : Prop := fnExactDecodeValueRow.holds Try.pinned (OpenSpec.ofChange fnExactDecodeValueWrong)

/-- 'laws.FnExactEncodeRow': WHATEVER THE INPUT: true; the input reads as it did. -/
def fnExactEncodeRowSpec : ChangeSpec := { name := "fnExactEncodeRow", fn := fun _ => fun
  | [d] => { results := [.lit (.bool true)], args := [d] }
  | _ => none }
def fnExactEncodeRowRow : OpenClaim := { program := "ytnnhkghdlekanaa", sum := "ab0ab1a96b5ddd4c5682165f09a3fb2daffc134b253efaa94c39083ff4728788", func := "loop.example/g01917/laws.FnExactEncodeRow", spec := "fnExactEncodeRow", apart := false }
def FnExactEncodeRowSaid : Prop := fnExactEncodeRowRow.holds Try.pinned (OpenSpec.ofChange fnExactEncodeRowSpec)

/-- ITS FALSE NEIGHBOUR: 'it returns false'. Refute it at one input. -/
def fnExactEncodeRowWrong : ChangeSpec := { name := "fnExactEncodeRow", fn := fun _ => fun
  | [d] => { results := [.lit (.bool false)], args := [d] }
  | _ => none }
def FnExactEncodeRowWrongFalsely : Prop := fnExactEncodeRowRow.holds Try.pinned (OpenSpec.ofChange fnExactEncodeRowWrong)

/-- 'laws.FnExactDecodeRow': WHATEVER THE INPUT: true; the input reads as it did. -/
def fnExactDecodeRowSpec : ChangeSpec := { name := "fnExactDecodeRow", fn := fun _ => fun
  | [d1, d2] => { results := [.lit (.bool true)], args := [d1, d2] }
  | _ => none }
def fnExactDecodeRowRow : OpenClaim := { program := "ytnnhkghdlekanaa", sum := "ab0ab1a96b5ddd4c5682165f09a3fb2daffc134b253efaa94c39083ff4728788", func := "loop.example/g01917/laws.FnExactDecodeRow", spec := "fnExactDecodeRow", apart := false }
def FnExactDecodeRowSaid : Prop := fnExactDecodeRowRow.holds Try.pinned (OpenSpec.ofChange fnExactDecodeRowSpec)

/-- ITS FALSE NEIGHBOUR: 'it returns false'. Refute it at one input. -/
def fnExactDecodeRowWrong : ChangeSpec := { name := "fnExactDecodeRow", fn := fun _ => fun
  | [d1, d2] => { results := [.lit (.bool false)], args := [d1, d2] }
  | _ => none }
def FnExactDecodeRowWrongFalsely : Prop := fnExactDecodeRowRow.holds Try.pinned (OpenSpec.ofChange fnExactDecodeRowWrong)

/-- 'laws.FnExactCompareRows': WHATEVER THE INPUT: true; the input reads as it did. -/
def fnExactCompareRowsSpec : ChangeSpec := { name := "fnExactCompareRows", fn := fun _ => fun
  | [d1, d2] => { results := [.lit (.bool true)], args := [d1, d2] }
  | _ => none }
def fnExactCompareRowsRow : OpenClaim := { program := "ytnnhkghdlekanaa", sum := "ab0ab1a96b5ddd4c5682165f09a3fb2daffc134b253efaa94c39083ff4728788", func := "loop.example/g01917/laws.FnExactCompareRows", spec := "fnExactCompareRows", apart := false }
def FnExactCompareRowsSaid : Prop := fnExactCompareRowsRow.holds Try.pinned (OpenSpec.ofChange fnExactCompareRowsSpec)

/-- ITS FALSE NEIGHBOUR: 'it returns false'. Refute it at one input. -/
def fnExactCompareRowsWrong : ChangeSpec := { name := "fnExactCompareRows", fn := fun _ => fun
  | [d1, d2] => { results := [.lit (.bool false)], args := [d1, d2] }
  | _ => none }
def FnExactCompareRowsWrongFalsely : Prop := fnExactCompareRowsRow.holds Try.pinned (OpenSpec.ofChange fnExactCompareRowsWrong)

/-- 'laws.FnExactAreValidValues': WHATEVER THE INPUT: true; the input reads as it did. -/
def fnExactAreValidValuesSpec : ChangeSpec := { name := "fnExactAreValidValues", fn := fun _ => fun
  | [d] => { results := [.lit (.bool true)], args := [d] }
  | _ => none }
def fnExactAreValidValuesRow : OpenClaim := { program := "ytnnhkghdlekanaa", sum := "ab0ab1a96b5ddd4c5682165f09a3fb2daffc134b253efaa94c39083ff4728788", func := "loop.example/g01917/laws.FnExactAreValidValues", spec := "fnExactAreValidValues", apart := false }
def FnExactAreValidValuesSaid : Prop := fnExactAreValidValuesRow.holds Try.pinned (OpenSpec.ofChange fnExactAreValidValuesSpec)

/-- ITS FALSE NEIGHBOUR: 'it returns false'. Refute it at one input. -/
def fnExactAreValidValuesWrong : ChangeSpec := { name := "fnExactAreValidValues", fn := fun _ => fun
  | [d] => { results := [.lit (.bool false)], args := [d] }
  | _ => none }
def FnExactAreValidValuesWrongFalsely : Prop := fnExactAreValidValuesRow.holds Try.pinned (OpenSpec.ofChange fnExactAreValidValuesWrong)

/- THE SECOND FORM. 'bulk': how many values and letters a reading holds, each counted each time it is reached (what is shared counts as often as it is met; a slice's spare places count too). A statement '..UptoSaid' is the law's where the arguments, and the package variables that the reading takes, are together of bulk at most 1048576: NARROWER than '..Said'. Prove '..Said' where nothing that the law and all that it calls make is longer than what came in: it says more and counts as full. Else prove '..UptoSaid'. A law counts once. -/
mutual
def uptoBulk {H : Type} : DataW H → Nat
  | .lit (.string bytes) => bytes.length + 1
  | .lit _ => 1
  | .nil => 1
  | .ptr d => uptoBulk d + 1
  | .slice elems spare => uptoBulkAll elems + uptoBulkAll spare + 1
  | .agg parts => uptoBulkAll parts + 1
  | .iface _ d => uptoBulk d + 1
  | .map entries => uptoBulkEntries entries + 1
  | .held _ => 1
def uptoBulkAll {H : Type} : List (DataW H) → Nat
  | [] => 0
  | d :: r => uptoBulk d + uptoBulkAll r
def uptoBulkEntries {H : Type} : List (Lit × DataW H) → Nat
  | [] => 0
  | x :: r => uptoBulkEntry x + uptoBulkEntries r
def uptoBulkEntry {H : Type} : Lit × DataW H → Nat
  | (.string bytes, d) => bytes.length + uptoBulk d + 1
  | (_, d) => uptoBulk d + 1
 end
def uptoSmall : (H : Type) → List (DataW H) → Bool := fun _ ds => decide (uptoBulkAll ds ≤ 1048576)
def OpenSpec.upto (s : _root_.Go.ChangeSpec) : _root_.Go.OpenSpec := { _root_.Go.OpenSpec.ofChange s with cond := some uptoSmall }

/-- 'laws.FnRowEncoding', WHERE WHAT IT READS IS OF BULK AT MOST 1048576: true; the input reads as it did. -/
def fnRowEncodingUptoRow : OpenClaim := { program := "ytnnhkghdlekanaa", sum := "ab0ab1a96b5ddd4c5682165f09a3fb2daffc134b253efaa94c39083ff4728788", func := "loop.example/g01917/laws.FnRowEncoding", spec := "fnRowEncoding", apart := false, narrowed := true }
def FnRowEncodingUptoSaid : Prop := fnRowEncodingUptoRow.holds Try.pinned (OpenSpec.upto fnRowEncodingSpec)

/-- 'laws.FnExactEncodeValue', WHERE WHAT IT READS IS OF BULK AT MOST 1048576: true; the input reads as it did. -/
def fnExactEncodeValueUptoRow : OpenClaim := { program := "ytnnhkghdlekanaa", sum := "ab0ab1a96b5ddd4c5682165f09a3fb2daffc134b253efaa94c39083ff4728788", func := "loop.example/g01917/laws.FnExactEncodeValue", spec := "fnExactEncodeValue", apart := false, narrowed := true }
def FnExactEncodeValueUptoSaid : Prop := fnExactEncodeValueUptoRow.holds Try.pinned (OpenSpec.upto fnExactEncodeValueSpec)

/-- 'laws.FnExactDecodeValue', WHERE WHAT IT READS IS OF BULK AT MOST 1048576: true; the input reads as it did. -/
def fnExactDecodeValueUptoRow : OpenClaim := { program := "ytnnhkghdlekanaa", sum := "ab0ab1a96b5ddd4c5682165f09a3fb2daffc134b253efaa94c39083ff4728788", func := "loop.example/g01917/laws.FnExactDecodeValue", spec := "fnExactDecodeValue", apart := false, narrowed := true }
def FnExactDecodeValueUptoSaid : Prop := fnExactDecodeValueUptoRow.holds Try.pinned (OpenSpec.upto fnExactDecodeValueSpec)

/-- 'laws.FnExactEncodeRow', WHERE WHAT IT READS IS OF BULK AT MOST 1048576: true; the input reads as it did. -/
def fnExactEncodeRowUptoRow : OpenClaim := { program := "ytnnhkghdlekanaa", sum := "ab0ab1a96b5ddd4c5682165f09a3fb2daffc134b253efaa94c39083ff4728788", func := "loop.example/g01917/laws.FnExactEncodeRow", spec := "fnExactEncodeRow", apart := false, narrowed := true }
def FnExactEncodeRowUptoSaid : Prop := fnExactEncodeRowUptoRow.holds Try.pinned (OpenSpec.upto fnExactEncodeRowSpec)

/-- 'laws.FnExactDecodeRow', WHERE WHAT IT READS IS OF BULK AT MOST 1048576: true; the input reads as it did. -/
def fnExactDecodeRowUptoRow : OpenClaim := { program := "ytnnhkghdlekanaa", sum := "ab0ab1a96b5ddd4c5682165f09a3fb2daffc134b253efaa94c39083ff4728788", func := "loop.example/g01917/laws.FnExactDecodeRow", spec := "fnExactDecodeRow", apart := false, narrowed := true }
def FnExactDecodeRowUptoSaid : Prop := fnExactDecodeRowUptoRow.holds Try.pinned (OpenSpec.upto fnExactDecodeRowSpec)

/-- 'laws.FnExactCompareRows', WHERE WHAT IT READS IS OF BULK AT MOST 1048576: true; the input reads as it did. -/
def fnExactCompareRowsUptoRow : OpenClaim := { program := "ytnnhkghdlekanaa", sum := "ab0ab1a96b5ddd4c5682165f09a3fb2daffc134b253efaa94c39083ff4728788", func := "loop.example/g01917/laws.FnExactCompareRows", spec := "fnExactCompareRows", apart := false, narrowed := true }
def FnExactCompareRowsUptoSaid : Prop := fnExactCompareRowsUptoRow.holds Try.pinned (OpenSpec.upto fnExactCompareRowsSpec)

/-- 'laws.FnExactAreValidValues', WHERE WHAT IT READS IS OF BULK AT MOST 1048576: true; the input reads as it did. -/
def fnExactAreValidValuesUptoRow : OpenClaim := { program := "ytnnhkghdlekanaa", sum := "ab0ab1a96b5ddd4c5682165f09a3fb2daffc134b253efaa94c39083ff4728788", func := "loop.example/g01917/laws.FnExactAreValidValues", spec := "fnExactAreValidValues", apart := false, narrowed := true }
def FnExactAreValidValuesUptoSaid : Prop := fnExactAreValidValuesUptoRow.holds Try.pinned (OpenSpec.upto fnExactAreValidValuesSpec)

end Rows
end Go.Proofs.Ytnnhkghdlekanaa
