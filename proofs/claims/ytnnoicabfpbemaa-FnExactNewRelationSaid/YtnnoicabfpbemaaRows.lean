/-
  No cell of these rows narrows 'for every input' (looked for: loops, veiled, ifaces, maps, wideKeys, modest, calm, conditions, laid).
  DERIVED. THE GIVEN ROWS OF THIS SEAT. 10 by the template 'for every input the law returns true; each argument reads behind the call as it read before'; 0 by the template 'total and deterministic' (their statements: YtnnoicabfpbemaaTotals.lean).
  GIVEN WITH THE SEED: the statements are not yours to turn. If you find one false, say at which input.
  Laid BY PROGRAM, IN A SANDBOX (cutbox-rows.mjs): the forced cells as the released guide's own fill.sh prints them over the translation 450a205bde70da6a… (all of the seat's roots in one cut). By AI agents, Wed Nov 11 2026. No macro, syntax, notation, axiom, sorry.
-/
import Derived.Test.YtnnoicabfpbemaaChecked
import GoSem.Claim
import GoSem.ClaimJoined
import GoSem.ClaimMapViews
import Derived.JoinedTies
import Derived.KernelRfl
namespace Go.Proofs.Ytnnoicabfpbemaa
/- THE CELL 'sum', in the pinned program and in every row, IS THE sha256 OF THE DUMP (.gsa) THAT YtnnoicabfpbemaaProg.lean LOADS. Nothing in Lean hashes anything: it is a label: what it is worth is what the hold of that sum in a sandbox is worth. -/
noncomputable def Try.pinned : Pinned := { name := "ytnnoicabfpbemaa", sum := "450a205bde70da6ac6e86a6e80ea636a4eea651776ac629f389a4f640fc39367", checked := Try.checked }
namespace Rows
def none {H : Type} : Left H := { results := [], args := [] }

/-- 'laws.FnInsertDelete': WHATEVER THE INPUT: true; the input reads as it did. -/
def fnInsertDeleteSpec : ChangeSpec := { name := "fnInsertDelete", fn := fun _ => fun
  | [d] => { results := [.lit (.bool true)], args := [d] }
  | _ => none }
def fnInsertDeleteRow : OpenClaim := { program := "ytnnoicabfpbemaa", sum := "450a205bde70da6ac6e86a6e80ea636a4eea651776ac629f389a4f640fc39367", func := "loop.example/g01917/laws.FnInsertDelete", spec := "fnInsertDelete", inPlace := ["slices.overlaps[[]int]"], unfollowed := true, recurses := true, apart := false }
def FnInsertDeleteSaid : Prop := fnInsertDeleteRow.holds Try.pinned (OpenSpec.ofChange fnInsertDeleteSpec)

/-- ITS FALSE NEIGHBOUR: 'it returns false'. Refute it at one input. -/
def fnInsertDeleteWrong : ChangeSpec := { name := "fnInsertDelete", fn := fun _ => fun
  | [d] => { results := [.lit (.bool false)], args := [d] }
  | _ => none }
def FnInsertDeleteWrongFalsely : Prop := fnInsertDeleteRow.holds Try.pinned (OpenSpec.ofChange fnInsertDeleteWrong)

/-- 'laws.FnSetOperations': WHATEVER THE INPUT: true; the input reads as it did. -/
def fnSetOperationsSpec : ChangeSpec := { name := "fnSetOperations", fn := fun _ => fun
  | [d] => { results := [.lit (.bool true)], args := [d] }
  | _ => none }
def fnSetOperationsRow : OpenClaim := { program := "ytnnoicabfpbemaa", sum := "450a205bde70da6ac6e86a6e80ea636a4eea651776ac629f389a4f640fc39367", func := "loop.example/g01917/laws.FnSetOperations", spec := "fnSetOperations", unfollowed := true, recurses := true, apart := false }
def FnSetOperationsSaid : Prop := fnSetOperationsRow.holds Try.pinned (OpenSpec.ofChange fnSetOperationsSpec)

/-- ITS FALSE NEIGHBOUR: 'it returns false'. Refute it at one input. -/
def fnSetOperationsWrong : ChangeSpec := { name := "fnSetOperations", fn := fun _ => fun
  | [d] => { results := [.lit (.bool false)], args := [d] }
  | _ => none }
def FnSetOperationsWrongFalsely : Prop := fnSetOperationsRow.holds Try.pinned (OpenSpec.ofChange fnSetOperationsWrong)

/-- 'laws.FnProjection': WHATEVER THE INPUT: true; the input reads as it did. -/
def fnProjectionSpec : ChangeSpec := { name := "fnProjection", fn := fun _ => fun
  | [d] => { results := [.lit (.bool true)], args := [d] }
  | _ => none }
def fnProjectionRow : OpenClaim := { program := "ytnnoicabfpbemaa", sum := "450a205bde70da6ac6e86a6e80ea636a4eea651776ac629f389a4f640fc39367", func := "loop.example/g01917/laws.FnProjection", spec := "fnProjection", unfollowed := true, recurses := true, apart := false }
def FnProjectionSaid : Prop := fnProjectionRow.holds Try.pinned (OpenSpec.ofChange fnProjectionSpec)

/-- ITS FALSE NEIGHBOUR: 'it returns false'. Refute it at one input. -/
def fnProjectionWrong : ChangeSpec := { name := "fnProjection", fn := fun _ => fun
  | [d] => { results := [.lit (.bool false)], args := [d] }
  | _ => none }
def FnProjectionWrongFalsely : Prop := fnProjectionRow.holds Try.pinned (OpenSpec.ofChange fnProjectionWrong)

/-- 'laws.FnNewRelation': WHATEVER THE INPUT: true; the input reads as it did. -/
def fnNewRelationSpec : ChangeSpec := { name := "fnNewRelation", fn := fun _ => fun
  | [d] => { results := [.lit (.bool true)], args := [d] }
  | _ => none }
def fnNewRelationRow : OpenClaim := { program := "ytnnoicabfpbemaa", sum := "450a205bde70da6ac6e86a6e80ea636a4eea651776ac629f389a4f640fc39367", func := "loop.example/g01917/laws.FnNewRelation", spec := "fnNewRelation", unfollowed := true, recurses := true, apart := false }
def FnNewRelationSaid : Prop := fnNewRelationRow.holds Try.pinned (OpenSpec.ofChange fnNewRelationSpec)

/-- ITS FALSE NEIGHBOUR: 'it returns false'. Refute it at one input. -/
def fnNewRelationWrong : ChangeSpec := { name := "fnNewRelation", fn := fun _ => fun
  | [d] => { results := [.lit (.bool false)], args := [d] }
  | _ => none }
def FnNewRelationWrongFalsely : Prop := fnNewRelationRow.holds Try.pinned (OpenSpec.ofChange fnNewRelationWrong)

/-- 'laws.FnTables': WHATEVER THE INPUT: true; the input reads as it did. -/
def fnTablesSpec : ChangeSpec := { name := "fnTables", fn := fun _ => fun
  | [d] => { results := [.lit (.bool true)], args := [d] }
  | _ => none }
def fnTablesRow : OpenClaim := { program := "ytnnoicabfpbemaa", sum := "450a205bde70da6ac6e86a6e80ea636a4eea651776ac629f389a4f640fc39367", func := "loop.example/g01917/laws.FnTables", spec := "fnTables", unfollowed := true, recurses := true, apart := false }
def FnTablesSaid : Prop := fnTablesRow.holds Try.pinned (OpenSpec.ofChange fnTablesSpec)

/-- ITS FALSE NEIGHBOUR: 'it returns false'. Refute it at one input. -/
def fnTablesWrong : ChangeSpec := { name := "fnTables", fn := fun _ => fun
  | [d] => { results := [.lit (.bool false)], args := [d] }
  | _ => none }
def FnTablesWrongFalsely : Prop := fnTablesRow.holds Try.pinned (OpenSpec.ofChange fnTablesWrong)

/-- 'laws.FnExactNewRelation': WHATEVER THE INPUT: true; the input reads as it did. -/
def fnExactNewRelationSpec : ChangeSpec := { name := "fnExactNewRelation", fn := fun _ => fun
  | [d1, d2] => { results := [.lit (.bool true)], args := [d1, d2] }
  | _ => none }
def fnExactNewRelationRow : OpenClaim := { program := "ytnnoicabfpbemaa", sum := "450a205bde70da6ac6e86a6e80ea636a4eea651776ac629f389a4f640fc39367", func := "loop.example/g01917/laws.FnExactNewRelation", spec := "fnExactNewRelation", unfollowed := true, recurses := true, apart := false }
def FnExactNewRelationSaid : Prop := fnExactNewRelationRow.holds Try.pinned (OpenSpec.ofChange fnExactNewRelationSpec)

/-- ITS FALSE NEIGHBOUR: 'it returns false'. Refute it at one input. -/
def fnExactNewRelationWrong : ChangeSpec := { name := "fnExactNewRelation", fn := fun _ => fun
  | [d1, d2] => { results := [.lit (.bool false)], args := [d1, d2] }
  | _ => none }
def FnExactNewRelationWrongFalsely : Prop := fnExactNewRelationRow.holds Try.pinned (OpenSpec.ofChange fnExactNewRelationWrong)

/-- 'laws.FnExactInsertRow': WHATEVER THE INPUT: true; the input reads as it did. -/
def fnExactInsertRowSpec : ChangeSpec := { name := "fnExactInsertRow", fn := fun _ => fun
  | [d1, d2] => { results := [.lit (.bool true)], args := [d1, d2] }
  | _ => none }
def fnExactInsertRowRow : OpenClaim := { program := "ytnnoicabfpbemaa", sum := "450a205bde70da6ac6e86a6e80ea636a4eea651776ac629f389a4f640fc39367", func := "loop.example/g01917/laws.FnExactInsertRow", spec := "fnExactInsertRow", inPlace := ["slices.overlaps[[]int]"], unfollowed := true, recurses := true, apart := false }
def FnExactInsertRowSaid : Prop := fnExactInsertRowRow.holds Try.pinned (OpenSpec.ofChange fnExactInsertRowSpec)

/-- ITS FALSE NEIGHBOUR: 'it returns false'. Refute it at one input. -/
def fnExactInsertRowWrong : ChangeSpec := { name := "fnExactInsertRow", fn := fun _ => fun
  | [d1, d2] => { results := [.lit (.bool false)], args := [d1, d2] }
  | _ => none }
def FnExactInsertRowWrongFalsely : Prop := fnExactInsertRowRow.holds Try.pinned (OpenSpec.ofChange fnExactInsertRowWrong)

/-- 'laws.FnExactUnion': WHATEVER THE INPUT: true; the input reads as it did. -/
def fnExactUnionSpec : ChangeSpec := { name := "fnExactUnion", fn := fun _ => fun
  | [d1, d2] => { results := [.lit (.bool true)], args := [d1, d2] }
  | _ => none }
def fnExactUnionRow : OpenClaim := { program := "ytnnoicabfpbemaa", sum := "450a205bde70da6ac6e86a6e80ea636a4eea651776ac629f389a4f640fc39367", func := "loop.example/g01917/laws.FnExactUnion", spec := "fnExactUnion", unfollowed := true, recurses := true, apart := false }
def FnExactUnionSaid : Prop := fnExactUnionRow.holds Try.pinned (OpenSpec.ofChange fnExactUnionSpec)

/-- ITS FALSE NEIGHBOUR: 'it returns false'. Refute it at one input. -/
def fnExactUnionWrong : ChangeSpec := { name := "fnExactUnion", fn := fun _ => fun
  | [d1, d2] => { results := [.lit (.bool false)], args := [d1, d2] }
  | _ => none }
def FnExactUnionWrongFalsely : Prop := fnExactUnionRow.holds Try.pinned (OpenSpec.ofChange fnExactUnionWrong)

/-- 'laws.FnExactDifference': WHATEVER THE INPUT: true; the input reads as it did. -/
def fnExactDifferenceSpec : ChangeSpec := { name := "fnExactDifference", fn := fun _ => fun
  | [d1, d2] => { results := [.lit (.bool true)], args := [d1, d2] }
  | _ => none }
def fnExactDifferenceRow : OpenClaim := { program := "ytnnoicabfpbemaa", sum := "450a205bde70da6ac6e86a6e80ea636a4eea651776ac629f389a4f640fc39367", func := "loop.example/g01917/laws.FnExactDifference", spec := "fnExactDifference", unfollowed := true, recurses := true, apart := false }
def FnExactDifferenceSaid : Prop := fnExactDifferenceRow.holds Try.pinned (OpenSpec.ofChange fnExactDifferenceSpec)

/-- ITS FALSE NEIGHBOUR: 'it returns false'. Refute it at one input. -/
def fnExactDifferenceWrong : ChangeSpec := { name := "fnExactDifference", fn := fun _ => fun
  | [d1, d2] => { results := [.lit (.bool false)], args := [d1, d2] }
  | _ => none }
def FnExactDifferenceWrongFalsely : Prop := fnExactDifferenceRow.holds Try.pinned (OpenSpec.ofChange fnExactDifferenceWrong)

/-- 'laws.FnExactProject': WHATEVER THE INPUT: true; the input reads as it did. -/
def fnExactProjectSpec : ChangeSpec := { name := "fnExactProject", fn := fun _ => fun
  | [d1, d2] => { results := [.lit (.bool true)], args := [d1, d2] }
  | _ => none }
def fnExactProjectRow : OpenClaim := { program := "ytnnoicabfpbemaa", sum := "450a205bde70da6ac6e86a6e80ea636a4eea651776ac629f389a4f640fc39367", func := "loop.example/g01917/laws.FnExactProject", spec := "fnExactProject", unfollowed := true, recurses := true, apart := false }
def FnExactProjectSaid : Prop := fnExactProjectRow.holds Try.pinned (OpenSpec.ofChange fnExactProjectSpec)

/-- ITS FALSE NEIGHBOUR: 'it returns false'. Refute it at one input. -/
def fnExactProjectWrong : ChangeSpec := { name := "fnExactProject", fn := fun _ => fun
  | [d1, d2] => { results := [.lit (.bool false)], args := [d1, d2] }
  | _ => none }
def FnExactProjectWrongFalsely : Prop := fnExactProjectRow.holds Try.pinned (OpenSpec.ofChange fnExactProjectWrong)

/- THE SECOND FORM. 'bulk': how many values and letters a reading holds, each counted each time it is reached (what is shared counts as often as it is met; a slice's spare places count too). A statement '..UptoSaid' is the law's where the arguments, and the package variables that the reading takes, are together of bulk at most 1048576: NARROWER than '..Said'. Prove '..Said' where nothing that the law and all that it calls make is longer than what came in: it says more and counts as full. Else prove '..UptoSaid'. A law counts once. -/
mutual
def uptoBulk {H : Type} : DataW H → Nat
  | .lit (.string bytes) => bytes.length + 1
  | .lit _ => 1
  | .nil => 1
  | .ptr d => uptoBulk d + 1
  | .slice elems spare => uptoBulkAll elems + uptoBulkAll spare + 1
  | .agg parts => uptoBulkAll parts + 1
  | .iface _ d => uptoBulk d + 1
  | .map entries => uptoBulkEntries entries + 1
  | .held _ => 1
def uptoBulkAll {H : Type} : List (DataW H) → Nat
  | [] => 0
  | d :: r => uptoBulk d + uptoBulkAll r
def uptoBulkEntries {H : Type} : List (Lit × DataW H) → Nat
  | [] => 0
  | x :: r => uptoBulkEntry x + uptoBulkEntries r
def uptoBulkEntry {H : Type} : Lit × DataW H → Nat
  | (.string bytes, d) => bytes.length + uptoBulk d + 1
  | (_, d) => uptoBulk d + 1
 end
def uptoSmall : (H : Type) → List (DataW H) → Bool := fun _ ds => decide (uptoBulkAll ds ≤ 1048576)
def OpenSpec.upto (s : _root_.Go.ChangeSpec) : _root_.Go.OpenSpec := { _root_.Go.OpenSpec.ofChange s with cond := some uptoSmall }

/-- 'laws.FnInsertDelete', WHERE WHAT IT READS IS OF BULK AT MOST 1048576: true; the input reads as it did. -/
def fnInsertDeleteUptoRow : OpenClaim := { program := "ytnnoicabfpbemaa", sum := "450a205bde70da6ac6e86a6e80ea636a4eea651776ac629f389a4f640fc39367", func := "loop.example/g01917/laws.FnInsertDelete", spec := "fnInsertDelete", inPlace := ["slices.overlaps[[]int]"], unfollowed := true, recurses := true, apart := false, narrowed := true }
def FnInsertDeleteUptoSaid : Prop := fnInsertDeleteUptoRow.holds Try.pinned (OpenSpec.upto fnInsertDeleteSpec)

/-- 'laws.FnSetOperations', WHERE WHAT IT READS IS OF BULK AT MOST 1048576: true; the input reads as it did. -/
def fnSetOperationsUptoRow : OpenClaim := { program := "ytnnoicabfpbemaa", sum := "450a205bde70da6ac6e86a6e80ea636a4eea651776ac629f389a4f640fc39367", func := "loop.example/g01917/laws.FnSetOperations", spec := "fnSetOperations", unfollowed := true, recurses := true, apart := false, narrowed := true }
def FnSetOperationsUptoSaid : Prop := fnSetOperationsUptoRow.holds Try.pinned (OpenSpec.upto fnSetOperationsSpec)

/-- 'laws.FnProjection', WHERE WHAT IT READS IS OF BULK AT MOST 1048576: true; the input reads as it did. -/
def fnProjectionUptoRow : OpenClaim := { program := "ytnnoicabfpbemaa", sum := "450a205bde70da6ac6e86a6e80ea636a4eea651776ac629f389a4f640fc39367", func := "loop.example/g01917/laws.FnProjection", spec := "fnProjection", unfollowed := true, recurses := true, apart := false, narrowed := true }
def FnProjectionUptoSaid : Prop := fnProjectionUptoRow.holds Try.pinned (OpenSpec.upto fnProjectionSpec)

/-- 'laws.FnNewRelation', WHERE WHAT IT READS IS OF BULK AT MOST 1048576: true; the input reads as it did. -/
def fnNewRelationUptoRow : OpenClaim := { program := "ytnnoicabfpbemaa", sum := "450a205bde70da6ac6e86a6e80ea636a4eea651776ac629f389a4f640fc39367", func := "loop.example/g01917/laws.FnNewRelation", spec := "fnNewRelation", unfollowed := true, recurses := true, apart := false, narrowed := true }
def FnNewRelationUptoSaid : Prop := fnNewRelationUptoRow.holds Try.pinned (OpenSpec.upto fnNewRelationSpec)

/-- 'laws.FnTables', WHERE WHAT IT READS IS OF BULK AT MOST 1048576: true; the input reads as it did. -/
def fnTablesUptoRow : OpenClaim := { program := "ytnnoicabfpbemaa", sum := "450a205bde70da6ac6e86a6e80ea636a4eea651776ac629f389a4f640fc39367", func := "loop.example/g01917/laws.FnTables", spec := "fnTables", unfollowed := true, recurses := true, apart := false, narrowed := true }
def FnTablesUptoSaid : Prop := fnTablesUptoRow.holds Try.pinned (OpenSpec.upto fnTablesSpec)

/-- 'laws.FnExactNewRelation', WHERE WHAT IT READS IS OF BULK AT MOST 1048576: true; the input reads as it did. -/
def fnExactNewRelationUptoRow : OpenClaim := { program := "ytnnoicabfpbemaa", sum := "450a205bde70da6ac6e86a6e80ea636a4eea651776ac629f389a4f640fc39367", func := "loop.example/g01917/laws.FnExactNewRelation", spec := "fnExactNewRelation", unfollowed := true, recurses := true, apart := false, narrowed := true }
def FnExactNewRelationUptoSaid : Prop := fnExactNewRelationUptoRow.holds Try.pinned (OpenSpec.upto fnExactNewRelationSpec)

/-- 'laws.FnExactInsertRow', WHERE WHAT IT READS IS OF BULK AT MOST 1048576: true; the input reads as it did. -/
def fnExactInsertRowUptoRow : OpenClaim := { program := "ytnnoicabfpbemaa", sum := "450a205bde70da6ac6e86a6e80ea636a4eea651776ac629f389a4f640fc39367", func := "loop.example/g01917/laws.FnExactInsertRow", spec := "fnExactInsertRow", inPlace := ["slices.overlaps[[]int]"], unfollowed := true, recurses := true, apart := false, narrowed := true }
def FnExactInsertRowUptoSaid : Prop := fnExactInsertRowUptoRow.holds Try.pinned (OpenSpec.upto fnExactInsertRowSpec)

/-- 'laws.FnExactUnion', WHERE WHAT IT READS IS OF BULK AT MOST 1048576: true; the input reads as it did. -/
def fnExactUnionUptoRow : OpenClaim := { program := "ytnnoicabfpbemaa", sum := "450a205bde70da6ac6e86a6e80ea636a4eea651776ac629f389a4f640fc39367", func := "loop.example/g01917/laws.FnExactUnion", spec := "fnExactUnion", unfollowed := true, recurses := true, apart := false, narrowed := true }
def FnExactUnionUptoSaid : Prop := fnExactUnionUptoRow.holds Try.pinned (OpenSpec.upto fnExactUnionSpec)

/-- 'laws.FnExactDifference', WHERE WHAT IT READS IS OF BULK AT MOST 1048576: true; the input reads as it did. -/
def fnExactDifferenceUptoRow : OpenClaim := { program := "ytnnoicabfpbemaa", sum := "450a205bde70da6ac6e86a6e80ea636a4eea651776ac629f389a4f640fc39367", func := "loop.example/g01917/laws.FnExactDifference", spec := "fnExactDifference", unfollowed := true, recurses := true, apart := false, narrowed := true }
def FnExactDifferenceUptoSaid : Prop := fnExactDifferenceUptoRow.holds Try.pinned (OpenSpec.upto fnExactDifferenceSpec)

/-- 'laws.FnExactProject', WHERE WHAT IT READS IS OF BULK AT MOST 1048576: true; the input reads as it did. -/
def fnExactProjectUptoRow : OpenClaim := { program := "ytnnoicabfpbemaa", sum := "450a205bde70da6ac6e86a6e80ea636a4eea651776ac629f389a4f640fc39367", func := "loop.example/g01917/laws.FnExactProject", spec := "fnExactProject", unfollowed := true, recurses := true, apart := false, narrowed := true }
def FnExactProjectUptoSaid : Prop := fnExactProjectUptoRow.holds Try.pinned (OpenSpec.upto fnExactProjectSpec)

end Rows
end Go.Proofs.Ytnnoicabfpbemaa
