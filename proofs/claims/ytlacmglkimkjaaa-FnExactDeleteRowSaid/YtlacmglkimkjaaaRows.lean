/-
  No cell of these rows narrows 'for every input' (looked for: loops, veiled, ifaces, maps, wideKeys, modest, calm, conditions, laid).
  DERIVED. THE GIVEN ROWS OF THIS SEAT. 12 by the template 'for every input the law returns true; each argument reads behind the call as it read before'; 0 by the template 'total and deterministic' (their statements: YtlacmglkimkjaaaTotals.lean).
  GIVEN WITH THE SEED: the statements are not yours to turn. If you find one false, say at which input.
  Laid BY PROGRAM, IN A SANDBOX (cutbox-rows.mjs): the forced cells as the released guide's own fill.sh prints them over the translation 90107ab5583a1426… (all of the seat's roots in one cut). By AI agents, Wed Nov 11 2026. No macro, syntax, notation, axiom, sorry.
-/
import Derived.Test.YtlacmglkimkjaaaChecked
import GoSem.Claim
import GoSem.ClaimJoined
import GoSem.ClaimMapViews
import Derived.JoinedTies
import Derived.KernelRfl
namespace Go.Proofs.Ytlacmglkimkjaaa
/- THE CELL 'sum', in the pinned program and in every row, IS THE sha256 OF THE DUMP (.gsa) THAT YtlacmglkimkjaaaProg.lean LOADS. Nothing in Lean hashes anything: it is a label: what it is worth is what the hold of that sum in a sandbox is worth. -/
noncomputable def Try.pinned : Pinned := { name := "ytlacmglkimkjaaa", sum := "90107ab5583a1426be1afcd3ed3ce2f67ad248e2c8aa97b958e8f2856368f36b", checked := Try.checked }
namespace Rows
def none {H : Type} : Left H := { results := [], args := [] }

/-- 'laws.FnInsertDelete': WHATEVER THE INPUT: true; the input reads as it did. -/
def fnInsertDeleteSpec : ChangeSpec := { name := "fnInsertDelete", fn := fun _ => fun
  | [d] => { results := [.lit (.bool true)], args := [d] }
  | _ => none }
def fnInsertDeleteRow : OpenClaim := { program := "ytlacmglkimkjaaa", sum := "90107ab5583a1426be1afcd3ed3ce2f67ad248e2c8aa97b958e8f2856368f36b", func := "loop.example/g01917/laws.FnInsertDelete", spec := "fnInsertDelete", inPlace := ["slices.overlaps[[]int]"], unfollowed := true, recurses := true, apart := false }
def FnInsertDeleteSaid : Prop := fnInsertDeleteRow.holds Try.pinned (OpenSpec.ofChange fnInsertDeleteSpec)

/-- ITS FALSE NEIGHBOUR: 'it returns false'. Refute it at one input. -/
def fnInsertDeleteWrong : ChangeSpec := { name := "fnInsertDelete", fn := fun _ => fun
  | [d] => { results := [.lit (.bool false)], args := [d] }
  | _ => none }
def FnInsertDeleteWrongFalsely : Prop := fnInsertDeleteRow.holds Try.pinned (OpenSpec.ofChange fnInsertDeleteWrong)

/-- 'laws.FnSetOperations': WHATEVER THE INPUT: true; the input reads as it did. -/
def fnSetOperationsSpec : ChangeSpec := { name := "fnSetOperations", fn := fun _ => fun
  | [d] => { results := [.lit (.bool true)], args := [d] }
  | _ => none }
def fnSetOperationsRow : OpenClaim := { program := "ytlacmglkimkjaaa", sum := "90107ab5583a1426be1afcd3ed3ce2f67ad248e2c8aa97b958e8f2856368f36b", func := "loop.example/g01917/laws.FnSetOperations", spec := "fnSetOperations", unfollowed := true, recurses := true, apart := false }
def FnSetOperationsSaid : Prop := fnSetOperationsRow.holds Try.pinned (OpenSpec.ofChange fnSetOperationsSpec)

/-- ITS FALSE NEIGHBOUR: 'it returns false'. Refute it at one input. -/
def fnSetOperationsWrong : ChangeSpec := { name := "fnSetOperations", fn := fun _ => fun
  | [d] => { results := [.lit (.bool false)], args := [d] }
  | _ => none }
def FnSetOperationsWrongFalsely : Prop := fnSetOperationsRow.holds Try.pinned (OpenSpec.ofChange fnSetOperationsWrong)

/-- 'laws.FnProjection': WHATEVER THE INPUT: true; the input reads as it did. -/
def fnProjectionSpec : ChangeSpec := { name := "fnProjection", fn := fun _ => fun
  | [d] => { results := [.lit (.bool true)], args := [d] }
  | _ => none }
def fnProjectionRow : OpenClaim := { program := "ytlacmglkimkjaaa", sum := "90107ab5583a1426be1afcd3ed3ce2f67ad248e2c8aa97b958e8f2856368f36b", func := "loop.example/g01917/laws.FnProjection", spec := "fnProjection", unfollowed := true, recurses := true, apart := false }
def FnProjectionSaid : Prop := fnProjectionRow.holds Try.pinned (OpenSpec.ofChange fnProjectionSpec)

/-- ITS FALSE NEIGHBOUR: 'it returns false'. Refute it at one input. -/
def fnProjectionWrong : ChangeSpec := { name := "fnProjection", fn := fun _ => fun
  | [d] => { results := [.lit (.bool false)], args := [d] }
  | _ => none }
def FnProjectionWrongFalsely : Prop := fnProjectionRow.holds Try.pinned (OpenSpec.ofChange fnProjectionWrong)

/-- 'laws.FnNewRelation': WHATEVER THE INPUT: true; the input reads as it did. -/
def fnNewRelationSpec : ChangeSpec := { name := "fnNewRelation", fn := fun _ => fun
  | [d] => { results := [.lit (.bool true)], args := [d] }
  | _ => none }
def fnNewRelationRow : OpenClaim := { program := "ytlacmglkimkjaaa", sum := "90107ab5583a1426be1afcd3ed3ce2f67ad248e2c8aa97b958e8f2856368f36b", func := "loop.example/g01917/laws.FnNewRelation", spec := "fnNewRelation", unfollowed := true, recurses := true, apart := false }
def FnNewRelationSaid : Prop := fnNewRelationRow.holds Try.pinned (OpenSpec.ofChange fnNewRelationSpec)

/-- ITS FALSE NEIGHBOUR: 'it returns false'. Refute it at one input. -/
def fnNewRelationWrong : ChangeSpec := { name := "fnNewRelation", fn := fun _ => fun
  | [d] => { results := [.lit (.bool false)], args := [d] }
  | _ => none }
def FnNewRelationWrongFalsely : Prop := fnNewRelationRow.holds Try.pinned (OpenSpec.ofChange fnNewRelationWrong)

/-- 'laws.FnExactIsValidRelation': WHATEVER THE INPUT: true; the input reads as it did. -/
def fnExactIsValidRelationSpec : ChangeSpec := { name := "fnExactIsValidRelation", fn := fun _ => fun
  | [d] => { results := [.lit (.bool true)], args := [d] }
  | _ => none }
def fnExactIsValidRelationRow : OpenClaim := { program := "ytlacmglkimkjaaa", sum := "90107ab5583a1426be1afcd3ed3ce2f67ad248e2c8aa97b958e8f2856368f36b", func := "loop.example/g01917/laws.FnExactIsValidRelation", spec := "fnExactIsValidRelation", apart := false }
def FnExactIsValidRelationSaid : Prop := fnExactIsValidRelationRow.holds Try.pinned (OpenSpec.ofChange fnExactIsValidRelationSpec)

/-- ITS FALSE NEIGHBOUR: 'it returns false'. Refute it at one input. -/
def fnExactIsValidRelationWrong : ChangeSpec := { name := "fnExactIsValidRelation", fn := fun _ => fun
  | [d] => { results := [.lit (.bool false)], args := [d] }
  | _ => none }
def FnExactIsValidRelationWrongFalsely : Prop := fnExactIsValidRelationRow.holds Try.pinned (OpenSpec.ofChange fnExactIsValidRelationWrong)

/-- 'laws.FnExactNewRelation': WHATEVER THE INPUT: true; the input reads as it did. -/
def fnExactNewRelationSpec : ChangeSpec := { name := "fnExactNewRelation", fn := fun _ => fun
  | [d1, d2] => { results := [.lit (.bool true)], args := [d1, d2] }
  | _ => none }
def fnExactNewRelationRow : OpenClaim := { program := "ytlacmglkimkjaaa", sum := "90107ab5583a1426be1afcd3ed3ce2f67ad248e2c8aa97b958e8f2856368f36b", func := "loop.example/g01917/laws.FnExactNewRelation", spec := "fnExactNewRelation", unfollowed := true, recurses := true, apart := false }
def FnExactNewRelationSaid : Prop := fnExactNewRelationRow.holds Try.pinned (OpenSpec.ofChange fnExactNewRelationSpec)

/-- ITS FALSE NEIGHBOUR: 'it returns false'. Refute it at one input. -/
def fnExactNewRelationWrong : ChangeSpec := { name := "fnExactNewRelation", fn := fun _ => fun
  | [d1, d2] => { results := [.lit (.bool false)], args := [d1, d2] }
  | _ => none }
def FnExactNewRelationWrongFalsely : Prop := fnExactNewRelationRow.holds Try.pinned (OpenSpec.ofChange fnExactNewRelationWrong)

/-- 'laws.FnExactContainsRow': WHATEVER THE INPUT: true; the input reads as it did. -/
def fnExactContainsRowSpec : ChangeSpec := { name := "fnExactContainsRow", fn := fun _ => fun
  | [d1, d2] => { results := [.lit (.bool true)], args := [d1, d2] }
  | _ => none }
def fnExactContainsRowRow : OpenClaim := { program := "ytlacmglkimkjaaa", sum := "90107ab5583a1426be1afcd3ed3ce2f67ad248e2c8aa97b958e8f2856368f36b", func := "loop.example/g01917/laws.FnExactContainsRow", spec := "fnExactContainsRow", unfollowed := true, recurses := true, apart := false }
def FnExactContainsRowSaid : Prop := fnExactContainsRowRow.holds Try.pinned (OpenSpec.ofChange fnExactContainsRowSpec)

/-- ITS FALSE NEIGHBOUR: 'it returns false'. Refute it at one input. -/
def fnExactContainsRowWrong : ChangeSpec := { name := "fnExactContainsRow", fn := fun _ => fun
  | [d1, d2] => { results := [.lit (.bool false)], args := [d1, d2] }
  | _ => none }
def FnExactContainsRowWrongFalsely : Prop := fnExactContainsRowRow.holds Try.pinned (OpenSpec.ofChange fnExactContainsRowWrong)

/-- 'laws.FnExactInsertRow': WHATEVER THE INPUT: true; the input reads as it did. -/
def fnExactInsertRowSpec : ChangeSpec := { name := "fnExactInsertRow", fn := fun _ => fun
  | [d1, d2] => { results := [.lit (.bool true)], args := [d1, d2] }
  | _ => none }
def fnExactInsertRowRow : OpenClaim := { program := "ytlacmglkimkjaaa", sum := "90107ab5583a1426be1afcd3ed3ce2f67ad248e2c8aa97b958e8f2856368f36b", func := "loop.example/g01917/laws.FnExactInsertRow", spec := "fnExactInsertRow", inPlace := ["slices.overlaps[[]int]"], unfollowed := true, recurses := true, apart := false }
def FnExactInsertRowSaid : Prop := fnExactInsertRowRow.holds Try.pinned (OpenSpec.ofChange fnExactInsertRowSpec)

/-- ITS FALSE NEIGHBOUR: 'it returns false'. Refute it at one input. -/
def fnExactInsertRowWrong : ChangeSpec := { name := "fnExactInsertRow", fn := fun _ => fun
  | [d1, d2] => { results := [.lit (.bool false)], args := [d1, d2] }
  | _ => none }
def FnExactInsertRowWrongFalsely : Prop := fnExactInsertRowRow.holds Try.pinned (OpenSpec.ofChange fnExactInsertRowWrong)

/-- 'laws.FnExactDeleteRow': WHATEVER THE INPUT: true; the input reads as it did. -/
def fnExactDeleteRowSpec : ChangeSpec := { name := "fnExactDeleteRow", fn := fun _ => fun
  | [d1, d2] => { results := [.lit (.bool true)], args := [d1, d2] }
  | _ => none }
def fnExactDeleteRowRow : OpenClaim := { program := "ytlacmglkimkjaaa", sum := "90107ab5583a1426be1afcd3ed3ce2f67ad248e2c8aa97b958e8f2856368f36b", func := "loop.example/g01917/laws.FnExactDeleteRow", spec := "fnExactDeleteRow", unfollowed := true, recurses := true, apart := false }
def FnExactDeleteRowSaid : Prop := fnExactDeleteRowRow.holds Try.pinned (OpenSpec.ofChange fnExactDeleteRowSpec)

/-- ITS FALSE NEIGHBOUR: 'it returns false'. Refute it at one input. -/
def fnExactDeleteRowWrong : ChangeSpec := { name := "fnExactDeleteRow", fn := fun _ => fun
  | [d1, d2] => { results := [.lit (.bool false)], args := [d1, d2] }
  | _ => none }
def FnExactDeleteRowWrongFalsely : Prop := fnExactDeleteRowRow.holds Try.pinned (OpenSpec.ofChange fnExactDeleteRowWrong)

/-- 'laws.FnExactUnion': WHATEVER THE INPUT: true; the input reads as it did. -/
def fnExactUnionSpec : ChangeSpec := { name := "fnExactUnion", fn := fun _ => fun
  | [d1, d2] => { results := [.lit (.bool true)], args := [d1, d2] }
  | _ => none }
def fnExactUnionRow : OpenClaim := { program := "ytlacmglkimkjaaa", sum := "90107ab5583a1426be1afcd3ed3ce2f67ad248e2c8aa97b958e8f2856368f36b", func := "loop.example/g01917/laws.FnExactUnion", spec := "fnExactUnion", unfollowed := true, recurses := true, apart := false }
def FnExactUnionSaid : Prop := fnExactUnionRow.holds Try.pinned (OpenSpec.ofChange fnExactUnionSpec)

/-- ITS FALSE NEIGHBOUR: 'it returns false'. Refute it at one input. -/
def fnExactUnionWrong : ChangeSpec := { name := "fnExactUnion", fn := fun _ => fun
  | [d1, d2] => { results := [.lit (.bool false)], args := [d1, d2] }
  | _ => none }
def FnExactUnionWrongFalsely : Prop := fnExactUnionRow.holds Try.pinned (OpenSpec.ofChange fnExactUnionWrong)

/-- 'laws.FnExactDifference': WHATEVER THE INPUT: true; the input reads as it did. -/
def fnExactDifferenceSpec : ChangeSpec := { name := "fnExactDifference", fn := fun _ => fun
  | [d1, d2] => { results := [.lit (.bool true)], args := [d1, d2] }
  | _ => none }
def fnExactDifferenceRow : OpenClaim := { program := "ytlacmglkimkjaaa", sum := "90107ab5583a1426be1afcd3ed3ce2f67ad248e2c8aa97b958e8f2856368f36b", func := "loop.example/g01917/laws.FnExactDifference", spec := "fnExactDifference", unfollowed := true, recurses := true, apart := false }
def FnExactDifferenceSaid : Prop := fnExactDifferenceRow.holds Try.pinned (OpenSpec.ofChange fnExactDifferenceSpec)

/-- ITS FALSE NEIGHBOUR: 'it returns false'. Refute it at one input. -/
def fnExactDifferenceWrong : ChangeSpec := { name := "fnExactDifference", fn := fun _ => fun
  | [d1, d2] => { results := [.lit (.bool false)], args := [d1, d2] }
  | _ => none }
def FnExactDifferenceWrongFalsely : Prop := fnExactDifferenceRow.holds Try.pinned (OpenSpec.ofChange fnExactDifferenceWrong)

/-- 'laws.FnExactProject': WHATEVER THE INPUT: true; the input reads as it did. -/
def fnExactProjectSpec : ChangeSpec := { name := "fnExactProject", fn := fun _ => fun
  | [d1, d2] => { results := [.lit (.bool true)], args := [d1, d2] }
  | _ => none }
def fnExactProjectRow : OpenClaim := { program := "ytlacmglkimkjaaa", sum := "90107ab5583a1426be1afcd3ed3ce2f67ad248e2c8aa97b958e8f2856368f36b", func := "loop.example/g01917/laws.FnExactProject", spec := "fnExactProject", unfollowed := true, recurses := true, apart := false }
def FnExactProjectSaid : Prop := fnExactProjectRow.holds Try.pinned (OpenSpec.ofChange fnExactProjectSpec)

/-- ITS FALSE NEIGHBOUR: 'it returns false'. Refute it at one input. -/
def fnExactProjectWrong : ChangeSpec := { name := "fnExactProject", fn := fun _ => fun
  | [d1, d2] => { results := [.lit (.bool false)], args := [d1, d2] }
  | _ => none }
def FnExactProjectWrongFalsely : Prop := fnExactProjectRow.holds Try.pinned (OpenSpec.ofChange fnExactProjectWrong)

/- THE SECOND FORM. 'bulk': how many values and letters a reading holds, each counted each time it is reached (what is shared counts as often as it is met; a slice's spare places count too). A statement '..UptoSaid' is the law's where the arguments, and the package variables that the reading takes, are together of bulk at most 1048576: NARROWER than '..Said'. Prove '..Said' where nothing that the law and all that it calls make is longer than what came in: it says more and counts as full. Else prove '..UptoSaid'. A law counts once. -/
mutual
def uptoBulk {H : Type} : DataW H → Nat
  | .lit (.string bytes) => bytes.length + 1
  | .lit _ => 1
  | .nil => 1
  | .ptr d => uptoBulk d + 1
  | .slice elems spare => uptoBulkAll elems + uptoBulkAll spare + 1
  | .agg parts => uptoBulkAll parts + 1
  | .iface _ d => uptoBulk d + 1
  | .map entries => uptoBulkEntries entries + 1
  | .held _ => 1
def uptoBulkAll {H : Type} : List (DataW H) → Nat
  | [] => 0
  | d :: r => uptoBulk d + uptoBulkAll r
def uptoBulkEntries {H : Type} : List (Lit × DataW H) → Nat
  | [] => 0
  | x :: r => uptoBulkEntry x + uptoBulkEntries r
def uptoBulkEntry {H : Type} : Lit × DataW H → Nat
  | (.string bytes, d) => bytes.length + uptoBulk d + 1
  | (_, d) => uptoBulk d + 1
 end
def uptoSmall : (H : Type) → List (DataW H) → Bool := fun _ ds => decide (uptoBulkAll ds ≤ 1048576)
def OpenSpec.upto (s : _root_.Go.ChangeSpec) : _root_.Go.OpenSpec := { _root_.Go.OpenSpec.ofChange s with cond := some uptoSmall }

/-- 'laws.FnInsertDelete', WHERE WHAT IT READS IS OF BULK AT MOST 1048576: true; the input reads as it did. -/
def fnInsertDeleteUptoRow : OpenClaim := { program := "ytlacmglkimkjaaa", sum := "90107ab5583a1426be1afcd3ed3ce2f67ad248e2c8aa97b958e8f2856368f36b", func := "loop.example/g01917/laws.FnInsertDelete", spec := "fnInsertDelete", inPlace := ["slices.overlaps[[]int]"], unfollowed := true, recurses := true, apart := false, narrowed := true }
def FnInsertDeleteUptoSaid : Prop := fnInsertDeleteUptoRow.holds Try.pinned (OpenSpec.upto fnInsertDeleteSpec)

/-- 'laws.FnSetOperations', WHERE WHAT IT READS IS OF BULK AT MOST 1048576: true; the input reads as it did. -/
def fnSetOperationsUptoRow : OpenClaim := { program := "ytlacmglkimkjaaa", sum := "90107ab5583a1426be1afcd3ed3ce2f67ad248e2c8aa97b958e8f2856368f36b", func := "loop.example/g01917/laws.FnSetOperations", spec := "fnSetOperations", unfollowed := true, recurses := true, apart := false, narrowed := true }
def FnSetOperationsUptoSaid : Prop := fnSetOperationsUptoRow.holds Try.pinned (OpenSpec.upto fnSetOperationsSpec)

/-- 'laws.FnProjection', WHERE WHAT IT READS IS OF BULK AT MOST 1048576: true; the input reads as it did. -/
def fnProjectionUptoRow : OpenClaim := { program := "ytlacmglkimkjaaa", sum := "90107ab5583a1426be1afcd3ed3ce2f67ad248e2c8aa97b958e8f2856368f36b", func := "loop.example/g01917/laws.FnProjection", spec := "fnProjection", unfollowed := true, recurses := true, apart := false, narrowed := true }
def FnProjectionUptoSaid : Prop := fnProjectionUptoRow.holds Try.pinned (OpenSpec.upto fnProjectionSpec)

/-- 'laws.FnNewRelation', WHERE WHAT IT READS IS OF BULK AT MOST 1048576: true; the input reads as it did. -/
def fnNewRelationUptoRow : OpenClaim := { program := "ytlacmglkimkjaaa", sum := "90107ab5583a1426be1afcd3ed3ce2f67ad248e2c8aa97b958e8f2856368f36b", func := "loop.example/g01917/laws.FnNewRelation", spec := "fnNewRelation", unfollowed := true, recurses := true, apart := false, narrowed := true }
def FnNewRelationUptoSaid : Prop := fnNewRelationUptoRow.holds Try.pinned (OpenSpec.upto fnNewRelationSpec)

/-- 'laws.FnExactIsValidRelation', WHERE WHAT IT READS IS OF BULK AT MOST 1048576: true; the input reads as it did. -/
def fnExactIsValidRelationUptoRow : OpenClaim := { program := "ytlacmglkimkjaaa", sum := "90107ab5583a1426be1afcd3ed3ce2f67ad248e2c8aa97b958e8f2856368f36b", func := "loop.example/g01917/laws.FnExactIsValidRelation", spec := "fnExactIsValidRelation", apart := false, narrowed := true }
def FnExactIsValidRelationUptoSaid : Prop := fnExactIsValidRelationUptoRow.holds Try.pinned (OpenSpec.upto fnExactIsValidRelationSpec)

/-- 'laws.FnExactNewRelation', WHERE WHAT IT READS IS OF BULK AT MOST 1048576: true; the input reads as it did. -/
def fnExactNewRelationUptoRow : OpenClaim := { program := "ytlacmglkimkjaaa", sum := "90107ab5583a1426be1afcd3ed3ce2f67ad248e2c8aa97b958e8f2856368f36b", func := "loop.example/g01917/laws.FnExactNewRelation", spec := "fnExactNewRelation", unfollowed := true, recurses := true, apart := false, narrowed := true }
def FnExactNewRelationUptoSaid : Prop := fnExactNewRelationUptoRow.holds Try.pinned (OpenSpec.upto fnExactNewRelationSpec)

/-- 'laws.FnExactContainsRow', WHERE WHAT IT READS IS OF BULK AT MOST 1048576: true; the input reads as it did. -/
def fnExactContainsRowUptoRow : OpenClaim := { program := "ytlacmglkimkjaaa", sum := "90107ab5583a1426be1afcd3ed3ce2f67ad248e2c8aa97b958e8f2856368f36b", func := "loop.example/g01917/laws.FnExactContainsRow", spec := "fnExactContainsRow", unfollowed := true, recurses := true, apart := false, narrowed := true }
def FnExactContainsRowUptoSaid : Prop := fnExactContainsRowUptoRow.holds Try.pinned (OpenSpec.upto fnExactContainsRowSpec)

/-- 'laws.FnExactInsertRow', WHERE WHAT IT READS IS OF BULK AT MOST 1048576: true; the input reads as it did. -/
def fnExactInsertRowUptoRow : OpenClaim := { program := "ytlacmglkimkjaaa", sum := "90107ab5583a1426be1afcd3ed3ce2f67ad248e2c8aa97b958e8f2856368f36b", func := "loop.example/g01917/laws.FnExactInsertRow", spec := "fnExactInsertRow", inPlace := ["slices.overlaps[[]int]"], unfollowed := true, recurses := true, apart := false, narrowed := true }
def FnExactInsertRowUptoSaid : Prop := fnExactInsertRowUptoRow.holds Try.pinned (OpenSpec.upto fnExactInsertRowSpec)

/-- 'laws.FnExactDeleteRow', WHERE WHAT IT READS IS OF BULK AT MOST 1048576: true; the input reads as it did. -/
def fnExactDeleteRowUptoRow : OpenClaim := { program := "ytlacmglkimkjaaa", sum := "90107ab5583a1426be1afcd3ed3ce2f67ad248e2c8aa97b958e8f2856368f36b", func := "loop.example/g01917/laws.FnExactDeleteRow", spec := "fnExactDeleteRow", unfollowed := true, recurses := true, apart := false, narrowed := true }
def FnExactDeleteRowUptoSaid : Prop := fnExactDeleteRowUptoRow.holds Try.pinned (OpenSpec.upto fnExactDeleteRowSpec)

/-- 'laws.FnExactUnion', WHERE WHAT IT READS IS OF BULK AT MOST 1048576: true; the input reads as it did. -/
def fnExactUnionUptoRow : OpenClaim := { program := "ytlacmglkimkjaaa", sum := "90107ab5583a1426be1afcd3ed3ce2f67ad248e2c8aa97b958e8f2856368f36b", func := "loop.example/g01917/laws.FnExactUnion", spec := "fnExactUnion", unfollowed := true, recurses := true, apart := false, narrowed := true }
def FnExactUnionUptoSaid : Prop := fnExactUnionUptoRow.holds Try.pinned (OpenSpec.upto fnExactUnionSpec)

/-- 'laws.FnExactDifference', WHERE WHAT IT READS IS OF BULK AT MOST 1048576: true; the input reads as it did. -/
def fnExactDifferenceUptoRow : OpenClaim := { program := "ytlacmglkimkjaaa", sum := "90107ab5583a1426be1afcd3ed3ce2f67ad248e2c8aa97b958e8f2856368f36b", func := "loop.example/g01917/laws.FnExactDifference", spec := "fnExactDifference", unfollowed := true, recurses := true, apart := false, narrowed := true }
def FnExactDifferenceUptoSaid : Prop := fnExactDifferenceUptoRow.holds Try.pinned (OpenSpec.upto fnExactDifferenceSpec)

/-- 'laws.FnExactProject', WHERE WHAT IT READS IS OF BULK AT MOST 1048576: true; the input reads as it did. -/
def fnExactProjectUptoRow : OpenClaim := { program := "ytlacmglkimkjaaa", sum := "90107ab5583a1426be1afcd3ed3ce2f67ad248e2c8aa97b958e8f2856368f36b", func := "loop.example/g01917/laws.FnExactProject", spec := "fnExactProject", unfollowed := true, recurses := true, apart := false, narrowed := true }
def FnExactProjectUptoSaid : Prop := fnExactProjectUptoRow.holds Try.pinned (OpenSpec.upto fnExactProjectSpec)

end Rows
end Go.Proofs.Ytlacmglkimkjaaa
