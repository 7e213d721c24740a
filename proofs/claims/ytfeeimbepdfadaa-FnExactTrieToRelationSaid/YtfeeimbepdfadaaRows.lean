/-
  No cell of these rows narrows 'for every input' (looked for: loops, veiled, ifaces, maps, wideKeys, modest, calm, conditions, laid).
  DERIVED. THE GIVEN ROWS OF THIS SEAT. 9 by the template 'for every input the law returns true; each argument reads behind the call as it read before'; 0 by the template 'total and deterministic' (their statements: YtfeeimbepdfadaaTotals.lean).
  GIVEN WITH THE SEED: the statements are not yours to turn. If you find one false, say at which input.
  Laid BY PROGRAM, IN A SANDBOX (cutbox-rows.mjs): the forced cells as the released guide's own fill.sh prints them over the translation 088b6e97b9479b5e… (all of the seat's roots in one cut). By AI agents, Wed Nov 11 2026. No macro, syntax, notation, axiom, sorry.
-/
import Derived.Test.YtfeeimbepdfadaaChecked
import GoSem.Claim
import GoSem.ClaimJoined
import GoSem.ClaimMapViews
import Derived.JoinedTies
import Derived.KernelRfl
namespace Go.Proofs.Ytfeeimbepdfadaa
/- THE CELL 'sum', in the pinned program and in every row, IS THE sha256 OF THE DUMP (.gsa) THAT YtfeeimbepdfadaaProg.lean LOADS. Nothing in Lean hashes anything: it is a label: what it is worth is what the hold of that sum in a sandbox is worth. -/
noncomputable def Try.pinned : Pinned := { name := "ytfeeimbepdfadaa", sum := "088b6e97b9479b5ec3e64a7a2a316d6121a7fb4ed3bca81db25915fa3041cfae", checked := Try.checked }
namespace Rows
def none {H : Type} : Left H := { results := [], args := [] }

/-- 'laws.FnTries': WHATEVER THE INPUT: true; the input reads as it did. -/
def fnTriesSpec : ChangeSpec := { name := "fnTries", fn := fun _ => fun
  | [d] => { results := [.lit (.bool true)], args := [d] }
  | _ => none }
def fnTriesRow : OpenClaim := { program := "ytfeeimbepdfadaa", sum := "088b6e97b9479b5ec3e64a7a2a316d6121a7fb4ed3bca81db25915fa3041cfae", func := "loop.example/g01917/laws.FnTries", spec := "fnTries", unfollowed := true, recurses := true, apart := false }
def FnTriesSaid : Prop := fnTriesRow.holds Try.pinned (OpenSpec.ofChange fnTriesSpec)

/-- ITS FALSE NEIGHBOUR: 'it returns false'. Refute it at one input. -/
def fnTriesWrong : ChangeSpec := { name := "fnTries", fn := fun _ => fun
  | [d] => { results := [.lit (.bool false)], args := [d] }
  | _ => none }
def FnTriesWrongFalsely : Prop := fnTriesRow.holds Try.pinned (OpenSpec.ofChange fnTriesWrong)

/-- 'laws.FnExactBuildTrie': WHATEVER THE INPUT: true; the input reads as it did. -/
def fnExactBuildTrieSpec : ChangeSpec := { name := "fnExactBuildTrie", fn := fun _ => fun
  | [d1, d2] => { results := [.lit (.bool true)], args := [d1, d2] }
  | _ => none }
def fnExactBuildTrieRow : OpenClaim := { program := "ytfeeimbepdfadaa", sum := "088b6e97b9479b5ec3e64a7a2a316d6121a7fb4ed3bca81db25915fa3041cfae", func := "loop.example/g01917/laws.FnExactBuildTrie", spec := "fnExactBuildTrie", unfollowed := true, recurses := true, apart := false }
def FnExactBuildTrieSaid : Prop := fnExactBuildTrieRow.holds Try.pinned (OpenSpec.ofChange fnExactBuildTrieSpec)

/-- ITS FALSE NEIGHBOUR: 'it returns false'. Refute it at one input. -/
def fnExactBuildTrieWrong : ChangeSpec := { name := "fnExactBuildTrie", fn := fun _ => fun
  | [d1, d2] => { results := [.lit (.bool false)], args := [d1, d2] }
  | _ => none }
def FnExactBuildTrieWrongFalsely : Prop := fnExactBuildTrieRow.holds Try.pinned (OpenSpec.ofChange fnExactBuildTrieWrong)

/-- 'laws.FnExactIsValidTrie': WHATEVER THE INPUT: true; the input reads as it did. -/
def fnExactIsValidTrieSpec : ChangeSpec := { name := "fnExactIsValidTrie", fn := fun _ => fun
  | [d] => { results := [.lit (.bool true)], args := [d] }
  | _ => none }
def fnExactIsValidTrieRow : OpenClaim := { program := "ytfeeimbepdfadaa", sum := "088b6e97b9479b5ec3e64a7a2a316d6121a7fb4ed3bca81db25915fa3041cfae", func := "loop.example/g01917/laws.FnExactIsValidTrie", spec := "fnExactIsValidTrie", apart := false }
def FnExactIsValidTrieSaid : Prop := fnExactIsValidTrieRow.holds Try.pinned (OpenSpec.ofChange fnExactIsValidTrieSpec)

/-- ITS FALSE NEIGHBOUR: 'it returns false'. Refute it at one input. -/
def fnExactIsValidTrieWrong : ChangeSpec := { name := "fnExactIsValidTrie", fn := fun _ => fun
  | [d] => { results := [.lit (.bool false)], args := [d] }
  | _ => none }
def FnExactIsValidTrieWrongFalsely : Prop := fnExactIsValidTrieRow.holds Try.pinned (OpenSpec.ofChange fnExactIsValidTrieWrong)

/-- 'laws.FnExactTrieToRelation': WHATEVER THE INPUT: true; the input reads as it did. -/
def fnExactTrieToRelationSpec : ChangeSpec := { name := "fnExactTrieToRelation", fn := fun _ => fun
  | [d1, d2] => { results := [.lit (.bool true)], args := [d1, d2] }
  | _ => none }
def fnExactTrieToRelationRow : OpenClaim := { program := "ytfeeimbepdfadaa", sum := "088b6e97b9479b5ec3e64a7a2a316d6121a7fb4ed3bca81db25915fa3041cfae", func := "loop.example/g01917/laws.FnExactTrieToRelation", spec := "fnExactTrieToRelation", unfollowed := true, recurses := true, apart := false }
def FnExactTrieToRelationSaid : Prop := fnExactTrieToRelationRow.holds Try.pinned (OpenSpec.ofChange fnExactTrieToRelationSpec)

/-- ITS FALSE NEIGHBOUR: 'it returns false'. Refute it at one input. -/
def fnExactTrieToRelationWrong : ChangeSpec := { name := "fnExactTrieToRelation", fn := fun _ => fun
  | [d1, d2] => { results := [.lit (.bool false)], args := [d1, d2] }
  | _ => none }
def FnExactTrieToRelationWrongFalsely : Prop := fnExactTrieToRelationRow.holds Try.pinned (OpenSpec.ofChange fnExactTrieToRelationWrong)

/-- 'laws.FnExactTrieChildren': WHATEVER THE INPUT: true; the input reads as it did. -/
def fnExactTrieChildrenSpec : ChangeSpec := { name := "fnExactTrieChildren", fn := fun _ => fun
  | [d1, d2] => { results := [.lit (.bool true)], args := [d1, d2] }
  | _ => none }
def fnExactTrieChildrenRow : OpenClaim := { program := "ytfeeimbepdfadaa", sum := "088b6e97b9479b5ec3e64a7a2a316d6121a7fb4ed3bca81db25915fa3041cfae", func := "loop.example/g01917/laws.FnExactTrieChildren", spec := "fnExactTrieChildren", unfollowed := true, recurses := true, apart := false }
def FnExactTrieChildrenSaid : Prop := fnExactTrieChildrenRow.holds Try.pinned (OpenSpec.ofChange fnExactTrieChildrenSpec)

/-- ITS FALSE NEIGHBOUR: 'it returns false'. Refute it at one input. -/
def fnExactTrieChildrenWrong : ChangeSpec := { name := "fnExactTrieChildren", fn := fun _ => fun
  | [d1, d2] => { results := [.lit (.bool false)], args := [d1, d2] }
  | _ => none }
def FnExactTrieChildrenWrongFalsely : Prop := fnExactTrieChildrenRow.holds Try.pinned (OpenSpec.ofChange fnExactTrieChildrenWrong)

/-- 'laws.FnExactTriePrefixCount': WHATEVER THE INPUT: true; the input reads as it did. -/
def fnExactTriePrefixCountSpec : ChangeSpec := { name := "fnExactTriePrefixCount", fn := fun _ => fun
  | [d1, d2] => { results := [.lit (.bool true)], args := [d1, d2] }
  | _ => none }
def fnExactTriePrefixCountRow : OpenClaim := { program := "ytfeeimbepdfadaa", sum := "088b6e97b9479b5ec3e64a7a2a316d6121a7fb4ed3bca81db25915fa3041cfae", func := "loop.example/g01917/laws.FnExactTriePrefixCount", spec := "fnExactTriePrefixCount", unfollowed := true, recurses := true, apart := false }
def FnExactTriePrefixCountSaid : Prop := fnExactTriePrefixCountRow.holds Try.pinned (OpenSpec.ofChange fnExactTriePrefixCountSpec)

/-- ITS FALSE NEIGHBOUR: 'it returns false'. Refute it at one input. -/
def fnExactTriePrefixCountWrong : ChangeSpec := { name := "fnExactTriePrefixCount", fn := fun _ => fun
  | [d1, d2] => { results := [.lit (.bool false)], args := [d1, d2] }
  | _ => none }
def FnExactTriePrefixCountWrongFalsely : Prop := fnExactTriePrefixCountRow.holds Try.pinned (OpenSpec.ofChange fnExactTriePrefixCountWrong)

/-- 'laws.FnExactTriePrefixRange': WHATEVER THE INPUT: true; the input reads as it did. -/
def fnExactTriePrefixRangeSpec : ChangeSpec := { name := "fnExactTriePrefixRange", fn := fun _ => fun
  | [d1, d2] => { results := [.lit (.bool true)], args := [d1, d2] }
  | _ => none }
def fnExactTriePrefixRangeRow : OpenClaim := { program := "ytfeeimbepdfadaa", sum := "088b6e97b9479b5ec3e64a7a2a316d6121a7fb4ed3bca81db25915fa3041cfae", func := "loop.example/g01917/laws.FnExactTriePrefixRange", spec := "fnExactTriePrefixRange", unfollowed := true, recurses := true, apart := false }
def FnExactTriePrefixRangeSaid : Prop := fnExactTriePrefixRangeRow.holds Try.pinned (OpenSpec.ofChange fnExactTriePrefixRangeSpec)

/-- ITS FALSE NEIGHBOUR: 'it returns false'. Refute it at one input. -/
def fnExactTriePrefixRangeWrong : ChangeSpec := { name := "fnExactTriePrefixRange", fn := fun _ => fun
  | [d1, d2] => { results := [.lit (.bool false)], args := [d1, d2] }
  | _ => none }
def FnExactTriePrefixRangeWrongFalsely : Prop := fnExactTriePrefixRangeRow.holds Try.pinned (OpenSpec.ofChange fnExactTriePrefixRangeWrong)

/-- 'laws.FnExactIsPermutation': WHATEVER THE INPUT: true; the input reads as it did. -/
def fnExactIsPermutationSpec : ChangeSpec := { name := "fnExactIsPermutation", fn := fun _ => fun
  | [d] => { results := [.lit (.bool true)], args := [d] }
  | _ => none }
def fnExactIsPermutationRow : OpenClaim := { program := "ytfeeimbepdfadaa", sum := "088b6e97b9479b5ec3e64a7a2a316d6121a7fb4ed3bca81db25915fa3041cfae", func := "loop.example/g01917/laws.FnExactIsPermutation", spec := "fnExactIsPermutation", unfollowed := true, recurses := true, apart := false }
def FnExactIsPermutationSaid : Prop := fnExactIsPermutationRow.holds Try.pinned (OpenSpec.ofChange fnExactIsPermutationSpec)

/-- ITS FALSE NEIGHBOUR: 'it returns false'. Refute it at one input. -/
def fnExactIsPermutationWrong : ChangeSpec := { name := "fnExactIsPermutation", fn := fun _ => fun
  | [d] => { results := [.lit (.bool false)], args := [d] }
  | _ => none }
def FnExactIsPermutationWrongFalsely : Prop := fnExactIsPermutationRow.holds Try.pinned (OpenSpec.ofChange fnExactIsPermutationWrong)

/-- 'laws.FnExactCoverProgram': WHATEVER THE INPUT: true; the input reads as it did. -/
def fnExactCoverProgramSpec : ChangeSpec := { name := "fnExactCoverProgram", fn := fun _ => fun
  | [d] => { results := [.lit (.bool true)], args := [d] }
  | _ => none }
def fnExactCoverProgramRow : OpenClaim := { program := "ytfeeimbepdfadaa", sum := "088b6e97b9479b5ec3e64a7a2a316d6121a7fb4ed3bca81db25915fa3041cfae", func := "loop.example/g01917/laws.FnExactCoverProgram", spec := "fnExactCoverProgram", unfollowed := true, recurses := true, apart := false }
def FnExactCoverProgramSaid : Prop := fnExactCoverProgramRow.holds Try.pinned (OpenSpec.ofChange fnExactCoverProgramSpec)

/-- ITS FALSE NEIGHBOUR: 'it returns false'. Refute it at one input. -/
def fnExactCoverProgramWrong : ChangeSpec := { name := "fnExactCoverProgram", fn := fun _ => fun
  | [d] => { results := [.lit (.bool false)], args := [d] }
  | _ => none }
def FnExactCoverProgramWrongFalsely : Prop := fnExactCoverProgramRow.holds Try.pinned (OpenSpec.ofChange fnExactCoverProgramWrong)

/- THE SECOND FORM. 'bulk': how many values and letters a reading holds, each counted each time it is reached (what is shared counts as often as it is met; a slice's spare places count too). A statement '..UptoSaid' is the law's where the arguments, and the package variables that the reading takes, are together of bulk at most 1048576: NARROWER than '..Said'. Prove '..Said' where nothing that the law and all that it calls make is longer than what came in: it says more and counts as full. Else prove '..UptoSaid'. A law counts once. -/
mutual
def uptoBulk {H : Type} : DataW H → Nat
  | .lit (.string bytes) => bytes.length + 1
  | .lit _ => 1
  | .nil => 1
  | .ptr d => uptoBulk d + 1
  | .slice elems spare => uptoBulkAll elems + uptoBulkAll spare + 1
  | .agg parts => uptoBulkAll parts + 1
  | .iface _ d => uptoBulk d + 1
  | .map entries => uptoBulkEntries entries + 1
  | .held _ => 1
def uptoBulkAll {H : Type} : List (DataW H) → Nat
  | [] => 0
  | d :: r => uptoBulk d + uptoBulkAll r
def uptoBulkEntries {H : Type} : List (Lit × DataW H) → Nat
  | [] => 0
  | x :: r => uptoBulkEntry x + uptoBulkEntries r
def uptoBulkEntry {H : Type} : Lit × DataW H → Nat
  | (.string bytes, d) => bytes.length + uptoBulk d + 1
  | (_, d) => uptoBulk d + 1
 end
def uptoSmall : (H : Type) → List (DataW H) → Bool := fun _ ds => decide (uptoBulkAll ds ≤ 1048576)
def OpenSpec.upto (s : _root_.Go.ChangeSpec) : _root_.Go.OpenSpec := { _root_.Go.OpenSpec.ofChange s with cond := some uptoSmall }

/-- 'laws.FnTries', WHERE WHAT IT READS IS OF BULK AT MOST 1048576: true; the input reads as it did. -/
def fnTriesUptoRow : OpenClaim := { program := "ytfeeimbepdfadaa", sum := "088b6e97b9479b5ec3e64a7a2a316d6121a7fb4ed3bca81db25915fa3041cfae", func := "loop.example/g01917/laws.FnTries", spec := "fnTries", unfollowed := true, recurses := true, apart := false, narrowed := true }
def FnTriesUptoSaid : Prop := fnTriesUptoRow.holds Try.pinned (OpenSpec.upto fnTriesSpec)

/-- 'laws.FnExactBuildTrie', WHERE WHAT IT READS IS OF BULK AT MOST 1048576: true; the input reads as it did. -/
def fnExactBuildTrieUptoRow : OpenClaim := { program := "ytfeeimbepdfadaa", sum := "088b6e97b9479b5ec3e64a7a2a316d6121a7fb4ed3bca81db25915fa3041cfae", func := "loop.example/g01917/laws.FnExactBuildTrie", spec := "fnExactBuildTrie", unfollowed := true, recurses := true, apart := false, narrowed := true }
def FnExactBuildTrieUptoSaid : Prop := fnExactBuildTrieUptoRow.holds Try.pinned (OpenSpec.upto fnExactBuildTrieSpec)

/-- 'laws.FnExactIsValidTrie', WHERE WHAT IT READS IS OF BULK AT MOST 1048576: true; the input reads as it did. -/
def fnExactIsValidTrieUptoRow : OpenClaim := { program := "ytfeeimbepdfadaa", sum := "088b6e97b9479b5ec3e64a7a2a316d6121a7fb4ed3bca81db25915fa3041cfae", func := "loop.example/g01917/laws.FnExactIsValidTrie", spec := "fnExactIsValidTrie", apart := false, narrowed := true }
def FnExactIsValidTrieUptoSaid : Prop := fnExactIsValidTrieUptoRow.holds Try.pinned (OpenSpec.upto fnExactIsValidTrieSpec)

/-- 'laws.FnExactTrieToRelation', WHERE WHAT IT READS IS OF BULK AT MOST 1048576: true; the input reads as it did. -/
def fnExactTrieToRelationUptoRow : OpenClaim := { program := "ytfeeimbepdfadaa", sum := "088b6e97b9479b5ec3e64a7a2a316d6121a7fb4ed3bca81db25915fa3041cfae", func := "loop.example/g01917/laws.FnExactTrieToRelation", spec := "fnExactTrieToRelation", unfollowed := true, recurses := true, apart := false, narrowed := true }
def FnExactTrieToRelationUptoSaid : Prop := fnExactTrieToRelationUptoRow.holds Try.pinned (OpenSpec.upto fnExactTrieToRelationSpec)

/-- 'laws.FnExactTrieChildren', WHERE WHAT IT READS IS OF BULK AT MOST 1048576: true; the input reads as it did. -/
def fnExactTrieChildrenUptoRow : OpenClaim := { program := "ytfeeimbepdfadaa", sum := "088b6e97b9479b5ec3e64a7a2a316d6121a7fb4ed3bca81db25915fa3041cfae", func := "loop.example/g01917/laws.FnExactTrieChildren", spec := "fnExactTrieChildren", unfollowed := true, recurses := true, apart := false, narrowed := true }
def FnExactTrieChildrenUptoSaid : Prop := fnExactTrieChildrenUptoRow.holds Try.pinned (OpenSpec.upto fnExactTrieChildrenSpec)

/-- 'laws.FnExactTriePrefixCount', WHERE WHAT IT READS IS OF BULK AT MOST 1048576: true; the input reads as it did. -/
def fnExactTriePrefixCountUptoRow : OpenClaim := { program := "ytfeeimbepdfadaa", sum := "088b6e97b9479b5ec3e64a7a2a316d6121a7fb4ed3bca81db25915fa3041cfae", func := "loop.example/g01917/laws.FnExactTriePrefixCount", spec := "fnExactTriePrefixCount", unfollowed := true, recurses := true, apart := false, narrowed := true }
def FnExactTriePrefixCountUptoSaid : Prop := fnExactTriePrefixCountUptoRow.holds Try.pinned (OpenSpec.upto fnExactTriePrefixCountSpec)

/-- 'laws.FnExactTriePrefixRange', WHERE WHAT IT READS IS OF BULK AT MOST 1048576: true; the input reads as it did. -/
def fnExactTriePrefixRangeUptoRow : OpenClaim := { program := "ytfeeimbepdfadaa", sum := "088b6e97b9479b5ec3e64a7a2a316d6121a7fb4ed3bca81db25915fa3041cfae", func := "loop.example/g01917/laws.FnExactTriePrefixRange", spec := "fnExactTriePrefixRange", unfollowed := true, recurses := true, apart := false, narrowed := true }
def FnExactTriePrefixRangeUptoSaid : Prop := fnExactTriePrefixRangeUptoRow.holds Try.pinned (OpenSpec.upto fnExactTriePrefixRangeSpec)

/-- 'laws.FnExactIsPermutation', WHERE WHAT IT READS IS OF BULK AT MOST 1048576: true; the input reads as it did. -/
def fnExactIsPermutationUptoRow : OpenClaim := { program := "ytfeeimbepdfadaa", sum := "088b6e97b9479b5ec3e64a7a2a316d6121a7fb4ed3bca81db25915fa3041cfae", func := "loop.example/g01917/laws.FnExactIsPermutation", spec := "fnExactIsPermutation", unfollowed := true, recurses := true, apart := false, narrowed := true }
def FnExactIsPermutationUptoSaid : Prop := fnExactIsPermutationUptoRow.holds Try.pinned (OpenSpec.upto fnExactIsPermutationSpec)

/-- 'laws.FnExactCoverProgram', WHERE WHAT IT READS IS OF BULK AT MOST 1048576: true; the input reads as it did. -/
def fnExactCoverProgramUptoRow : OpenClaim := { program := "ytfeeimbepdfadaa", sum := "088b6e97b9479b5ec3e64a7a2a316d6121a7fb4ed3bca81db25915fa3041cfae", func := "loop.example/g01917/laws.FnExactCoverProgram", spec := "fnExactCoverProgram", unfollowed := true, recurses := true, apart := false, narrowed := true }
def FnExactCoverProgramUptoSaid : Prop := fnExactCoverProgramUptoRow.holds Try.pinned (OpenSpec.upto fnExactCoverProgramSpec)

end Rows
end Go.Proofs.Ytfeeimbepdfadaa
