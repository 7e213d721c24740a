/-
  No cell of these rows narrows 'for every input' (looked for: loops, veiled, ifaces, maps, wideKeys, modest, calm, conditions, laid).
  DERIVED. THE GIVEN ROWS OF THIS SEAT. 9 by the template 'for every input the law returns true; each argument reads behind the call as it read before'; 0 by the template 'total and deterministic' (their statements: YtbafhahmpflnjaaTotals.lean).
  GIVEN WITH THE SEED: the statements are not yours to turn. If you find one false, say at which input.
  Laid BY PROGRAM, IN A SANDBOX (cutbox-rows.mjs): the forced cells as the released guide's own fill.sh prints them over the translation 2edd05b731108ad5… (all of the seat's roots in one cut). By AI agents, Wed Nov 11 2026. No macro, syntax, notation, axiom, sorry.
-/
import Derived.Test.YtbafhahmpflnjaaChecked
import GoSem.Claim
import GoSem.ClaimJoined
import GoSem.ClaimMapViews
import Derived.JoinedTies
import Derived.KernelRfl
namespace Go.Proofs.Ytbafhahmpflnjaa
/- THE CELL 'sum', in the pinned program and in every row, IS THE sha256 OF THE DUMP (.gsa) THAT YtbafhahmpflnjaaProg.lean LOADS. Nothing in Lean hashes anything: it is a label: what it is worth is what the hold of that sum in a sandbox is worth. -/
noncomputable def Try.pinned : Pinned := { name := "ytbafhahmpflnjaa", sum := "2edd05b731108ad58993ef4ca90e89b9e49a68716957951aa73fd1e95ae32e91", checked := Try.checked }
namespace Rows
def none {H : Type} : Left H := { results := [], args := [] }

/-- 'laws.FnExactIsQueryFor': WHATEVER THE INPUT: true; the input reads as it did. -/
def fnExactIsQueryForSpec : ChangeSpec := { name := "fnExactIsQueryFor", fn := fun _ => fun
  | [d1, d2] => { results := [.lit (.bool true)], args := [d1, d2] }
  | _ => none }
def fnExactIsQueryForRow : OpenClaim := { program := "ytbafhahmpflnjaa", sum := "2edd05b731108ad58993ef4ca90e89b9e49a68716957951aa73fd1e95ae32e91", func := "loop.example/g01917/laws.FnExactIsQueryFor", spec := "fnExactIsQueryFor", unfollowed := true, recurses := true, apart := false }
def FnExactIsQueryForSaid : Prop := fnExactIsQueryForRow.holds Try.pinned (OpenSpec.ofChange fnExactIsQueryForSpec)

/-- ITS FALSE NEIGHBOUR: 'it returns false'. Refute it at one input. -/
def fnExactIsQueryForWrong : ChangeSpec := { name := "fnExactIsQueryFor", fn := fun _ => fun
  | [d1, d2] => { results := [.lit (.bool false)], args := [d1, d2] }
  | _ => none }
def FnExactIsQueryForWrongFalsely : Prop := fnExactIsQueryForRow.holds Try.pinned (OpenSpec.ofChange fnExactIsQueryForWrong)

/-- 'laws.FnExactAtomVariables': WHATEVER THE INPUT: true; the input reads as it did. -/
def fnExactAtomVariablesSpec : ChangeSpec := { name := "fnExactAtomVariables", fn := fun _ => fun
  | [d] => { results := [.lit (.bool true)], args := [d] }
  | _ => none }
def fnExactAtomVariablesRow : OpenClaim := { program := "ytbafhahmpflnjaa", sum := "2edd05b731108ad58993ef4ca90e89b9e49a68716957951aa73fd1e95ae32e91", func := "loop.example/g01917/laws.FnExactAtomVariables", spec := "fnExactAtomVariables", apart := false }
def FnExactAtomVariablesSaid : Prop := fnExactAtomVariablesRow.holds Try.pinned (OpenSpec.ofChange fnExactAtomVariablesSpec)

/-- ITS FALSE NEIGHBOUR: 'it returns false'. Refute it at one input. -/
def fnExactAtomVariablesWrong : ChangeSpec := { name := "fnExactAtomVariables", fn := fun _ => fun
  | [d] => { results := [.lit (.bool false)], args := [d] }
  | _ => none }
def FnExactAtomVariablesWrongFalsely : Prop := fnExactAtomVariablesRow.holds Try.pinned (OpenSpec.ofChange fnExactAtomVariablesWrong)

/-- 'laws.FnExactProject': WHATEVER THE INPUT: true; the input reads as it did. -/
def fnExactProjectSpec : ChangeSpec := { name := "fnExactProject", fn := fun _ => fun
  | [d1, d2] => { results := [.lit (.bool true)], args := [d1, d2] }
  | _ => none }
def fnExactProjectRow : OpenClaim := { program := "ytbafhahmpflnjaa", sum := "2edd05b731108ad58993ef4ca90e89b9e49a68716957951aa73fd1e95ae32e91", func := "loop.example/g01917/laws.FnExactProject", spec := "fnExactProject", unfollowed := true, recurses := true, apart := false }
def FnExactProjectSaid : Prop := fnExactProjectRow.holds Try.pinned (OpenSpec.ofChange fnExactProjectSpec)

/-- ITS FALSE NEIGHBOUR: 'it returns false'. Refute it at one input. -/
def fnExactProjectWrong : ChangeSpec := { name := "fnExactProject", fn := fun _ => fun
  | [d1, d2] => { results := [.lit (.bool false)], args := [d1, d2] }
  | _ => none }
def FnExactProjectWrongFalsely : Prop := fnExactProjectRow.holds Try.pinned (OpenSpec.ofChange fnExactProjectWrong)

/-- 'laws.FnExactLookupRelation': WHATEVER THE INPUT: true; the input reads as it did. -/
def fnExactLookupRelationSpec : ChangeSpec := { name := "fnExactLookupRelation", fn := fun _ => fun
  | [d1, d2] => { results := [.lit (.bool true)], args := [d1, d2] }
  | _ => none }
def fnExactLookupRelationRow : OpenClaim := { program := "ytbafhahmpflnjaa", sum := "2edd05b731108ad58993ef4ca90e89b9e49a68716957951aa73fd1e95ae32e91", func := "loop.example/g01917/laws.FnExactLookupRelation", spec := "fnExactLookupRelation", unfollowed := true, recurses := true, apart := false }
def FnExactLookupRelationSaid : Prop := fnExactLookupRelationRow.holds Try.pinned (OpenSpec.ofChange fnExactLookupRelationSpec)

/-- ITS FALSE NEIGHBOUR: 'it returns false'. Refute it at one input. -/
def fnExactLookupRelationWrong : ChangeSpec := { name := "fnExactLookupRelation", fn := fun _ => fun
  | [d1, d2] => { results := [.lit (.bool false)], args := [d1, d2] }
  | _ => none }
def FnExactLookupRelationWrongFalsely : Prop := fnExactLookupRelationRow.holds Try.pinned (OpenSpec.ofChange fnExactLookupRelationWrong)

/-- 'laws.FnExactIsBinding': WHATEVER THE INPUT: true; the input reads as it did. -/
def fnExactIsBindingSpec : ChangeSpec := { name := "fnExactIsBinding", fn := fun _ => fun
  | [d1, d2, d3] => { results := [.lit (.bool true)], args := [d1, d2, d3] }
  | _ => none }
def fnExactIsBindingRow : OpenClaim := { program := "ytbafhahmpflnjaa", sum := "2edd05b731108ad58993ef4ca90e89b9e49a68716957951aa73fd1e95ae32e91", func := "loop.example/g01917/laws.FnExactIsBinding", spec := "fnExactIsBinding", unfollowed := true, recurses := true, apart := false }
def FnExactIsBindingSaid : Prop := fnExactIsBindingRow.holds Try.pinned (OpenSpec.ofChange fnExactIsBindingSpec)

/-- ITS FALSE NEIGHBOUR: 'it returns false'. Refute it at one input. -/
def fnExactIsBindingWrong : ChangeSpec := { name := "fnExactIsBinding", fn := fun _ => fun
  | [d1, d2, d3] => { results := [.lit (.bool false)], args := [d1, d2, d3] }
  | _ => none }
def FnExactIsBindingWrongFalsely : Prop := fnExactIsBindingRow.holds Try.pinned (OpenSpec.ofChange fnExactIsBindingWrong)

/-- 'laws.FnExactAtomBindings': WHATEVER THE INPUT: true; the input reads as it did. -/
def fnExactAtomBindingsSpec : ChangeSpec := { name := "fnExactAtomBindings", fn := fun _ => fun
  | [d1, d2] => { results := [.lit (.bool true)], args := [d1, d2] }
  | _ => none }
def fnExactAtomBindingsRow : OpenClaim := { program := "ytbafhahmpflnjaa", sum := "2edd05b731108ad58993ef4ca90e89b9e49a68716957951aa73fd1e95ae32e91", func := "loop.example/g01917/laws.FnExactAtomBindings", spec := "fnExactAtomBindings", unfollowed := true, recurses := true, apart := false }
def FnExactAtomBindingsSaid : Prop := fnExactAtomBindingsRow.holds Try.pinned (OpenSpec.ofChange fnExactAtomBindingsSpec)

/-- ITS FALSE NEIGHBOUR: 'it returns false'. Refute it at one input. -/
def fnExactAtomBindingsWrong : ChangeSpec := { name := "fnExactAtomBindings", fn := fun _ => fun
  | [d1, d2] => { results := [.lit (.bool false)], args := [d1, d2] }
  | _ => none }
def FnExactAtomBindingsWrongFalsely : Prop := fnExactAtomBindingsRow.holds Try.pinned (OpenSpec.ofChange fnExactAtomBindingsWrong)

/-- 'laws.FnExactFormatQuery': WHATEVER THE INPUT: true; the input reads as it did. -/
def fnExactFormatQuerySpec : ChangeSpec := { name := "fnExactFormatQuery", fn := fun _ => fun
  | [d] => { results := [.lit (.bool true)], args := [d] }
  | _ => none }
def fnExactFormatQueryRow : OpenClaim := { program := "ytbafhahmpflnjaa", sum := "2edd05b731108ad58993ef4ca90e89b9e49a68716957951aa73fd1e95ae32e91", func := "loop.example/g01917/laws.FnExactFormatQuery", spec := "fnExactFormatQuery", inPlace := ["internal/abi.NoEscape", "internal/bytealg.MakeNoZero"], unfollowed := true, recurses := true, apart := false }
def FnExactFormatQuerySaid : Prop := fnExactFormatQueryRow.holds Try.pinned (OpenSpec.ofChange fnExactFormatQuerySpec)

/-- ITS FALSE NEIGHBOUR: 'it returns false'. Refute it at one input. -/
def fnExactFormatQueryWrong : ChangeSpec := { name := "fnExactFormatQuery", fn := fun _ => fun
  | [d] => { results := [.lit (.bool false)], args := [d] }
  | _ => none }
def FnExactFormatQueryWrongFalsely : Prop := fnExactFormatQueryRow.holds Try.pinned (OpenSpec.ofChange fnExactFormatQueryWrong)

/-- 'laws.FnExactUnion': WHATEVER THE INPUT: true; the input reads as it did. -/
def fnExactUnionSpec : ChangeSpec := { name := "fnExactUnion", fn := fun _ => fun
  | [d1, d2] => { results := [.lit (.bool true)], args := [d1, d2] }
  | _ => none }
def fnExactUnionRow : OpenClaim := { program := "ytbafhahmpflnjaa", sum := "2edd05b731108ad58993ef4ca90e89b9e49a68716957951aa73fd1e95ae32e91", func := "loop.example/g01917/laws.FnExactUnion", spec := "fnExactUnion", unfollowed := true, recurses := true, apart := false }
def FnExactUnionSaid : Prop := fnExactUnionRow.holds Try.pinned (OpenSpec.ofChange fnExactUnionSpec)

/-- ITS FALSE NEIGHBOUR: 'it returns false'. Refute it at one input. -/
def fnExactUnionWrong : ChangeSpec := { name := "fnExactUnion", fn := fun _ => fun
  | [d1, d2] => { results := [.lit (.bool false)], args := [d1, d2] }
  | _ => none }
def FnExactUnionWrongFalsely : Prop := fnExactUnionRow.holds Try.pinned (OpenSpec.ofChange fnExactUnionWrong)

/-- 'laws.FnExactSetRelation': WHATEVER THE INPUT: true; the input reads as it did. -/
def fnExactSetRelationSpec : ChangeSpec := { name := "fnExactSetRelation", fn := fun _ => fun
  | [d1, d2, d3] => { results := [.lit (.bool true)], args := [d1, d2, d3] }
  | _ => none }
def fnExactSetRelationRow : OpenClaim := { program := "ytbafhahmpflnjaa", sum := "2edd05b731108ad58993ef4ca90e89b9e49a68716957951aa73fd1e95ae32e91", func := "loop.example/g01917/laws.FnExactSetRelation", spec := "fnExactSetRelation", unfollowed := true, recurses := true, apart := false }
def FnExactSetRelationSaid : Prop := fnExactSetRelationRow.holds Try.pinned (OpenSpec.ofChange fnExactSetRelationSpec)

/-- ITS FALSE NEIGHBOUR: 'it returns false'. Refute it at one input. -/
def fnExactSetRelationWrong : ChangeSpec := { name := "fnExactSetRelation", fn := fun _ => fun
  | [d1, d2, d3] => { results := [.lit (.bool false)], args := [d1, d2, d3] }
  | _ => none }
def FnExactSetRelationWrongFalsely : Prop := fnExactSetRelationRow.holds Try.pinned (OpenSpec.ofChange fnExactSetRelationWrong)

/- THE SECOND FORM. 'bulk': how many values and letters a reading holds, each counted each time it is reached (what is shared counts as often as it is met; a slice's spare places count too). A statement '..UptoSaid' is the law's where the arguments, and the package variables that the reading takes, are together of bulk at most 1048576: NARROWER than '..Said'. Prove '..Said' where nothing that the law and all that it calls make is longer than what came in: it says more and counts as full. Else prove '..UptoSaid'. A law counts once. -/
mutual
def uptoBulk {H : Type} : DataW H → Nat
  | .lit (.string bytes) => bytes.length + 1
  | .lit _ => 1
  | .nil => 1
  | .ptr d => uptoBulk d + 1
  | .slice elems spare => uptoBulkAll elems + uptoBulkAll spare + 1
  | .agg parts => uptoBulkAll parts + 1
  | .iface _ d => uptoBulk d + 1
  | .map entries => uptoBulkEntries entries + 1
  | .held _ => 1
def uptoBulkAll {H : Type} : List (DataW H) → Nat
  | [] => 0
  | d :: r => uptoBulk d + uptoBulkAll r
def uptoBulkEntries {H : Type} : List (Lit × DataW H) → Nat
  | [] => 0
  | x :: r => uptoBulkEntry x + uptoBulkEntries r
def uptoBulkEntry {H : Type} : Lit × DataW H → Nat
  | (.string bytes, d) => bytes.length + uptoBulk d + 1
  | (_, d) => uptoBulk d + 1
 end
def uptoSmall : (H : Type) → List (DataW H) → Bool := fun _ ds => decide (uptoBulkAll ds ≤ 1048576)
def OpenSpec.upto (s : _root_.Go.ChangeSpec) : _root_.Go.OpenSpec := { _root_.Go.OpenSpec.ofChange s with cond := some uptoSmall }

/-- 'laws.FnExactIsQueryFor', WHERE WHAT IT READS IS OF BULK AT MOST 1048576: true; the input reads as it did. -/
def fnExactIsQueryForUptoRow : OpenClaim := { program := "ytbafhahmpflnjaa", sum := "2edd05b731108ad58993ef4ca90e89b9e49a68716957951aa73fd1e95ae32e91", func := "loop.example/g01917/laws.FnExactIsQueryFor", spec := "fnExactIsQueryFor", unfollowed := true, recurses := true, apart := false, narrowed := true }
def FnExactIsQueryForUptoSaid : Prop := fnExactIsQueryForUptoRow.holds Try.pinned (OpenSpec.upto fnExactIsQueryForSpec)

/-- 'laws.FnExactAtomVariables', WHERE WHAT IT READS IS OF BULK AT MOST 1048576: true; the input reads as it did. -/
def fnExactAtomVariablesUptoRow : OpenClaim := { program := "ytbafhahmpflnjaa", sum := "2edd05b731108ad58993ef4ca90e89b9e49a68716957951aa73fd1e95ae32e91", func := "loop.example/g01917/laws.FnExactAtomVariables", spec := "fnExactAtomVariables", apart := false, narrowed := true }
def FnExactAtomVariablesUptoSaid : Prop := fnExactAtomVariablesUptoRow.holds Try.pinned (OpenSpec.upto fnExactAtomVariablesSpec)

/-- 'laws.FnExactProject', WHERE WHAT IT READS IS OF BULK AT MOST 1048576: true; the input reads as it did. -/
def fnExactProjectUptoRow : OpenClaim := { program := "ytbafhahmpflnjaa", sum := "2edd05b731108ad58993ef4ca90e89b9e49a68716957951aa73fd1e95ae32e91", func := "loop.example/g01917/laws.FnExactProject", spec := "fnExactProject", unfollowed := true, recurses := true, apart := false, narrowed := true }
def FnExactProjectUptoSaid : Prop := fnExactProjectUptoRow.holds Try.pinned (OpenSpec.upto fnExactProjectSpec)

/-- 'laws.FnExactLookupRelation', WHERE WHAT IT READS IS OF BULK AT MOST 1048576: true; the input reads as it did. -/
def fnExactLookupRelationUptoRow : OpenClaim := { program := "ytbafhahmpflnjaa", sum := "2edd05b731108ad58993ef4ca90e89b9e49a68716957951aa73fd1e95ae32e91", func := "loop.example/g01917/laws.FnExactLookupRelation", spec := "fnExactLookupRelation", unfollowed := true, recurses := true, apart := false, narrowed := true }
def FnExactLookupRelationUptoSaid : Prop := fnExactLookupRelationUptoRow.holds Try.pinned (OpenSpec.upto fnExactLookupRelationSpec)

/-- 'laws.FnExactIsBinding', WHERE WHAT IT READS IS OF BULK AT MOST 1048576: true; the input reads as it did. -/
def fnExactIsBindingUptoRow : OpenClaim := { program := "ytbafhahmpflnjaa", sum := "2edd05b731108ad58993ef4ca90e89b9e49a68716957951aa73fd1e95ae32e91", func := "loop.example/g01917/laws.FnExactIsBinding", spec := "fnExactIsBinding", unfollowed := true, recurses := true, apart := false, narrowed := true }
def FnExactIsBindingUptoSaid : Prop := fnExactIsBindingUptoRow.holds Try.pinned (OpenSpec.upto fnExactIsBindingSpec)

/-- 'laws.FnExactAtomBindings', WHERE WHAT IT READS IS OF BULK AT MOST 1048576: true; the input reads as it did. -/
def fnExactAtomBindingsUptoRow : OpenClaim := { program := "ytbafhahmpflnjaa", sum := "2edd05b731108ad58993ef4ca90e89b9e49a68716957951aa73fd1e95ae32e91", func := "loop.example/g01917/laws.FnExactAtomBindings", spec := "fnExactAtomBindings", unfollowed := true, recurses := true, apart := false, narrowed := true }
def FnExactAtomBindingsUptoSaid : Prop := fnExactAtomBindingsUptoRow.holds Try.pinned (OpenSpec.upto fnExactAtomBindingsSpec)

/-- 'laws.FnExactFormatQuery', WHERE WHAT IT READS IS OF BULK AT MOST 1048576: true; the input reads as it did. -/
def fnExactFormatQueryUptoRow : OpenClaim := { program := "ytbafhahmpflnjaa", sum := "2edd05b731108ad58993ef4ca90e89b9e49a68716957951aa73fd1e95ae32e91", func := "loop.example/g01917/laws.FnExactFormatQuery", spec := "fnExactFormatQuery", inPlace := ["internal/abi.NoEscape", "internal/bytealg.MakeNoZero"], unfollowed := true, recurses := true, apart := false, narrowed := true }
def FnExactFormatQueryUptoSaid : Prop := fnExactFormatQueryUptoRow.holds Try.pinned (OpenSpec.upto fnExactFormatQuerySpec)

/-- 'laws.FnExactUnion', WHERE WHAT IT READS IS OF BULK AT MOST 1048576: true; the input reads as it did. -/
def fnExactUnionUptoRow : OpenClaim := { program := "ytbafhahmpflnjaa", sum := "2edd05b731108ad58993ef4ca90e89b9e49a68716957951aa73fd1e95ae32e91", func := "loop.example/g01917/laws.FnExactUnion", spec := "fnExactUnion", unfollowed := true, recurses := true, apart := false, narrowed := true }
def FnExactUnionUptoSaid : Prop := fnExactUnionUptoRow.holds Try.pinned (OpenSpec.upto fnExactUnionSpec)

/-- 'laws.FnExactSetRelation', WHERE WHAT IT READS IS OF BULK AT MOST 1048576: true; the input reads as it did. -/
def fnExactSetRelationUptoRow : OpenClaim := { program := "ytbafhahmpflnjaa", sum := "2edd05b731108ad58993ef4ca90e89b9e49a68716957951aa73fd1e95ae32e91", func := "loop.example/g01917/laws.FnExactSetRelation", spec := "fnExactSetRelation", unfollowed := true, recurses := true, apart := false, narrowed := true }
def FnExactSetRelationUptoSaid : Prop := fnExactSetRelationUptoRow.holds Try.pinned (OpenSpec.upto fnExactSetRelationSpec)

end Rows
end Go.Proofs.Ytbafhahmpflnjaa
