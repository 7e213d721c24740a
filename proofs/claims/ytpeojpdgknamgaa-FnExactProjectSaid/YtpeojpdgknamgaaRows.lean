/-
  No cell of these rows narrows 'for every input' (looked for: loops, veiled, ifaces, maps, wideKeys, modest, calm, conditions, laid).
  DERIVED. THE GIVEN ROWS OF THIS SEAT. 4 by the template 'for every input the law returns true; each argument reads behind the call as it read before'; 0 by the template 'total and deterministic' (their statements: YtpeojpdgknamgaaTotals.lean).
  GIVEN WITH THE SEED: the statements are not yours to turn. If you find one false, say at which input.
  Laid BY PROGRAM, IN A SANDBOX (cutbox-rows.mjs): the forced cells as the released guide's own fill.sh prints them over the translation 2e4aa675e9689137… (all of the seat's roots in one cut). By AI agents, Wed Nov 11 2026. No macro, syntax, notation, axiom, sorry.
-/
import Derived.Test.YtpeojpdgknamgaaChecked
import GoSem.Claim
import GoSem.ClaimJoined
import GoSem.ClaimMapViews
import Derived.JoinedTies
import Derived.KernelRfl
namespace Go.Proofs.Ytpeojpdgknamgaa
/- THE CELL 'sum', in the pinned program and in every row, IS THE sha256 OF THE DUMP (.gsa) THAT YtpeojpdgknamgaaProg.lean LOADS. Nothing in Lean hashes anything: it is a label: what it is worth is what the hold of that sum in a sandbox is worth. -/
noncomputable def Try.pinned : Pinned := { name := "ytpeojpdgknamgaa", sum := "2e4aa675e9689137962286ee94e07d6ec09a7e44475060292024b388b20b373f", checked := Try.checked }
namespace Rows
def none {H : Type} : Left H := { results := [], args := [] }

/-- 'laws.FnExactProject': WHATEVER THE INPUT: true; the input reads as it did. -/
def fnExactProjectSpec : ChangeSpec := { name := "fnExactProject", fn := fun _ => fun
  | [d1, d2] => { results := [.lit (.bool true)], args := [d1, d2] }
  | _ => none }
def fnExactProjectRow : OpenClaim := { program := "ytpeojpdgknamgaa", sum := "2e4aa675e9689137962286ee94e07d6ec09a7e44475060292024b388b20b373f", func := "loop.example/g01917/laws.FnExactProject", spec := "fnExactProject", unfollowed := true, recurses := true, apart := false }
def FnExactProjectSaid : Prop := fnExactProjectRow.holds Try.pinned (OpenSpec.ofChange fnExactProjectSpec)

/-- ITS FALSE NEIGHBOUR: 'it returns false'. Refute it at one input. -/
def fnExactProjectWrong : ChangeSpec := { name := "fnExactProject", fn := fun _ => fun
  | [d1, d2] => { results := [.lit (.bool false)], args := [d1, d2] }
  | _ => none }
def FnExactProjectWrongFalsely : Prop := fnExactProjectRow.holds Try.pinned (OpenSpec.ofChange fnExactProjectWrong)

/-- 'laws.FnExactLookupRelation': WHATEVER THE INPUT: true; the input reads as it did. -/
def fnExactLookupRelationSpec : ChangeSpec := { name := "fnExactLookupRelation", fn := fun _ => fun
  | [d1, d2] => { results := [.lit (.bool true)], args := [d1, d2] }
  | _ => none }
def fnExactLookupRelationRow : OpenClaim := { program := "ytpeojpdgknamgaa", sum := "2e4aa675e9689137962286ee94e07d6ec09a7e44475060292024b388b20b373f", func := "loop.example/g01917/laws.FnExactLookupRelation", spec := "fnExactLookupRelation", unfollowed := true, recurses := true, apart := false }
def FnExactLookupRelationSaid : Prop := fnExactLookupRelationRow.holds Try.pinned (OpenSpec.ofChange fnExactLookupRelationSpec)

/-- ITS FALSE NEIGHBOUR: 'it returns false'. Refute it at one input. -/
def fnExactLookupRelationWrong : ChangeSpec := { name := "fnExactLookupRelation", fn := fun _ => fun
  | [d1, d2] => { results := [.lit (.bool false)], args := [d1, d2] }
  | _ => none }
def FnExactLookupRelationWrongFalsely : Prop := fnExactLookupRelationRow.holds Try.pinned (OpenSpec.ofChange fnExactLookupRelationWrong)

/-- 'laws.FnExactIsQueryFor': WHATEVER THE INPUT: true; the input reads as it did. -/
def fnExactIsQueryForSpec : ChangeSpec := { name := "fnExactIsQueryFor", fn := fun _ => fun
  | [d1, d2] => { results := [.lit (.bool true)], args := [d1, d2] }
  | _ => none }
def fnExactIsQueryForRow : OpenClaim := { program := "ytpeojpdgknamgaa", sum := "2e4aa675e9689137962286ee94e07d6ec09a7e44475060292024b388b20b373f", func := "loop.example/g01917/laws.FnExactIsQueryFor", spec := "fnExactIsQueryFor", unfollowed := true, recurses := true, apart := false }
def FnExactIsQueryForSaid : Prop := fnExactIsQueryForRow.holds Try.pinned (OpenSpec.ofChange fnExactIsQueryForSpec)

/-- ITS FALSE NEIGHBOUR: 'it returns false'. Refute it at one input. -/
def fnExactIsQueryForWrong : ChangeSpec := { name := "fnExactIsQueryFor", fn := fun _ => fun
  | [d1, d2] => { results := [.lit (.bool false)], args := [d1, d2] }
  | _ => none }
def FnExactIsQueryForWrongFalsely : Prop := fnExactIsQueryForRow.holds Try.pinned (OpenSpec.ofChange fnExactIsQueryForWrong)

/-- 'laws.FnExactIsBinding': WHATEVER THE INPUT: true; the input reads as it did. -/
def fnExactIsBindingSpec : ChangeSpec := { name := "fnExactIsBinding", fn := fun _ => fun
  | [d1, d2, d3] => { results := [.lit (.bool true)], args := [d1, d2, d3] }
  | _ => none }
def fnExactIsBindingRow : OpenClaim := { program := "ytpeojpdgknamgaa", sum := "2e4aa675e9689137962286ee94e07d6ec09a7e44475060292024b388b20b373f", func := "loop.example/g01917/laws.FnExactIsBinding", spec := "fnExactIsBinding", unfollowed := true, recurses := true, apart := false }
def FnExactIsBindingSaid : Prop := fnExactIsBindingRow.holds Try.pinned (OpenSpec.ofChange fnExactIsBindingSpec)

/-- ITS FALSE NEIGHBOUR: 'it returns false'. Refute it at one input. -/
def fnExactIsBindingWrong : ChangeSpec := { name := "fnExactIsBinding", fn := fun _ => fun
  | [d1, d2, d3] => { results := [.lit (.bool false)], args := [d1, d2, d3] }
  | _ => none }
def FnExactIsBindingWrongFalsely : Prop := fnExactIsBindingRow.holds Try.pinned (OpenSpec.ofChange fnExactIsBindingWrong)

/- THE SECOND FORM. 'bulk': how many values and letters a reading holds, each counted each time it is reached (what is shared counts as often as it is met; a slice's spare places count too). A statement '..UptoSaid' is the law's where the arguments, and the package variables that the reading takes, are together of bulk at most 1048576: NARROWER than '..Said'. Prove '..Said' where nothing that the law and all that it calls make is longer than what came in: it says more and counts as full. Else prove '..UptoSaid'. A law counts once. -/
mutual
def uptoBulk {H : Type} : DataW H → Nat
  | .lit (.string bytes) => bytes.length + 1
  | .lit _ => 1
  | .nil => 1
  | .ptr d => uptoBulk d + 1
  | .slice elems spare => uptoBulkAll elems + uptoBulkAll spare + 1
  | .agg parts => uptoBulkAll parts + 1
  | .iface _ d => uptoBulk d + 1
  | .map entries => uptoBulkEntries entries + 1
  | .held _ => 1
def uptoBulkAll {H : Type} : List (DataW H) → Nat
  | [] => 0
  | d :: r => uptoBulk d + uptoBulkAll r
def uptoBulkEntries {H : Type} : List (Lit × DataW H) → Nat
  | [] => 0
  | x :: r => uptoBulkEntry x + uptoBulkEntries r
def uptoBulkEntry {H : Type} : Lit × DataW H → Nat
  | (.string bytes, d) => bytes.length + uptoBulk d + 1
  | (_, d) => uptoBulk d + 1
 end
def uptoSmall : (H : Type) → List (DataW H) → Bool := fun _ ds => decide (uptoBulkAll ds ≤ 1048576)
def OpenSpec.upto (s : _root_.Go.ChangeSpec) : _root_.Go.OpenSpec := { _root_.Go.OpenSpec.ofChange s with cond := some uptoSmall }

/-- 'laws.FnExactProject', WHERE WHAT IT READS IS OF BULK AT MOST 1048576: true; the input reads as it did. -/
def fnExactProjectUptoRow : OpenClaim := { program := "ytpeojpdgknamgaa", sum := "2e4aa675e9689137962286ee94e07d6ec09a7e44475060292024b388b20b373f", func := "loop.example/g01917/laws.FnExactProject", spec := "fnExactProject", unfollowed := true, recurses := true, apart := false, narrowed := true }
def FnExactProjectUptoSaid : Prop := fnExactProjectUptoRow.holds Try.pinned (OpenSpec.upto fnExactProjectSpec)

/-- 'laws.FnExactLookupRelation', WHERE WHAT IT READS IS OF BULK AT MOST 1048576: true; the input reads as it did. -/
def fnExactLookupRelationUptoRow : OpenClaim := { program := "ytpeojpdgknamgaa", sum := "2e4aa675e9689137962286ee94e07d6ec09a7e44475060292024b388b20b373f", func := "loop.example/g01917/laws.FnExactLookupRelation", spec := "fnExactLookupRelation", unfollowed := true, recurses := true, apart := false, narrowed := true }
def FnExactLookupRelationUptoSaid : Prop := fnExactLookupRelationUptoRow.holds Try.pinned (OpenSpec.upto fnExactLookupRelationSpec)

/-- 'laws.FnExactIsQueryFor', WHERE WHAT IT READS IS OF BULK AT MOST 1048576: true; the input reads as it did. -/
def fnExactIsQueryForUptoRow : OpenClaim := { program := "ytpeojpdgknamgaa", sum := "2e4aa675e9689137962286ee94e07d6ec09a7e44475060292024b388b20b373f", func := "loop.example/g01917/laws.FnExactIsQueryFor", spec := "fnExactIsQueryFor", unfollowed := true, recurses := true, apart := false, narrowed := true }
def FnExactIsQueryForUptoSaid : Prop := fnExactIsQueryForUptoRow.holds Try.pinned (OpenSpec.upto fnExactIsQueryForSpec)

/-- 'laws.FnExactIsBinding', WHERE WHAT IT READS IS OF BULK AT MOST 1048576: true; the input reads as it did. -/
def fnExactIsBindingUptoRow : OpenClaim := { program := "ytpeojpdgknamgaa", sum := "2e4aa675e9689137962286ee94e07d6ec09a7e44475060292024b388b20b373f", func := "loop.example/g01917/laws.FnExactIsBinding", spec := "fnExactIsBinding", unfollowed := true, recurses := true, apart := false, narrowed := true }
def FnExactIsBindingUptoSaid : Prop := fnExactIsBindingUptoRow.holds Try.pinned (OpenSpec.upto fnExactIsBindingSpec)

end Rows
end Go.Proofs.Ytpeojpdgknamgaa
