/-
  No cell of these rows narrows 'for every input' (looked for: loops, veiled, ifaces, maps, wideKeys, modest, calm, conditions, laid).
  DERIVED. THE GIVEN ROWS OF THIS SEAT. 7 by the template 'for every input the law returns true; each argument reads behind the call as it read before'; 0 by the template 'total and deterministic' (their statements: YtaeeogighoobdaaTotals.lean).
  GIVEN WITH THE SEED: the statements are not yours to turn. If you find one false, say at which input.
  Laid BY PROGRAM, IN A SANDBOX (cutbox-rows.mjs): the forced cells as the released guide's own fill.sh prints them over the translation 3597cf1c96180b0f… (all of the seat's roots in one cut). By AI agents, Wed Nov 11 2026. No macro, syntax, notation, axiom, sorry.
-/
import Derived.Test.YtaeeogighoobdaaChecked
import GoSem.Claim
import GoSem.ClaimJoined
import GoSem.ClaimMapViews
import Derived.JoinedTies
import Derived.KernelRfl
namespace Go.Proofs.Ytaeeogighoobdaa
/- THE CELL 'sum', in the pinned program and in every row, IS THE sha256 OF THE DUMP (.gsa) THAT YtaeeogighoobdaaProg.lean LOADS. Nothing in Lean hashes anything: it is a label: what it is worth is what the hold of that sum in a sandbox is worth. -/
noncomputable def Try.pinned : Pinned := { name := "ytaeeogighoobdaa", sum := "3597cf1c96180b0f23546f7bcee5a637783dfcb5e18a5af53bf0ed36335dbd7c", checked := Try.checked }
namespace Rows
def none {H : Type} : Left H := { results := [], args := [] }

/-- 'laws.FnExactRemovableAtoms': WHATEVER THE INPUT: true; the input reads as it did. -/
def fnExactRemovableAtomsSpec : ChangeSpec := { name := "fnExactRemovableAtoms", fn := fun _ => fun
  | [d] => { results := [.lit (.bool true)], args := [d] }
  | _ => none }
def fnExactRemovableAtomsRow : OpenClaim := { program := "ytaeeogighoobdaa", sum := "3597cf1c96180b0f23546f7bcee5a637783dfcb5e18a5af53bf0ed36335dbd7c", func := "loop.example/g01917/laws.FnExactRemovableAtoms", spec := "fnExactRemovableAtoms", unfollowed := true, recurses := true, apart := false }
def FnExactRemovableAtomsSaid : Prop := fnExactRemovableAtomsRow.holds Try.pinned (OpenSpec.ofChange fnExactRemovableAtomsSpec)

/-- ITS FALSE NEIGHBOUR: 'it returns false'. Refute it at one input. -/
def fnExactRemovableAtomsWrong : ChangeSpec := { name := "fnExactRemovableAtoms", fn := fun _ => fun
  | [d] => { results := [.lit (.bool false)], args := [d] }
  | _ => none }
def FnExactRemovableAtomsWrongFalsely : Prop := fnExactRemovableAtomsRow.holds Try.pinned (OpenSpec.ofChange fnExactRemovableAtomsWrong)

/-- 'laws.FnExactIsAcyclic': WHATEVER THE INPUT: true; the input reads as it did. -/
def fnExactIsAcyclicSpec : ChangeSpec := { name := "fnExactIsAcyclic", fn := fun _ => fun
  | [d] => { results := [.lit (.bool true)], args := [d] }
  | _ => none }
def fnExactIsAcyclicRow : OpenClaim := { program := "ytaeeogighoobdaa", sum := "3597cf1c96180b0f23546f7bcee5a637783dfcb5e18a5af53bf0ed36335dbd7c", func := "loop.example/g01917/laws.FnExactIsAcyclic", spec := "fnExactIsAcyclic", unfollowed := true, recurses := true, apart := false }
def FnExactIsAcyclicSaid : Prop := fnExactIsAcyclicRow.holds Try.pinned (OpenSpec.ofChange fnExactIsAcyclicSpec)

/-- ITS FALSE NEIGHBOUR: 'it returns false'. Refute it at one input. -/
def fnExactIsAcyclicWrong : ChangeSpec := { name := "fnExactIsAcyclic", fn := fun _ => fun
  | [d] => { results := [.lit (.bool false)], args := [d] }
  | _ => none }
def FnExactIsAcyclicWrongFalsely : Prop := fnExactIsAcyclicRow.holds Try.pinned (OpenSpec.ofChange fnExactIsAcyclicWrong)

/-- 'laws.FnExactBuildJoinTree': WHATEVER THE INPUT: true; the input reads as it did. -/
def fnExactBuildJoinTreeSpec : ChangeSpec := { name := "fnExactBuildJoinTree", fn := fun _ => fun
  | [d] => { results := [.lit (.bool true)], args := [d] }
  | _ => none }
def fnExactBuildJoinTreeRow : OpenClaim := { program := "ytaeeogighoobdaa", sum := "3597cf1c96180b0f23546f7bcee5a637783dfcb5e18a5af53bf0ed36335dbd7c", func := "loop.example/g01917/laws.FnExactBuildJoinTree", spec := "fnExactBuildJoinTree", unfollowed := true, recurses := true, apart := false }
def FnExactBuildJoinTreeSaid : Prop := fnExactBuildJoinTreeRow.holds Try.pinned (OpenSpec.ofChange fnExactBuildJoinTreeSpec)

/-- ITS FALSE NEIGHBOUR: 'it returns false'. Refute it at one input. -/
def fnExactBuildJoinTreeWrong : ChangeSpec := { name := "fnExactBuildJoinTree", fn := fun _ => fun
  | [d] => { results := [.lit (.bool false)], args := [d] }
  | _ => none }
def FnExactBuildJoinTreeWrongFalsely : Prop := fnExactBuildJoinTreeRow.holds Try.pinned (OpenSpec.ofChange fnExactBuildJoinTreeWrong)

/-- 'laws.FnExactIsValidJoinTree': WHATEVER THE INPUT: true; the input reads as it did. -/
def fnExactIsValidJoinTreeSpec : ChangeSpec := { name := "fnExactIsValidJoinTree", fn := fun _ => fun
  | [d1, d2] => { results := [.lit (.bool true)], args := [d1, d2] }
  | _ => none }
def fnExactIsValidJoinTreeRow : OpenClaim := { program := "ytaeeogighoobdaa", sum := "3597cf1c96180b0f23546f7bcee5a637783dfcb5e18a5af53bf0ed36335dbd7c", func := "loop.example/g01917/laws.FnExactIsValidJoinTree", spec := "fnExactIsValidJoinTree", unfollowed := true, recurses := true, apart := false }
def FnExactIsValidJoinTreeSaid : Prop := fnExactIsValidJoinTreeRow.holds Try.pinned (OpenSpec.ofChange fnExactIsValidJoinTreeSpec)

/-- ITS FALSE NEIGHBOUR: 'it returns false'. Refute it at one input. -/
def fnExactIsValidJoinTreeWrong : ChangeSpec := { name := "fnExactIsValidJoinTree", fn := fun _ => fun
  | [d1, d2] => { results := [.lit (.bool false)], args := [d1, d2] }
  | _ => none }
def FnExactIsValidJoinTreeWrongFalsely : Prop := fnExactIsValidJoinTreeRow.holds Try.pinned (OpenSpec.ofChange fnExactIsValidJoinTreeWrong)

/-- 'laws.FnExactJoinTreeRoot': WHATEVER THE INPUT: true; the input reads as it did. -/
def fnExactJoinTreeRootSpec : ChangeSpec := { name := "fnExactJoinTreeRoot", fn := fun _ => fun
  | [d] => { results := [.lit (.bool true)], args := [d] }
  | _ => none }
def fnExactJoinTreeRootRow : OpenClaim := { program := "ytaeeogighoobdaa", sum := "3597cf1c96180b0f23546f7bcee5a637783dfcb5e18a5af53bf0ed36335dbd7c", func := "loop.example/g01917/laws.FnExactJoinTreeRoot", spec := "fnExactJoinTreeRoot", apart := false }
def FnExactJoinTreeRootSaid : Prop := fnExactJoinTreeRootRow.holds Try.pinned (OpenSpec.ofChange fnExactJoinTreeRootSpec)

/-- ITS FALSE NEIGHBOUR: 'it returns false'. Refute it at one input. -/
def fnExactJoinTreeRootWrong : ChangeSpec := { name := "fnExactJoinTreeRoot", fn := fun _ => fun
  | [d] => { results := [.lit (.bool false)], args := [d] }
  | _ => none }
def FnExactJoinTreeRootWrongFalsely : Prop := fnExactJoinTreeRootRow.holds Try.pinned (OpenSpec.ofChange fnExactJoinTreeRootWrong)

/-- 'laws.FnExactJoinTreeChildren': WHATEVER THE INPUT: true; the input reads as it did. -/
def fnExactJoinTreeChildrenSpec : ChangeSpec := { name := "fnExactJoinTreeChildren", fn := fun _ => fun
  | [d1, d2] => { results := [.lit (.bool true)], args := [d1, d2] }
  | _ => none }
def fnExactJoinTreeChildrenRow : OpenClaim := { program := "ytaeeogighoobdaa", sum := "3597cf1c96180b0f23546f7bcee5a637783dfcb5e18a5af53bf0ed36335dbd7c", func := "loop.example/g01917/laws.FnExactJoinTreeChildren", spec := "fnExactJoinTreeChildren", apart := false }
def FnExactJoinTreeChildrenSaid : Prop := fnExactJoinTreeChildrenRow.holds Try.pinned (OpenSpec.ofChange fnExactJoinTreeChildrenSpec)

/-- ITS FALSE NEIGHBOUR: 'it returns false'. Refute it at one input. -/
def fnExactJoinTreeChildrenWrong : ChangeSpec := { name := "fnExactJoinTreeChildren", fn := fun _ => fun
  | [d1, d2] => { results := [.lit (.bool false)], args := [d1, d2] }
  | _ => none }
def FnExactJoinTreeChildrenWrongFalsely : Prop := fnExactJoinTreeChildrenRow.holds Try.pinned (OpenSpec.ofChange fnExactJoinTreeChildrenWrong)

/-- 'laws.FnExactFormatQuery': WHATEVER THE INPUT: true; the input reads as it did. -/
def fnExactFormatQuerySpec : ChangeSpec := { name := "fnExactFormatQuery", fn := fun _ => fun
  | [d] => { results := [.lit (.bool true)], args := [d] }
  | _ => none }
def fnExactFormatQueryRow : OpenClaim := { program := "ytaeeogighoobdaa", sum := "3597cf1c96180b0f23546f7bcee5a637783dfcb5e18a5af53bf0ed36335dbd7c", func := "loop.example/g01917/laws.FnExactFormatQuery", spec := "fnExactFormatQuery", inPlace := ["internal/abi.NoEscape", "internal/bytealg.MakeNoZero"], unfollowed := true, recurses := true, apart := false }
def FnExactFormatQuerySaid : Prop := fnExactFormatQueryRow.holds Try.pinned (OpenSpec.ofChange fnExactFormatQuerySpec)

/-- ITS FALSE NEIGHBOUR: 'it returns false'. Refute it at one input. -/
def fnExactFormatQueryWrong : ChangeSpec := { name := "fnExactFormatQuery", fn := fun _ => fun
  | [d] => { results := [.lit (.bool false)], args := [d] }
  | _ => none }
def FnExactFormatQueryWrongFalsely : Prop := fnExactFormatQueryRow.holds Try.pinned (OpenSpec.ofChange fnExactFormatQueryWrong)

/- THE SECOND FORM. 'bulk': how many values and letters a reading holds, each counted each time it is reached (what is shared counts as often as it is met; a slice's spare places count too). A statement '..UptoSaid' is the law's where the arguments, and the package variables that the reading takes, are together of bulk at most 1048576: NARROWER than '..Said'. Prove '..Said' where nothing that the law and all that it calls make is longer than what came in: it says more and counts as full. Else prove '..UptoSaid'. A law counts once. -/
mutual
def uptoBulk {H : Type} : DataW H → Nat
  | .lit (.string bytes) => bytes.length + 1
  | .lit _ => 1
  | .nil => 1
  | .ptr d => uptoBulk d + 1
  | .slice elems spare => uptoBulkAll elems + uptoBulkAll spare + 1
  | .agg parts => uptoBulkAll parts + 1
  | .iface _ d => uptoBulk d + 1
  | .map entries => uptoBulkEntries entries + 1
  | .held _ => 1
def uptoBulkAll {H : Type} : List (DataW H) → Nat
  | [] => 0
  | d :: r => uptoBulk d + uptoBulkAll r
def uptoBulkEntries {H : Type} : List (Lit × DataW H) → Nat
  | [] => 0
  | x :: r => uptoBulkEntry x + uptoBulkEntries r
def uptoBulkEntry {H : Type} : Lit × DataW H → Nat
  | (.string bytes, d) => bytes.length + uptoBulk d + 1
  | (_, d) => uptoBulk d + 1
 end
def uptoSmall : (H : Type) → List (DataW H) → Bool := fun _ ds => decide (uptoBulkAll ds ≤ 1048576)
def OpenSpec.upto (s : _root_.Go.ChangeSpec) : _root_.Go.OpenSpec := { _root_.Go.OpenSpec.ofChange s with cond := some uptoSmall }

/-- 'laws.FnExactRemovableAtoms', WHERE WHAT IT READS IS OF BULK AT MOST 1048576: true; the input reads as it did. -/
def fnExactRemovableAtomsUptoRow : OpenClaim := { program := "ytaeeogighoobdaa", sum := "3597cf1c96180b0f23546f7bcee5a637783dfcb5e18a5af53bf0ed36335dbd7c", func := "loop.example/g01917/laws.FnExactRemovableAtoms", spec := "fnExactRemovableAtoms", unfollowed := true, recurses := true, apart := false, narrowed := true }
def FnExactRemovableAtomsUptoSaid : Prop := fnExactRemovableAtomsUptoRow.holds Try.pinned (OpenSpec.upto fnExactRemovableAtomsSpec)

/-- 'laws.FnExactIsAcyclic', WHERE WHAT IT READS IS OF BULK AT MOST 1048576: true; the input reads as it did. -/
def fnExactIsAcyclicUptoRow : OpenClaim := { program := "ytaeeogighoobdaa", sum := "3597cf1c96180b0f23546f7bcee5a637783dfcb5e18a5af53bf0ed36335dbd7c", func := "loop.example/g01917/laws.FnExactIsAcyclic", spec := "fnExactIsAcyclic", unfollowed := true, recurses := true, apart := false, narrowed := true }
def FnExactIsAcyclicUptoSaid : Prop := fnExactIsAcyclicUptoRow.holds Try.pinned (OpenSpec.upto fnExactIsAcyclicSpec)

/-- 'laws.FnExactBuildJoinTree', WHERE WHAT IT READS IS OF BULK AT MOST 1048576: true; the input reads as it did. -/
def fnExactBuildJoinTreeUptoRow : OpenClaim := { program := "ytaeeogighoobdaa", sum := "3597cf1c96180b0f23546f7bcee5a637783dfcb5e18a5af53bf0ed36335dbd7c", func := "loop.example/g01917/laws.FnExactBuildJoinTree", spec := "fnExactBuildJoinTree", unfollowed := true, recurses := true, apart := false, narrowed := true }
def FnExactBuildJoinTreeUptoSaid : Prop := fnExactBuildJoinTreeUptoRow.holds Try.pinned (OpenSpec.upto fnExactBuildJoinTreeSpec)

/-- 'laws.FnExactIsValidJoinTree', WHERE WHAT IT READS IS OF BULK AT MOST 1048576: true; the input reads as it did. -/
def fnExactIsValidJoinTreeUptoRow : OpenClaim := { program := "ytaeeogighoobdaa", sum := "3597cf1c96180b0f23546f7bcee5a637783dfcb5e18a5af53bf0ed36335dbd7c", func := "loop.example/g01917/laws.FnExactIsValidJoinTree", spec := "fnExactIsValidJoinTree", unfollowed := true, recurses := true, apart := false, narrowed := true }
def FnExactIsValidJoinTreeUptoSaid : Prop := fnExactIsValidJoinTreeUptoRow.holds Try.pinned (OpenSpec.upto fnExactIsValidJoinTreeSpec)

/-- 'laws.FnExactJoinTreeRoot', WHERE WHAT IT READS IS OF BULK AT MOST 1048576: true; the input reads as it did. -/
def fnExactJoinTreeRootUptoRow : OpenClaim := { program := "ytaeeogighoobdaa", sum := "3597cf1c96180b0f23546f7bcee5a637783dfcb5e18a5af53bf0ed36335dbd7c", func := "loop.example/g01917/laws.FnExactJoinTreeRoot", spec := "fnExactJoinTreeRoot", apart := false, narrowed := true }
def FnExactJoinTreeRootUptoSaid : Prop := fnExactJoinTreeRootUptoRow.holds Try.pinned (OpenSpec.upto fnExactJoinTreeRootSpec)

/-- 'laws.FnExactJoinTreeChildren', WHERE WHAT IT READS IS OF BULK AT MOST 1048576: true; the input reads as it did. -/
def fnExactJoinTreeChildrenUptoRow : OpenClaim := { program := "ytaeeogighoobdaa", sum := "3597cf1c96180b0f23546f7bcee5a637783dfcb5e18a5af53bf0ed36335dbd7c", func := "loop.example/g01917/laws.FnExactJoinTreeChildren", spec := "fnExactJoinTreeChildren", apart := false, narrowed := true }
def FnExactJoinTreeChildrenUptoSaid : Prop := fnExactJoinTreeChildrenUptoRow.holds Try.pinned (OpenSpec.upto fnExactJoinTreeChildrenSpec)

/-- 'laws.FnExactFormatQuery', WHERE WHAT IT READS IS OF BULK AT MOST 1048576: true; the input reads as it did. -/
def fnExactFormatQueryUptoRow : OpenClaim := { program := "ytaeeogighoobdaa", sum := "3597cf1c96180b0f23546f7bcee5a637783dfcb5e18a5af53bf0ed36335dbd7c", func := "loop.example/g01917/laws.FnExactFormatQuery", spec := "fnExactFormatQuery", inPlace := ["internal/abi.NoEscape", "internal/bytealg.MakeNoZero"], unfollowed := true, recurses := true, apart := false, narrowed := true }
def FnExactFormatQueryUptoSaid : Prop := fnExactFormatQueryUptoRow.holds Try.pinned (OpenSpec.upto fnExactFormatQuerySpec)

end Rows
end Go.Proofs.Ytaeeogighoobdaa
