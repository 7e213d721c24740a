/-
  No cell of these rows narrows 'for every input' (looked for: loops, veiled, ifaces, maps, wideKeys, modest, calm, conditions, laid).
  DERIVED. THE GIVEN ROWS OF THIS SEAT. 11 by the template 'for every input the law returns true; each argument reads behind the call as it read before'; 0 by the template 'total and deterministic' (their statements: YtjnphlgmmjdeiaaTotals.lean).
  GIVEN WITH THE SEED: the statements are not yours to turn. If you find one false, say at which input.
  Laid BY PROGRAM, IN A SANDBOX (cutbox-rows.mjs): the forced cells as the released guide's own fill.sh prints them over the translation 484a1964da5e86ee… (all of the seat's roots in one cut). By AI agents, Wed Nov 11 2026. No macro, syntax, notation, axiom, sorry.
-/
import Derived.Test.YtjnphlgmmjdeiaaChecked
import GoSem.Claim
import GoSem.ClaimJoined
import GoSem.ClaimMapViews
import Derived.JoinedTies
import Derived.KernelRfl
namespace Go.Proofs.Ytjnphlgmmjdeiaa
/- THE CELL 'sum', in the pinned program and in every row, IS THE sha256 OF THE DUMP (.gsa) THAT YtjnphlgmmjdeiaaProg.lean LOADS. Nothing in Lean hashes anything: it is a label: what it is worth is what the hold of that sum in a sandbox is worth. -/
noncomputable def Try.pinned : Pinned := { name := "ytjnphlgmmjdeiaa", sum := "484a1964da5e86ee91e3050c7f548c760cc9d99664fa06db7f228d527efcfeba", checked := Try.checked }
namespace Rows
def none {H : Type} : Left H := { results := [], args := [] }

/-- 'laws.FnLinearSystem': WHATEVER THE INPUT: true; the input reads as it did. -/
def fnLinearSystemSpec : ChangeSpec := { name := "fnLinearSystem", fn := fun _ => fun
  | [d] => { results := [.lit (.bool true)], args := [d] }
  | _ => none }
def fnLinearSystemRow : OpenClaim := { program := "ytjnphlgmmjdeiaa", sum := "484a1964da5e86ee91e3050c7f548c760cc9d99664fa06db7f228d527efcfeba", func := "loop.example/g01917/laws.FnLinearSystem", spec := "fnLinearSystem", apart := false }
def FnLinearSystemSaid : Prop := fnLinearSystemRow.holds Try.pinned (OpenSpec.ofChange fnLinearSystemSpec)

/-- ITS FALSE NEIGHBOUR: 'it returns false'. Refute it at one input. -/
def fnLinearSystemWrong : ChangeSpec := { name := "fnLinearSystem", fn := fun _ => fun
  | [d] => { results := [.lit (.bool false)], args := [d] }
  | _ => none }
def FnLinearSystemWrongFalsely : Prop := fnLinearSystemRow.holds Try.pinned (OpenSpec.ofChange fnLinearSystemWrong)

/-- 'laws.FnMinimum': WHATEVER THE INPUT: true; the input reads as it did. -/
def fnMinimumSpec : ChangeSpec := { name := "fnMinimum", fn := fun _ => fun
  | [d] => { results := [.lit (.bool true)], args := [d] }
  | _ => none }
def fnMinimumRow : OpenClaim := { program := "ytjnphlgmmjdeiaa", sum := "484a1964da5e86ee91e3050c7f548c760cc9d99664fa06db7f228d527efcfeba", func := "loop.example/g01917/laws.FnMinimum", spec := "fnMinimum", unfollowed := true, recurses := true, apart := false }
def FnMinimumSaid : Prop := fnMinimumRow.holds Try.pinned (OpenSpec.ofChange fnMinimumSpec)

/-- ITS FALSE NEIGHBOUR: 'it returns false'. Refute it at one input. -/
def fnMinimumWrong : ChangeSpec := { name := "fnMinimum", fn := fun _ => fun
  | [d] => { results := [.lit (.bool false)], args := [d] }
  | _ => none }
def FnMinimumWrongFalsely : Prop := fnMinimumRow.holds Try.pinned (OpenSpec.ofChange fnMinimumWrong)

/-- 'laws.FnStrongDuality': WHATEVER THE INPUT: true; the input reads as it did. -/
def fnStrongDualitySpec : ChangeSpec := { name := "fnStrongDuality", fn := fun _ => fun
  | [d] => { results := [.lit (.bool true)], args := [d] }
  | _ => none }
def fnStrongDualityRow : OpenClaim := { program := "ytjnphlgmmjdeiaa", sum := "484a1964da5e86ee91e3050c7f548c760cc9d99664fa06db7f228d527efcfeba", func := "loop.example/g01917/laws.FnStrongDuality", spec := "fnStrongDuality", unfollowed := true, recurses := true, apart := false }
def FnStrongDualitySaid : Prop := fnStrongDualityRow.holds Try.pinned (OpenSpec.ofChange fnStrongDualitySpec)

/-- ITS FALSE NEIGHBOUR: 'it returns false'. Refute it at one input. -/
def fnStrongDualityWrong : ChangeSpec := { name := "fnStrongDuality", fn := fun _ => fun
  | [d] => { results := [.lit (.bool false)], args := [d] }
  | _ => none }
def FnStrongDualityWrongFalsely : Prop := fnStrongDualityRow.holds Try.pinned (OpenSpec.ofChange fnStrongDualityWrong)

/-- 'laws.FnExactSolveLinearSystem': WHATEVER THE INPUT: true; the input reads as it did. -/
def fnExactSolveLinearSystemSpec : ChangeSpec := { name := "fnExactSolveLinearSystem", fn := fun _ => fun
  | [d1, d2] => { results := [.lit (.bool true)], args := [d1, d2] }
  | _ => none }
def fnExactSolveLinearSystemRow : OpenClaim := { program := "ytjnphlgmmjdeiaa", sum := "484a1964da5e86ee91e3050c7f548c760cc9d99664fa06db7f228d527efcfeba", func := "loop.example/g01917/laws.FnExactSolveLinearSystem", spec := "fnExactSolveLinearSystem", apart := false }
def FnExactSolveLinearSystemSaid : Prop := fnExactSolveLinearSystemRow.holds Try.pinned (OpenSpec.ofChange fnExactSolveLinearSystemSpec)

/-- ITS FALSE NEIGHBOUR: 'it returns false'. Refute it at one input. -/
def fnExactSolveLinearSystemWrong : ChangeSpec := { name := "fnExactSolveLinearSystem", fn := fun _ => fun
  | [d1, d2] => { results := [.lit (.bool false)], args := [d1, d2] }
  | _ => none }
def FnExactSolveLinearSystemWrongFalsely : Prop := fnExactSolveLinearSystemRow.holds Try.pinned (OpenSpec.ofChange fnExactSolveLinearSystemWrong)

/-- 'laws.FnExactIsValidLinearProgram': WHATEVER THE INPUT: true; the input reads as it did. -/
def fnExactIsValidLinearProgramSpec : ChangeSpec := { name := "fnExactIsValidLinearProgram", fn := fun _ => fun
  | [d] => { results := [.lit (.bool true)], args := [d] }
  | _ => none }
def fnExactIsValidLinearProgramRow : OpenClaim := { program := "ytjnphlgmmjdeiaa", sum := "484a1964da5e86ee91e3050c7f548c760cc9d99664fa06db7f228d527efcfeba", func := "loop.example/g01917/laws.FnExactIsValidLinearProgram", spec := "fnExactIsValidLinearProgram", apart := false }
def FnExactIsValidLinearProgramSaid : Prop := fnExactIsValidLinearProgramRow.holds Try.pinned (OpenSpec.ofChange fnExactIsValidLinearProgramSpec)

/-- ITS FALSE NEIGHBOUR: 'it returns false'. Refute it at one input. -/
def fnExactIsValidLinearProgramWrong : ChangeSpec := { name := "fnExactIsValidLinearProgram", fn := fun _ => fun
  | [d] => { results := [.lit (.bool false)], args := [d] }
  | _ => none }
def FnExactIsValidLinearProgramWrongFalsely : Prop := fnExactIsValidLinearProgramRow.holds Try.pinned (OpenSpec.ofChange fnExactIsValidLinearProgramWrong)

/-- 'laws.FnExactIsFeasibleMin': WHATEVER THE INPUT: true; the input reads as it did. -/
def fnExactIsFeasibleMinSpec : ChangeSpec := { name := "fnExactIsFeasibleMin", fn := fun _ => fun
  | [d1, d2] => { results := [.lit (.bool true)], args := [d1, d2] }
  | _ => none }
def fnExactIsFeasibleMinRow : OpenClaim := { program := "ytjnphlgmmjdeiaa", sum := "484a1964da5e86ee91e3050c7f548c760cc9d99664fa06db7f228d527efcfeba", func := "loop.example/g01917/laws.FnExactIsFeasibleMin", spec := "fnExactIsFeasibleMin", apart := false }
def FnExactIsFeasibleMinSaid : Prop := fnExactIsFeasibleMinRow.holds Try.pinned (OpenSpec.ofChange fnExactIsFeasibleMinSpec)

/-- ITS FALSE NEIGHBOUR: 'it returns false'. Refute it at one input. -/
def fnExactIsFeasibleMinWrong : ChangeSpec := { name := "fnExactIsFeasibleMin", fn := fun _ => fun
  | [d1, d2] => { results := [.lit (.bool false)], args := [d1, d2] }
  | _ => none }
def FnExactIsFeasibleMinWrongFalsely : Prop := fnExactIsFeasibleMinRow.holds Try.pinned (OpenSpec.ofChange fnExactIsFeasibleMinWrong)

/-- 'laws.FnExactIsFeasibleMax': WHATEVER THE INPUT: true; the input reads as it did. -/
def fnExactIsFeasibleMaxSpec : ChangeSpec := { name := "fnExactIsFeasibleMax", fn := fun _ => fun
  | [d1, d2] => { results := [.lit (.bool true)], args := [d1, d2] }
  | _ => none }
def fnExactIsFeasibleMaxRow : OpenClaim := { program := "ytjnphlgmmjdeiaa", sum := "484a1964da5e86ee91e3050c7f548c760cc9d99664fa06db7f228d527efcfeba", func := "loop.example/g01917/laws.FnExactIsFeasibleMax", spec := "fnExactIsFeasibleMax", apart := false }
def FnExactIsFeasibleMaxSaid : Prop := fnExactIsFeasibleMaxRow.holds Try.pinned (OpenSpec.ofChange fnExactIsFeasibleMaxSpec)

/-- ITS FALSE NEIGHBOUR: 'it returns false'. Refute it at one input. -/
def fnExactIsFeasibleMaxWrong : ChangeSpec := { name := "fnExactIsFeasibleMax", fn := fun _ => fun
  | [d1, d2] => { results := [.lit (.bool false)], args := [d1, d2] }
  | _ => none }
def FnExactIsFeasibleMaxWrongFalsely : Prop := fnExactIsFeasibleMaxRow.holds Try.pinned (OpenSpec.ofChange fnExactIsFeasibleMaxWrong)

/-- 'laws.FnExactMinimize': WHATEVER THE INPUT: true; the input reads as it did. -/
def fnExactMinimizeSpec : ChangeSpec := { name := "fnExactMinimize", fn := fun _ => fun
  | [d] => { results := [.lit (.bool true)], args := [d] }
  | _ => none }
def fnExactMinimizeRow : OpenClaim := { program := "ytjnphlgmmjdeiaa", sum := "484a1964da5e86ee91e3050c7f548c760cc9d99664fa06db7f228d527efcfeba", func := "loop.example/g01917/laws.FnExactMinimize", spec := "fnExactMinimize", unfollowed := true, recurses := true, apart := false }
def FnExactMinimizeSaid : Prop := fnExactMinimizeRow.holds Try.pinned (OpenSpec.ofChange fnExactMinimizeSpec)

/-- ITS FALSE NEIGHBOUR: 'it returns false'. Refute it at one input. -/
def fnExactMinimizeWrong : ChangeSpec := { name := "fnExactMinimize", fn := fun _ => fun
  | [d] => { results := [.lit (.bool false)], args := [d] }
  | _ => none }
def FnExactMinimizeWrongFalsely : Prop := fnExactMinimizeRow.holds Try.pinned (OpenSpec.ofChange fnExactMinimizeWrong)

/-- 'laws.FnExactMaximize': WHATEVER THE INPUT: true; the input reads as it did. -/
def fnExactMaximizeSpec : ChangeSpec := { name := "fnExactMaximize", fn := fun _ => fun
  | [d] => { results := [.lit (.bool true)], args := [d] }
  | _ => none }
def fnExactMaximizeRow : OpenClaim := { program := "ytjnphlgmmjdeiaa", sum := "484a1964da5e86ee91e3050c7f548c760cc9d99664fa06db7f228d527efcfeba", func := "loop.example/g01917/laws.FnExactMaximize", spec := "fnExactMaximize", unfollowed := true, recurses := true, apart := false }
def FnExactMaximizeSaid : Prop := fnExactMaximizeRow.holds Try.pinned (OpenSpec.ofChange fnExactMaximizeSpec)

/-- ITS FALSE NEIGHBOUR: 'it returns false'. Refute it at one input. -/
def fnExactMaximizeWrong : ChangeSpec := { name := "fnExactMaximize", fn := fun _ => fun
  | [d] => { results := [.lit (.bool false)], args := [d] }
  | _ => none }
def FnExactMaximizeWrongFalsely : Prop := fnExactMaximizeRow.holds Try.pinned (OpenSpec.ofChange fnExactMaximizeWrong)

/-- 'laws.FnExactDualProgram': WHATEVER THE INPUT: true; the input reads as it did. -/
def fnExactDualProgramSpec : ChangeSpec := { name := "fnExactDualProgram", fn := fun _ => fun
  | [d] => { results := [.lit (.bool true)], args := [d] }
  | _ => none }
def fnExactDualProgramRow : OpenClaim := { program := "ytjnphlgmmjdeiaa", sum := "484a1964da5e86ee91e3050c7f548c760cc9d99664fa06db7f228d527efcfeba", func := "loop.example/g01917/laws.FnExactDualProgram", spec := "fnExactDualProgram", apart := false }
def FnExactDualProgramSaid : Prop := fnExactDualProgramRow.holds Try.pinned (OpenSpec.ofChange fnExactDualProgramSpec)

/-- ITS FALSE NEIGHBOUR: 'it returns false'. Refute it at one input. -/
def fnExactDualProgramWrong : ChangeSpec := { name := "fnExactDualProgram", fn := fun _ => fun
  | [d] => { results := [.lit (.bool false)], args := [d] }
  | _ => none }
def FnExactDualProgramWrongFalsely : Prop := fnExactDualProgramRow.holds Try.pinned (OpenSpec.ofChange fnExactDualProgramWrong)

/-- 'laws.FnExactFeasibleVertices': WHATEVER THE INPUT: true; the input reads as it did. -/
def fnExactFeasibleVerticesSpec : ChangeSpec := { name := "fnExactFeasibleVertices", fn := fun _ => fun
  | [d] => { results := [.lit (.bool true)], args := [d] }
  | _ => none }
def fnExactFeasibleVerticesRow : OpenClaim := { program := "ytjnphlgmmjdeiaa", sum := "484a1964da5e86ee91e3050c7f548c760cc9d99664fa06db7f228d527efcfeba", func := "loop.example/g01917/laws.FnExactFeasibleVertices", spec := "fnExactFeasibleVertices", unfollowed := true, recurses := true, apart := false }
def FnExactFeasibleVerticesSaid : Prop := fnExactFeasibleVerticesRow.holds Try.pinned (OpenSpec.ofChange fnExactFeasibleVerticesSpec)

/-- ITS FALSE NEIGHBOUR: 'it returns false'. Refute it at one input. -/
def fnExactFeasibleVerticesWrong : ChangeSpec := { name := "fnExactFeasibleVertices", fn := fun _ => fun
  | [d] => { results := [.lit (.bool false)], args := [d] }
  | _ => none }
def FnExactFeasibleVerticesWrongFalsely : Prop := fnExactFeasibleVerticesRow.holds Try.pinned (OpenSpec.ofChange fnExactFeasibleVerticesWrong)

/- THE SECOND FORM. 'bulk': how many values and letters a reading holds, each counted each time it is reached (what is shared counts as often as it is met; a slice's spare places count too). A statement '..UptoSaid' is the law's where the arguments, and the package variables that the reading takes, are together of bulk at most 1048576: NARROWER than '..Said'. Prove '..Said' where nothing that the law and all that it calls make is longer than what came in: it says more and counts as full. Else prove '..UptoSaid'. A law counts once. -/
mutual
def uptoBulk {H : Type} : DataW H → Nat
  | .lit (.string bytes) => bytes.length + 1
  | .lit _ => 1
  | .nil => 1
  | .ptr d => uptoBulk d + 1
  | .slice elems spare => uptoBulkAll elems + uptoBulkAll spare + 1
  | .agg parts => uptoBulkAll parts + 1
  | .iface _ d => uptoBulk d + 1
  | .map entries => uptoBulkEntries entries + 1
  | .held _ => 1
def uptoBulkAll {H : Type} : List (DataW H) → Nat
  | [] => 0
  | d :: r => uptoBulk d + uptoBulkAll r
def uptoBulkEntries {H : Type} : List (Lit × DataW H) → Nat
  | [] => 0
  | x :: r => uptoBulkEntry x + uptoBulkEntries r
def uptoBulkEntry {H : Type} : Lit × DataW H → Nat
  | (.string bytes, d) => bytes.length + uptoBulk d + 1
  | (_, d) => uptoBulk d + 1
 end
def uptoSmall : (H : Type) → List (DataW H) → Bool := fun _ ds => decide (uptoBulkAll ds ≤ 1048576)
def OpenSpec.upto (s : _root_.Go.ChangeSpec) : _root_.Go.OpenSpec := { _root_.Go.OpenSpec.ofChange s with cond := some uptoSmall }

/-- 'laws.FnLinearSystem', WHERE WHAT IT READS IS OF BULK AT MOST 1048576: true; the input reads as it did. -/
def fnLinearSystemUptoRow : OpenClaim := { program := "ytjnphlgmmjdeiaa", sum := "484a1964da5e86ee91e3050c7f548c760cc9d99664fa06db7f228d527efcfeba", func := "loop.example/g01917/laws.FnLinearSystem", spec := "fnLinearSystem", apart := false, narrowed := true }
def FnLinearSystemUptoSaid : Prop := fnLinearSystemUptoRow.holds Try.pinned (OpenSpec.upto fnLinearSystemSpec)

/-- 'laws.FnMinimum', WHERE WHAT IT READS IS OF BULK AT MOST 1048576: true; the input reads as it did. -/
def fnMinimumUptoRow : OpenClaim := { program := "ytjnphlgmmjdeiaa", sum := "484a1964da5e86ee91e3050c7f548c760cc9d99664fa06db7f228d527efcfeba", func := "loop.example/g01917/laws.FnMinimum", spec := "fnMinimum", unfollowed := true, recurses := true, apart := false, narrowed := true }
def FnMinimumUptoSaid : Prop := fnMinimumUptoRow.holds Try.pinned (OpenSpec.upto fnMinimumSpec)

/-- 'laws.FnStrongDuality', WHERE WHAT IT READS IS OF BULK AT MOST 1048576: true; the input reads as it did. -/
def fnStrongDualityUptoRow : OpenClaim := { program := "ytjnphlgmmjdeiaa", sum := "484a1964da5e86ee91e3050c7f548c760cc9d99664fa06db7f228d527efcfeba", func := "loop.example/g01917/laws.FnStrongDuality", spec := "fnStrongDuality", unfollowed := true, recurses := true, apart := false, narrowed := true }
def FnStrongDualityUptoSaid : Prop := fnStrongDualityUptoRow.holds Try.pinned (OpenSpec.upto fnStrongDualitySpec)

/-- 'laws.FnExactSolveLinearSystem', WHERE WHAT IT READS IS OF BULK AT MOST 1048576: true; the input reads as it did. -/
def fnExactSolveLinearSystemUptoRow : OpenClaim := { program := "ytjnphlgmmjdeiaa", sum := "484a1964da5e86ee91e3050c7f548c760cc9d99664fa06db7f228d527efcfeba", func := "loop.example/g01917/laws.FnExactSolveLinearSystem", spec := "fnExactSolveLinearSystem", apart := false, narrowed := true }
def FnExactSolveLinearSystemUptoSaid : Prop := fnExactSolveLinearSystemUptoRow.holds Try.pinned (OpenSpec.upto fnExactSolveLinearSystemSpec)

/-- 'laws.FnExactIsValidLinearProgram', WHERE WHAT IT READS IS OF BULK AT MOST 1048576: true; the input reads as it did. -/
def fnExactIsValidLinearProgramUptoRow : OpenClaim := { program := "ytjnphlgmmjdeiaa", sum := "484a1964da5e86ee91e3050c7f548c760cc9d99664fa06db7f228d527efcfeba", func := "loop.example/g01917/laws.FnExactIsValidLinearProgram", spec := "fnExactIsValidLinearProgram", apart := false, narrowed := true }
def FnExactIsValidLinearProgramUptoSaid : Prop := fnExactIsValidLinearProgramUptoRow.holds Try.pinned (OpenSpec.upto fnExactIsValidLinearProgramSpec)

/-- 'laws.FnExactIsFeasibleMin', WHERE WHAT IT READS IS OF BULK AT MOST 1048576: true; the input reads as it did. -/
def fnExactIsFeasibleMinUptoRow : OpenClaim := { program := "ytjnphlgmmjdeiaa", sum := "484a1964da5e86ee91e3050c7f548c760cc9d99664fa06db7f228d527efcfeba", func := "loop.example/g01917/laws.FnExactIsFeasibleMin", spec := "fnExactIsFeasibleMin", apart := false, narrowed := true }
def FnExactIsFeasibleMinUptoSaid : Prop := fnExactIsFeasibleMinUptoRow.holds Try.pinned (OpenSpec.upto fnExactIsFeasibleMinSpec)

/-- 'laws.FnExactIsFeasibleMax', WHERE WHAT IT READS IS OF BULK AT MOST 1048576: true; the input reads as it did. -/
def fnExactIsFeasibleMaxUptoRow : OpenClaim := { program := "ytjnphlgmmjdeiaa", sum := "484a1964da5e86ee91e3050c7f548c760cc9d99664fa06db7f228d527efcfeba", func := "loop.example/g01917/laws.FnExactIsFeasibleMax", spec := "fnExactIsFeasibleMax", apart := false, narrowed := true }
def FnExactIsFeasibleMaxUptoSaid : Prop := fnExactIsFeasibleMaxUptoRow.holds Try.pinned (OpenSpec.upto fnExactIsFeasibleMaxSpec)

/-- 'laws.FnExactMinimize', WHERE WHAT IT READS IS OF BULK AT MOST 1048576: true; the input reads as it did. -/
def fnExactMinimizeUptoRow : OpenClaim := { program := "ytjnphlgmmjdeiaa", sum := "484a1964da5e86ee91e3050c7f548c760cc9d99664fa06db7f228d527efcfeba", func := "loop.example/g01917/laws.FnExactMinimize", spec := "fnExactMinimize", unfollowed := true, recurses := true, apart := false, narrowed := true }
def FnExactMinimizeUptoSaid : Prop := fnExactMinimizeUptoRow.holds Try.pinned (OpenSpec.upto fnExactMinimizeSpec)

/-- 'laws.FnExactMaximize', WHERE WHAT IT READS IS OF BULK AT MOST 1048576: true; the input reads as it did. -/
def fnExactMaximizeUptoRow : OpenClaim := { program := "ytjnphlgmmjdeiaa", sum := "484a1964da5e86ee91e3050c7f548c760cc9d99664fa06db7f228d527efcfeba", func := "loop.example/g01917/laws.FnExactMaximize", spec := "fnExactMaximize", unfollowed := true, recurses := true, apart := false, narrowed := true }
def FnExactMaximizeUptoSaid : Prop := fnExactMaximizeUptoRow.holds Try.pinned (OpenSpec.upto fnExactMaximizeSpec)

/-- 'laws.FnExactDualProgram', WHERE WHAT IT READS IS OF BULK AT MOST 1048576: true; the input reads as it did. -/
def fnExactDualProgramUptoRow : OpenClaim := { program := "ytjnphlgmmjdeiaa", sum := "484a1964da5e86ee91e3050c7f548c760cc9d99664fa06db7f228d527efcfeba", func := "loop.example/g01917/laws.FnExactDualProgram", spec := "fnExactDualProgram", apart := false, narrowed := true }
def FnExactDualProgramUptoSaid : Prop := fnExactDualProgramUptoRow.holds Try.pinned (OpenSpec.upto fnExactDualProgramSpec)

/-- 'laws.FnExactFeasibleVertices', WHERE WHAT IT READS IS OF BULK AT MOST 1048576: true; the input reads as it did. -/
def fnExactFeasibleVerticesUptoRow : OpenClaim := { program := "ytjnphlgmmjdeiaa", sum := "484a1964da5e86ee91e3050c7f548c760cc9d99664fa06db7f228d527efcfeba", func := "loop.example/g01917/laws.FnExactFeasibleVertices", spec := "fnExactFeasibleVertices", unfollowed := true, recurses := true, apart := false, narrowed := true }
def FnExactFeasibleVerticesUptoSaid : Prop := fnExactFeasibleVerticesUptoRow.holds Try.pinned (OpenSpec.upto fnExactFeasibleVerticesSpec)

end Rows
end Go.Proofs.Ytjnphlgmmjdeiaa
