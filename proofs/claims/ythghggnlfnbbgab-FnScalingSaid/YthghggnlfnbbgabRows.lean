/-
  No cell of these rows narrows 'for every input' (looked for: loops, veiled, ifaces, maps, wideKeys, modest, calm, conditions, laid).
  DERIVED. THE GIVEN ROWS OF THIS SEAT. 3 by the template 'for every input the law returns true; each argument reads behind the call as it read before'; 0 by the template 'total and deterministic' (their statements: YthghggnlfnbbgabTotals.lean).
  GIVEN WITH THE SEED: the statements are not yours to turn. If you find one false, say at which input.
  Laid BY PROGRAM, IN A SANDBOX (cutbox-rows.mjs): the forced cells as the released guide's own fill.sh prints them over the translation 6edd58473fa59c7d… (all of the seat's roots in one cut). By AI agents, Wed Nov 11 2026. No macro, syntax, notation, axiom, sorry.
-/
import Derived.Test.YthghggnlfnbbgabChecked
import GoSem.Claim
import GoSem.ClaimJoined
import GoSem.ClaimMapViews
import Derived.JoinedTies
import Derived.KernelRfl
namespace Go.Proofs.Ythghggnlfnbbgab
/- THE CELL 'sum', in the pinned program and in every row, IS THE sha256 OF THE DUMP (.gsa) THAT YthghggnlfnbbgabProg.lean LOADS. Nothing in Lean hashes anything: it is a label: what it is worth is what the hold of that sum in a sandbox is worth. -/
noncomputable def Try.pinned : Pinned := { name := "ythghggnlfnbbgab", sum := "6edd58473fa59c7dc26729dc3705edf46aaf2549c4082299556879332a1ab92a", checked := Try.checked }
namespace Rows
def none {H : Type} : Left H := { results := [], args := [] }

/-- 'laws.FnExactSumRationals': WHATEVER THE INPUT: true; the input reads as it did. -/
def fnExactSumRationalsSpec : ChangeSpec := { name := "fnExactSumRationals", fn := fun _ => fun
  | [d] => { results := [.lit (.bool true)], args := [d] }
  | _ => none }
def fnExactSumRationalsRow : OpenClaim := { program := "ythghggnlfnbbgab", sum := "6edd58473fa59c7dc26729dc3705edf46aaf2549c4082299556879332a1ab92a", func := "loop.example/g01917/laws.FnExactSumRationals", spec := "fnExactSumRationals", apart := false }
def FnExactSumRationalsSaid : Prop := fnExactSumRationalsRow.holds Try.pinned (OpenSpec.ofChange fnExactSumRationalsSpec)

/-- ITS FALSE NEIGHBOUR: 'it returns false'. Refute it at one input. -/
def fnExactSumRationalsWrong : ChangeSpec := { name := "fnExactSumRationals", fn := fun _ => fun
  | [d] => { results := [.lit (.bool false)], args := [d] }
  | _ => none }
def FnExactSumRationalsWrongFalsely : Prop := fnExactSumRationalsRow.holds Try.pinned (OpenSpec.ofChange fnExactSumRationalsWrong)

/-- 'laws.FnExactIsFractionalCover': WHATEVER THE INPUT: true; the input reads as it did. -/
def fnExactIsFractionalCoverSpec : ChangeSpec := { name := "fnExactIsFractionalCover", fn := fun _ => fun
  | [d1, d2] => { results := [.lit (.bool true)], args := [d1, d2] }
  | _ => none }
def fnExactIsFractionalCoverRow : OpenClaim := { program := "ythghggnlfnbbgab", sum := "6edd58473fa59c7dc26729dc3705edf46aaf2549c4082299556879332a1ab92a", func := "loop.example/g01917/laws.FnExactIsFractionalCover", spec := "fnExactIsFractionalCover", unfollowed := true, recurses := true, apart := false }
def FnExactIsFractionalCoverSaid : Prop := fnExactIsFractionalCoverRow.holds Try.pinned (OpenSpec.ofChange fnExactIsFractionalCoverSpec)

/-- ITS FALSE NEIGHBOUR: 'it returns false'. Refute it at one input. -/
def fnExactIsFractionalCoverWrong : ChangeSpec := { name := "fnExactIsFractionalCover", fn := fun _ => fun
  | [d1, d2] => { results := [.lit (.bool false)], args := [d1, d2] }
  | _ => none }
def FnExactIsFractionalCoverWrongFalsely : Prop := fnExactIsFractionalCoverRow.holds Try.pinned (OpenSpec.ofChange fnExactIsFractionalCoverWrong)

/-- 'laws.FnScaling': WHATEVER THE INPUT: true; the input reads as it did. -/
def fnScalingSpec : ChangeSpec := { name := "fnScaling", fn := fun _ => fun
  | [d] => { results := [.lit (.bool true)], args := [d] }
  | _ => none }
def fnScalingRow : OpenClaim := { program := "ythghggnlfnbbgab", sum := "6edd58473fa59c7dc26729dc3705edf46aaf2549c4082299556879332a1ab92a", func := "loop.example/g01917/laws.FnScaling", spec := "fnScaling", apart := false }
def FnScalingSaid : Prop := fnScalingRow.holds Try.pinned (OpenSpec.ofChange fnScalingSpec)

/-- ITS FALSE NEIGHBOUR: 'it returns false'. Refute it at one input. -/
def fnScalingWrong : ChangeSpec := { name := "fnScaling", fn := fun _ => fun
  | [d] => { results := [.lit (.bool false)], args := [d] }
  | _ => none }
def FnScalingWrongFalsely : Prop := fnScalingRow.holds Try.pinned (OpenSpec.ofChange fnScalingWrong)

/- THE SECOND FORM. 'bulk': how many values and letters a reading holds, each counted each time it is reached (what is shared counts as often as it is met; a slice's spare places count too). A statement '..UptoSaid' is the law's where the arguments, and the package variables that the reading takes, are together of bulk at most 1048576: NARROWER than '..Said'. Prove '..Said' where nothing that the law and all that it calls make is longer than what came in: it says more and counts as full. Else prove '..UptoSaid'. A law counts once. -/
mutual
def uptoBulk {H : Type} : DataW H → Nat
  | .lit (.string bytes) => bytes.length + 1
  | .lit _ => 1
  | .nil => 1
  | .ptr d => uptoBulk d + 1
  | .slice elems spare => uptoBulkAll elems + uptoBulkAll spare + 1
  | .agg parts => uptoBulkAll parts + 1
  | .iface _ d => uptoBulk d + 1
  | .map entries => uptoBulkEntries entries + 1
  | .held _ => 1
def uptoBulkAll {H : Type} : List (DataW H) → Nat
  | [] => 0
  | d :: r => uptoBulk d + uptoBulkAll r
def uptoBulkEntries {H : Type} : List (Lit × DataW H) → Nat
  | [] => 0
  | x :: r => uptoBulkEntry x + uptoBulkEntries r
def uptoBulkEntry {H : Type} : Lit × DataW H → Nat
  | (.string bytes, d) => bytes.length + uptoBulk d + 1
  | (_, d) => uptoBulk d + 1
 end
def uptoSmall : (H : Type) → List (DataW H) → Bool := fun _ ds => decide (uptoBulkAll ds ≤ 1048576)
def OpenSpec.upto (s : _root_.Go.ChangeSpec) : _root_.Go.OpenSpec := { _root_.Go.OpenSpec.ofChange s with cond := some uptoSmall }

/-- 'laws.FnExactSumRationals', WHERE WHAT IT READS IS OF BULK AT MOST 1048576: true; the input reads as it did. -/
def fnExactSumRationalsUptoRow : OpenClaim := { program := "ythghggnlfnbbgab", sum := "6edd58473fa59c7dc26729dc3705edf46aaf2549c4082299556879332a1ab92a", func := "loop.example/g01917/laws.FnExactSumRationals", spec := "fnExactSumRationals", apart := false, narrowed := true }
def FnExactSumRationalsUptoSaid : Prop := fnExactSumRationalsUptoRow.holds Try.pinned (OpenSpec.upto fnExactSumRationalsSpec)

/-- 'laws.FnExactIsFractionalCover', WHERE WHAT IT READS IS OF BULK AT MOST 1048576: true; the input reads as it did. -/
def fnExactIsFractionalCoverUptoRow : OpenClaim := { program := "ythghggnlfnbbgab", sum := "6edd58473fa59c7dc26729dc3705edf46aaf2549c4082299556879332a1ab92a", func := "loop.example/g01917/laws.FnExactIsFractionalCover", spec := "fnExactIsFractionalCover", unfollowed := true, recurses := true, apart := false, narrowed := true }
def FnExactIsFractionalCoverUptoSaid : Prop := fnExactIsFractionalCoverUptoRow.holds Try.pinned (OpenSpec.upto fnExactIsFractionalCoverSpec)

/-- 'laws.FnScaling', WHERE WHAT IT READS IS OF BULK AT MOST 1048576: true; the input reads as it did. -/
def fnScalingUptoRow : OpenClaim := { program := "ythghggnlfnbbgab", sum := "6edd58473fa59c7dc26729dc3705edf46aaf2549c4082299556879332a1ab92a", func := "loop.example/g01917/laws.FnScaling", spec := "fnScaling", apart := false, narrowed := true }
def FnScalingUptoSaid : Prop := fnScalingUptoRow.holds Try.pinned (OpenSpec.upto fnScalingSpec)

end Rows
end Go.Proofs.Ythghggnlfnbbgab
