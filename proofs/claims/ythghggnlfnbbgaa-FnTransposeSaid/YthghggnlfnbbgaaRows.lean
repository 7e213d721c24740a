/-
  No cell of these rows narrows 'for every input' (looked for: loops, veiled, ifaces, maps, wideKeys, modest, calm, conditions, laid).
  DERIVED. THE GIVEN ROWS OF THIS SEAT. 12 by the template 'for every input the law returns true; each argument reads behind the call as it read before'; 0 by the template 'total and deterministic' (their statements: YthghggnlfnbbgaaTotals.lean).
  GIVEN WITH THE SEED: the statements are not yours to turn. If you find one false, say at which input.
  Laid BY PROGRAM, IN A SANDBOX (cutbox-rows.mjs): the forced cells as the released guide's own fill.sh prints them over the translation b3d460be9e1079a4… (all of the seat's roots in one cut). By AI agents, Wed Nov 11 2026. No macro, syntax, notation, axiom, sorry.
-/
import Derived.Test.YthghggnlfnbbgaaChecked
import GoSem.Claim
import GoSem.ClaimJoined
import GoSem.ClaimMapViews
import Derived.JoinedTies
import Derived.KernelRfl
namespace Go.Proofs.Ythghggnlfnbbgaa
/- THE CELL 'sum', in the pinned program and in every row, IS THE sha256 OF THE DUMP (.gsa) THAT YthghggnlfnbbgaaProg.lean LOADS. Nothing in Lean hashes anything: it is a label: what it is worth is what the hold of that sum in a sandbox is worth. -/
noncomputable def Try.pinned : Pinned := { name := "ythghggnlfnbbgaa", sum := "b3d460be9e1079a4a32490d20860a9155dedc737001c7a2718aa1857d0bb6d50", checked := Try.checked }
namespace Rows
def none {H : Type} : Left H := { results := [], args := [] }

/-- 'laws.FnExactDotProduct': WHATEVER THE INPUT: true; the input reads as it did. -/
def fnExactDotProductSpec : ChangeSpec := { name := "fnExactDotProduct", fn := fun _ => fun
  | [d1, d2] => { results := [.lit (.bool true)], args := [d1, d2] }
  | _ => none }
def fnExactDotProductRow : OpenClaim := { program := "ythghggnlfnbbgaa", sum := "b3d460be9e1079a4a32490d20860a9155dedc737001c7a2718aa1857d0bb6d50", func := "loop.example/g01917/laws.FnExactDotProduct", spec := "fnExactDotProduct", apart := false }
def FnExactDotProductSaid : Prop := fnExactDotProductRow.holds Try.pinned (OpenSpec.ofChange fnExactDotProductSpec)

/-- ITS FALSE NEIGHBOUR: 'it returns false'. Refute it at one input. -/
def fnExactDotProductWrong : ChangeSpec := { name := "fnExactDotProduct", fn := fun _ => fun
  | [d1, d2] => { results := [.lit (.bool false)], args := [d1, d2] }
  | _ => none }
def FnExactDotProductWrongFalsely : Prop := fnExactDotProductRow.holds Try.pinned (OpenSpec.ofChange fnExactDotProductWrong)

/-- 'laws.FnExactMatrixVectorProduct': WHATEVER THE INPUT: true; the input reads as it did. -/
def fnExactMatrixVectorProductSpec : ChangeSpec := { name := "fnExactMatrixVectorProduct", fn := fun _ => fun
  | [d1, d2] => { results := [.lit (.bool true)], args := [d1, d2] }
  | _ => none }
def fnExactMatrixVectorProductRow : OpenClaim := { program := "ythghggnlfnbbgaa", sum := "b3d460be9e1079a4a32490d20860a9155dedc737001c7a2718aa1857d0bb6d50", func := "loop.example/g01917/laws.FnExactMatrixVectorProduct", spec := "fnExactMatrixVectorProduct", apart := false }
def FnExactMatrixVectorProductSaid : Prop := fnExactMatrixVectorProductRow.holds Try.pinned (OpenSpec.ofChange fnExactMatrixVectorProductSpec)

/-- ITS FALSE NEIGHBOUR: 'it returns false'. Refute it at one input. -/
def fnExactMatrixVectorProductWrong : ChangeSpec := { name := "fnExactMatrixVectorProduct", fn := fun _ => fun
  | [d1, d2] => { results := [.lit (.bool false)], args := [d1, d2] }
  | _ => none }
def FnExactMatrixVectorProductWrongFalsely : Prop := fnExactMatrixVectorProductRow.holds Try.pinned (OpenSpec.ofChange fnExactMatrixVectorProductWrong)

/-- 'laws.FnExactTranspose': WHATEVER THE INPUT: true; the input reads as it did. -/
def fnExactTransposeSpec : ChangeSpec := { name := "fnExactTranspose", fn := fun _ => fun
  | [d] => { results := [.lit (.bool true)], args := [d] }
  | _ => none }
def fnExactTransposeRow : OpenClaim := { program := "ythghggnlfnbbgaa", sum := "b3d460be9e1079a4a32490d20860a9155dedc737001c7a2718aa1857d0bb6d50", func := "loop.example/g01917/laws.FnExactTranspose", spec := "fnExactTranspose", apart := false }
def FnExactTransposeSaid : Prop := fnExactTransposeRow.holds Try.pinned (OpenSpec.ofChange fnExactTransposeSpec)

/-- ITS FALSE NEIGHBOUR: 'it returns false'. Refute it at one input. -/
def fnExactTransposeWrong : ChangeSpec := { name := "fnExactTranspose", fn := fun _ => fun
  | [d] => { results := [.lit (.bool false)], args := [d] }
  | _ => none }
def FnExactTransposeWrongFalsely : Prop := fnExactTransposeRow.holds Try.pinned (OpenSpec.ofChange fnExactTransposeWrong)

/-- 'laws.FnExactSolveLinearSystem': WHATEVER THE INPUT: true; the input reads as it did. -/
def fnExactSolveLinearSystemSpec : ChangeSpec := { name := "fnExactSolveLinearSystem", fn := fun _ => fun
  | [d1, d2] => { results := [.lit (.bool true)], args := [d1, d2] }
  | _ => none }
def fnExactSolveLinearSystemRow : OpenClaim := { program := "ythghggnlfnbbgaa", sum := "b3d460be9e1079a4a32490d20860a9155dedc737001c7a2718aa1857d0bb6d50", func := "loop.example/g01917/laws.FnExactSolveLinearSystem", spec := "fnExactSolveLinearSystem", apart := false }
def FnExactSolveLinearSystemSaid : Prop := fnExactSolveLinearSystemRow.holds Try.pinned (OpenSpec.ofChange fnExactSolveLinearSystemSpec)

/-- ITS FALSE NEIGHBOUR: 'it returns false'. Refute it at one input. -/
def fnExactSolveLinearSystemWrong : ChangeSpec := { name := "fnExactSolveLinearSystem", fn := fun _ => fun
  | [d1, d2] => { results := [.lit (.bool false)], args := [d1, d2] }
  | _ => none }
def FnExactSolveLinearSystemWrongFalsely : Prop := fnExactSolveLinearSystemRow.holds Try.pinned (OpenSpec.ofChange fnExactSolveLinearSystemWrong)

/-- 'laws.FnTranspose': WHATEVER THE INPUT: true; the input reads as it did. -/
def fnTransposeSpec : ChangeSpec := { name := "fnTranspose", fn := fun _ => fun
  | [d] => { results := [.lit (.bool true)], args := [d] }
  | _ => none }
def fnTransposeRow : OpenClaim := { program := "ythghggnlfnbbgaa", sum := "b3d460be9e1079a4a32490d20860a9155dedc737001c7a2718aa1857d0bb6d50", func := "loop.example/g01917/laws.FnTranspose", spec := "fnTranspose", apart := false }
def FnTransposeSaid : Prop := fnTransposeRow.holds Try.pinned (OpenSpec.ofChange fnTransposeSpec)

/-- ITS FALSE NEIGHBOUR: 'it returns false'. Refute it at one input. -/
def fnTransposeWrong : ChangeSpec := { name := "fnTranspose", fn := fun _ => fun
  | [d] => { results := [.lit (.bool false)], args := [d] }
  | _ => none }
def FnTransposeWrongFalsely : Prop := fnTransposeRow.holds Try.pinned (OpenSpec.ofChange fnTransposeWrong)

/-- 'laws.FnLinearSystem': WHATEVER THE INPUT: true; the input reads as it did. -/
def fnLinearSystemSpec : ChangeSpec := { name := "fnLinearSystem", fn := fun _ => fun
  | [d] => { results := [.lit (.bool true)], args := [d] }
  | _ => none }
def fnLinearSystemRow : OpenClaim := { program := "ythghggnlfnbbgaa", sum := "b3d460be9e1079a4a32490d20860a9155dedc737001c7a2718aa1857d0bb6d50", func := "loop.example/g01917/laws.FnLinearSystem", spec := "fnLinearSystem", apart := false }
def FnLinearSystemSaid : Prop := fnLinearSystemRow.holds Try.pinned (OpenSpec.ofChange fnLinearSystemSpec)

/-- ITS FALSE NEIGHBOUR: 'it returns false'. Refute it at one input. -/
def fnLinearSystemWrong : ChangeSpec := { name := "fnLinearSystem", fn := fun _ => fun
  | [d] => { results := [.lit (.bool false)], args := [d] }
  | _ => none }
def FnLinearSystemWrongFalsely : Prop := fnLinearSystemRow.holds Try.pinned (OpenSpec.ofChange fnLinearSystemWrong)

/-- 'laws.FnExactAddRational': WHATEVER THE INPUT: true; the input reads as it did. -/
def fnExactAddRationalSpec : ChangeSpec := { name := "fnExactAddRational", fn := fun _ => fun
  | [d1, d2] => { results := [.lit (.bool true)], args := [d1, d2] }
  | _ => none }
def fnExactAddRationalRow : OpenClaim := { program := "ythghggnlfnbbgaa", sum := "b3d460be9e1079a4a32490d20860a9155dedc737001c7a2718aa1857d0bb6d50", func := "loop.example/g01917/laws.FnExactAddRational", spec := "fnExactAddRational", apart := false }
def FnExactAddRationalSaid : Prop := fnExactAddRationalRow.holds Try.pinned (OpenSpec.ofChange fnExactAddRationalSpec)

/-- ITS FALSE NEIGHBOUR: 'it returns false'. Refute it at one input. -/
def fnExactAddRationalWrong : ChangeSpec := { name := "fnExactAddRational", fn := fun _ => fun
  | [d1, d2] => { results := [.lit (.bool false)], args := [d1, d2] }
  | _ => none }
def FnExactAddRationalWrongFalsely : Prop := fnExactAddRationalRow.holds Try.pinned (OpenSpec.ofChange fnExactAddRationalWrong)

/-- 'laws.FnExactSubRational': WHATEVER THE INPUT: true; the input reads as it did. -/
def fnExactSubRationalSpec : ChangeSpec := { name := "fnExactSubRational", fn := fun _ => fun
  | [d1, d2] => { results := [.lit (.bool true)], args := [d1, d2] }
  | _ => none }
def fnExactSubRationalRow : OpenClaim := { program := "ythghggnlfnbbgaa", sum := "b3d460be9e1079a4a32490d20860a9155dedc737001c7a2718aa1857d0bb6d50", func := "loop.example/g01917/laws.FnExactSubRational", spec := "fnExactSubRational", apart := false }
def FnExactSubRationalSaid : Prop := fnExactSubRationalRow.holds Try.pinned (OpenSpec.ofChange fnExactSubRationalSpec)

/-- ITS FALSE NEIGHBOUR: 'it returns false'. Refute it at one input. -/
def fnExactSubRationalWrong : ChangeSpec := { name := "fnExactSubRational", fn := fun _ => fun
  | [d1, d2] => { results := [.lit (.bool false)], args := [d1, d2] }
  | _ => none }
def FnExactSubRationalWrongFalsely : Prop := fnExactSubRationalRow.holds Try.pinned (OpenSpec.ofChange fnExactSubRationalWrong)

/-- 'laws.FnExactMulRational': WHATEVER THE INPUT: true; the input reads as it did. -/
def fnExactMulRationalSpec : ChangeSpec := { name := "fnExactMulRational", fn := fun _ => fun
  | [d1, d2] => { results := [.lit (.bool true)], args := [d1, d2] }
  | _ => none }
def fnExactMulRationalRow : OpenClaim := { program := "ythghggnlfnbbgaa", sum := "b3d460be9e1079a4a32490d20860a9155dedc737001c7a2718aa1857d0bb6d50", func := "loop.example/g01917/laws.FnExactMulRational", spec := "fnExactMulRational", apart := false }
def FnExactMulRationalSaid : Prop := fnExactMulRationalRow.holds Try.pinned (OpenSpec.ofChange fnExactMulRationalSpec)

/-- ITS FALSE NEIGHBOUR: 'it returns false'. Refute it at one input. -/
def fnExactMulRationalWrong : ChangeSpec := { name := "fnExactMulRational", fn := fun _ => fun
  | [d1, d2] => { results := [.lit (.bool false)], args := [d1, d2] }
  | _ => none }
def FnExactMulRationalWrongFalsely : Prop := fnExactMulRationalRow.holds Try.pinned (OpenSpec.ofChange fnExactMulRationalWrong)

/-- 'laws.FnExactDivRational': WHATEVER THE INPUT: true; the input reads as it did. -/
def fnExactDivRationalSpec : ChangeSpec := { name := "fnExactDivRational", fn := fun _ => fun
  | [d1, d2] => { results := [.lit (.bool true)], args := [d1, d2] }
  | _ => none }
def fnExactDivRationalRow : OpenClaim := { program := "ythghggnlfnbbgaa", sum := "b3d460be9e1079a4a32490d20860a9155dedc737001c7a2718aa1857d0bb6d50", func := "loop.example/g01917/laws.FnExactDivRational", spec := "fnExactDivRational", apart := false }
def FnExactDivRationalSaid : Prop := fnExactDivRationalRow.holds Try.pinned (OpenSpec.ofChange fnExactDivRationalSpec)

/-- ITS FALSE NEIGHBOUR: 'it returns false'. Refute it at one input. -/
def fnExactDivRationalWrong : ChangeSpec := { name := "fnExactDivRational", fn := fun _ => fun
  | [d1, d2] => { results := [.lit (.bool false)], args := [d1, d2] }
  | _ => none }
def FnExactDivRationalWrongFalsely : Prop := fnExactDivRationalRow.holds Try.pinned (OpenSpec.ofChange fnExactDivRationalWrong)

/-- 'laws.FnExactCompareRationals': WHATEVER THE INPUT: true; the input reads as it did. -/
def fnExactCompareRationalsSpec : ChangeSpec := { name := "fnExactCompareRationals", fn := fun _ => fun
  | [d1, d2] => { results := [.lit (.bool true)], args := [d1, d2] }
  | _ => none }
def fnExactCompareRationalsRow : OpenClaim := { program := "ythghggnlfnbbgaa", sum := "b3d460be9e1079a4a32490d20860a9155dedc737001c7a2718aa1857d0bb6d50", func := "loop.example/g01917/laws.FnExactCompareRationals", spec := "fnExactCompareRationals", apart := false }
def FnExactCompareRationalsSaid : Prop := fnExactCompareRationalsRow.holds Try.pinned (OpenSpec.ofChange fnExactCompareRationalsSpec)

/-- ITS FALSE NEIGHBOUR: 'it returns false'. Refute it at one input. -/
def fnExactCompareRationalsWrong : ChangeSpec := { name := "fnExactCompareRationals", fn := fun _ => fun
  | [d1, d2] => { results := [.lit (.bool false)], args := [d1, d2] }
  | _ => none }
def FnExactCompareRationalsWrongFalsely : Prop := fnExactCompareRationalsRow.holds Try.pinned (OpenSpec.ofChange fnExactCompareRationalsWrong)

/-- 'laws.FnRationalArithmetic': WHATEVER THE INPUT: true; the input reads as it did. -/
def fnRationalArithmeticSpec : ChangeSpec := { name := "fnRationalArithmetic", fn := fun _ => fun
  | [d] => { results := [.lit (.bool true)], args := [d] }
  | _ => none }
def fnRationalArithmeticRow : OpenClaim := { program := "ythghggnlfnbbgaa", sum := "b3d460be9e1079a4a32490d20860a9155dedc737001c7a2718aa1857d0bb6d50", func := "loop.example/g01917/laws.FnRationalArithmetic", spec := "fnRationalArithmetic", apart := false }
def FnRationalArithmeticSaid : Prop := fnRationalArithmeticRow.holds Try.pinned (OpenSpec.ofChange fnRationalArithmeticSpec)

/-- ITS FALSE NEIGHBOUR: 'it returns false'. Refute it at one input. -/
def fnRationalArithmeticWrong : ChangeSpec := { name := "fnRationalArithmetic", fn := fun _ => fun
  | [d] => { results := [.lit (.bool false)], args := [d] }
  | _ => none }
def FnRationalArithmeticWrongFalsely : Prop := fnRationalArithmeticRow.holds Try.pinned (OpenSpec.ofChange fnRationalArithmeticWrong)

/- THE SECOND FORM. 'bulk': how many values and letters a reading holds, each counted each time it is reached (what is shared counts as often as it is met; a slice's spare places count too). A statement '..UptoSaid' is the law's where the arguments, and the package variables that the reading takes, are together of bulk at most 1048576: NARROWER than '..Said'. Prove '..Said' where nothing that the law and all that it calls make is longer than what came in: it says more and counts as full. Else prove '..UptoSaid'. A law counts once. -/
mutual
def uptoBulk {H : Type} : DataW H → Nat
  | .lit (.string bytes) => bytes.length + 1
  | .lit _ => 1
  | .nil => 1
  | .ptr d => uptoBulk d + 1
  | .slice elems spare => uptoBulkAll elems + uptoBulkAll spare + 1
  | .agg parts => uptoBulkAll parts + 1
  | .iface _ d => uptoBulk d + 1
  | .map entries => uptoBulkEntries entries + 1
  | .held _ => 1
def uptoBulkAll {H : Type} : List (DataW H) → Nat
  | [] => 0
  | d :: r => uptoBulk d + uptoBulkAll r
def uptoBulkEntries {H : Type} : List (Lit × DataW H) → Nat
  | [] => 0
  | x :: r => uptoBulkEntry x + uptoBulkEntries r
def uptoBulkEntry {H : Type} : Lit × DataW H → Nat
  | (.string bytes, d) => bytes.length + uptoBulk d + 1
  | (_, d) => uptoBulk d + 1
 end
def uptoSmall : (H : Type) → List (DataW H) → Bool := fun _ ds => decide (uptoBulkAll ds ≤ 1048576)
def OpenSpec.upto (s : _root_.Go.ChangeSpec) : _root_.Go.OpenSpec := { _root_.Go.OpenSpec.ofChange s with cond := some uptoSmall }

/-- 'laws.FnExactDotProduct', WHERE WHAT IT READS IS OF BULK AT MOST 1048576: true; the input reads as it did. -/
def fnExactDotProductUptoRow : OpenClaim := { program := "ythghggnlfnbbgaa", sum := "b3d460be9e1079a4a32490d20860a9155dedc737001c7a2718aa1857d0bb6d50", func := "loop.example/g01917/laws.FnExactDotProduct", spec := "fnExactDotProduct", apart := false, narrowed := true }
def FnExactDotProductUptoSaid : Prop := fnExactDotProductUptoRow.holds Try.pinned (OpenSpec.upto fnExactDotProductSpec)

/-- 'laws.FnExactMatrixVectorProduct', WHERE WHAT IT READS IS OF BULK AT MOST 1048576: true; the input reads as it did. -/
def fnExactMatrixVectorProductUptoRow : OpenClaim := { program := "ythghggnlfnbbgaa", sum := "b3d460be9e1079a4a32490d20860a9155dedc737001c7a2718aa1857d0bb6d50", func := "loop.example/g01917/laws.FnExactMatrixVectorProduct", spec := "fnExactMatrixVectorProduct", apart := false, narrowed := true }
def FnExactMatrixVectorProductUptoSaid : Prop := fnExactMatrixVectorProductUptoRow.holds Try.pinned (OpenSpec.upto fnExactMatrixVectorProductSpec)

/-- 'laws.FnExactTranspose', WHERE WHAT IT READS IS OF BULK AT MOST 1048576: true; the input reads as it did. -/
def fnExactTransposeUptoRow : OpenClaim := { program := "ythghggnlfnbbgaa", sum := "b3d460be9e1079a4a32490d20860a9155dedc737001c7a2718aa1857d0bb6d50", func := "loop.example/g01917/laws.FnExactTranspose", spec := "fnExactTranspose", apart := false, narrowed := true }
def FnExactTransposeUptoSaid : Prop := fnExactTransposeUptoRow.holds Try.pinned (OpenSpec.upto fnExactTransposeSpec)

/-- 'laws.FnExactSolveLinearSystem', WHERE WHAT IT READS IS OF BULK AT MOST 1048576: true; the input reads as it did. -/
def fnExactSolveLinearSystemUptoRow : OpenClaim := { program := "ythghggnlfnbbgaa", sum := "b3d460be9e1079a4a32490d20860a9155dedc737001c7a2718aa1857d0bb6d50", func := "loop.example/g01917/laws.FnExactSolveLinearSystem", spec := "fnExactSolveLinearSystem", apart := false, narrowed := true }
def FnExactSolveLinearSystemUptoSaid : Prop := fnExactSolveLinearSystemUptoRow.holds Try.pinned (OpenSpec.upto fnExactSolveLinearSystemSpec)

/-- 'laws.FnTranspose', WHERE WHAT IT READS IS OF BULK AT MOST 1048576: true; the input reads as it did. -/
def fnTransposeUptoRow : OpenClaim := { program := "ythghggnlfnbbgaa", sum := "b3d460be9e1079a4a32490d20860a9155dedc737001c7a2718aa1857d0bb6d50", func := "loop.example/g01917/laws.FnTranspose", spec := "fnTranspose", apart := false, narrowed := true }
def FnTransposeUptoSaid : Prop := fnTransposeUptoRow.holds Try.pinned (OpenSpec.upto fnTransposeSpec)

/-- 'laws.FnLinearSystem', WHERE WHAT IT READS IS OF BULK AT MOST 1048576: true; the input reads as it did. -/
def fnLinearSystemUptoRow : OpenClaim := { program := "ythghggnlfnbbgaa", sum := "b3d460be9e1079a4a32490d20860a9155dedc737001c7a2718aa1857d0bb6d50", func := "loop.example/g01917/laws.FnLinearSystem", spec := "fnLinearSystem", apart := false, narrowed := true }
def FnLinearSystemUptoSaid : Prop := fnLinearSystemUptoRow.holds Try.pinned (OpenSpec.upto fnLinearSystemSpec)

/-- 'laws.FnExactAddRational', WHERE WHAT IT READS IS OF BULK AT MOST 1048576: true; the input reads as it did. -/
def fnExactAddRationalUptoRow : OpenClaim := { program := "ythghggnlfnbbgaa", sum := "b3d460be9e1079a4a32490d20860a9155dedc737001c7a2718aa1857d0bb6d50", func := "loop.example/g01917/laws.FnExactAddRational", spec := "fnExactAddRational", apart := false, narrowed := true }
def FnExactAddRationalUptoSaid : Prop := fnExactAddRationalUptoRow.holds Try.pinned (OpenSpec.upto fnExactAddRationalSpec)

/-- 'laws.FnExactSubRational', WHERE WHAT IT READS IS OF BULK AT MOST 1048576: true; the input reads as it did. -/
def fnExactSubRationalUptoRow : OpenClaim := { program := "ythghggnlfnbbgaa", sum := "b3d460be9e1079a4a32490d20860a9155dedc737001c7a2718aa1857d0bb6d50", func := "loop.example/g01917/laws.FnExactSubRational", spec := "fnExactSubRational", apart := false, narrowed := true }
def FnExactSubRationalUptoSaid : Prop := fnExactSubRationalUptoRow.holds Try.pinned (OpenSpec.upto fnExactSubRationalSpec)

/-- 'laws.FnExactMulRational', WHERE WHAT IT READS IS OF BULK AT MOST 1048576: true; the input reads as it did. -/
def fnExactMulRationalUptoRow : OpenClaim := { program := "ythghggnlfnbbgaa", sum := "b3d460be9e1079a4a32490d20860a9155dedc737001c7a2718aa1857d0bb6d50", func := "loop.example/g01917/laws.FnExactMulRational", spec := "fnExactMulRational", apart := false, narrowed := true }
def FnExactMulRationalUptoSaid : Prop := fnExactMulRationalUptoRow.holds Try.pinned (OpenSpec.upto fnExactMulRationalSpec)

/-- 'laws.FnExactDivRational', WHERE WHAT IT READS IS OF BULK AT MOST 1048576: true; the input reads as it did. -/
def fnExactDivRationalUptoRow : OpenClaim := { program := "ythghggnlfnbbgaa", sum := "b3d460be9e1079a4a32490d20860a9155dedc737001c7a2718aa1857d0bb6d50", func := "loop.example/g01917/laws.FnExactDivRational", spec := "fnExactDivRational", apart := false, narrowed := true }
def FnExactDivRationalUptoSaid : Prop := fnExactDivRationalUptoRow.holds Try.pinned (OpenSpec.upto fnExactDivRationalSpec)

/-- 'laws.FnExactCompareRationals', WHERE WHAT IT READS IS OF BULK AT MOST 1048576: true; the input reads as it did. -/
def fnExactCompareRationalsUptoRow : OpenClaim := { program := "ythghggnlfnbbgaa", sum := "b3d460be9e1079a4a32490d20860a9155dedc737001c7a2718aa1857d0bb6d50", func := "loop.example/g01917/laws.FnExactCompareRationals", spec := "fnExactCompareRationals", apart := false, narrowed := true }
def FnExactCompareRationalsUptoSaid : Prop := fnExactCompareRationalsUptoRow.holds Try.pinned (OpenSpec.upto fnExactCompareRationalsSpec)

/-- 'laws.FnRationalArithmetic', WHERE WHAT IT READS IS OF BULK AT MOST 1048576: true; the input reads as it did. -/
def fnRationalArithmeticUptoRow : OpenClaim := { program := "ythghggnlfnbbgaa", sum := "b3d460be9e1079a4a32490d20860a9155dedc737001c7a2718aa1857d0bb6d50", func := "loop.example/g01917/laws.FnRationalArithmetic", spec := "fnRationalArithmetic", apart := false, narrowed := true }
def FnRationalArithmeticUptoSaid : Prop := fnRationalArithmeticUptoRow.holds Try.pinned (OpenSpec.upto fnRationalArithmeticSpec)

end Rows
end Go.Proofs.Ythghggnlfnbbgaa
