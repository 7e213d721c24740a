/-
  No cell of these rows narrows 'for every input' (looked for: loops, veiled, ifaces, maps, wideKeys, modest, calm, conditions, laid).
  DERIVED. THE GIVEN ROWS OF THIS SEAT. 9 by the template 'for every input the law returns true; each argument reads behind the call as it read before'; 0 by the template 'total and deterministic' (their statements: YtbnnigaepkpfbaaTotals.lean).
  GIVEN WITH THE SEED: the statements are not yours to turn. If you find one false, say at which input.
  Laid BY PROGRAM, IN A SANDBOX (cutbox-rows.mjs): the forced cells as the released guide's own fill.sh prints them over the translation 03cf0552c36a2a84… (all of the seat's roots in one cut). By AI agents, Wed Nov 11 2026. No macro, syntax, notation, axiom, sorry.
-/
import Derived.Test.YtbnnigaepkpfbaaChecked
import GoSem.Claim
import GoSem.ClaimJoined
import GoSem.ClaimMapViews
import Derived.JoinedTies
import Derived.KernelRfl
namespace Go.Proofs.Ytbnnigaepkpfbaa
/- THE CELL 'sum', in the pinned program and in every row, IS THE sha256 OF THE DUMP (.gsa) THAT YtbnnigaepkpfbaaProg.lean LOADS. Nothing in Lean hashes anything: it is a label: what it is worth is what the hold of that sum in a sandbox is worth. -/
noncomputable def Try.pinned : Pinned := { name := "ytbnnigaepkpfbaa", sum := "03cf0552c36a2a8468ec4f90dfb2b03c1e84ce97350065c32d67d37e84788667", checked := Try.checked }
namespace Rows
def none {H : Type} : Left H := { results := [], args := [] }

/-- 'laws.FnRationalArithmetic': WHATEVER THE INPUT: true; the input reads as it did. -/
def fnRationalArithmeticSpec : ChangeSpec := { name := "fnRationalArithmetic", fn := fun _ => fun
  | [d] => { results := [.lit (.bool true)], args := [d] }
  | _ => none }
def fnRationalArithmeticRow : OpenClaim := { program := "ytbnnigaepkpfbaa", sum := "03cf0552c36a2a8468ec4f90dfb2b03c1e84ce97350065c32d67d37e84788667", func := "loop.example/g01917/laws.FnRationalArithmetic", spec := "fnRationalArithmetic", apart := false }
def FnRationalArithmeticSaid : Prop := fnRationalArithmeticRow.holds Try.pinned (OpenSpec.ofChange fnRationalArithmeticSpec)

/-- ITS FALSE NEIGHBOUR: 'it returns false'. Refute it at one input. -/
def fnRationalArithmeticWrong : ChangeSpec := { name := "fnRationalArithmetic", fn := fun _ => fun
  | [d] => { results := [.lit (.bool false)], args := [d] }
  | _ => none }
def FnRationalArithmeticWrongFalsely : Prop := fnRationalArithmeticRow.holds Try.pinned (OpenSpec.ofChange fnRationalArithmeticWrong)

/-- 'laws.FnRationalNormalForm': WHATEVER THE INPUT: true; the input reads as it did. -/
def fnRationalNormalFormSpec : ChangeSpec := { name := "fnRationalNormalForm", fn := fun _ => fun
  | [d] => { results := [.lit (.bool true)], args := [d] }
  | _ => none }
def fnRationalNormalFormRow : OpenClaim := { program := "ytbnnigaepkpfbaa", sum := "03cf0552c36a2a8468ec4f90dfb2b03c1e84ce97350065c32d67d37e84788667", func := "loop.example/g01917/laws.FnRationalNormalForm", spec := "fnRationalNormalForm", apart := false }
def FnRationalNormalFormSaid : Prop := fnRationalNormalFormRow.holds Try.pinned (OpenSpec.ofChange fnRationalNormalFormSpec)

/-- ITS FALSE NEIGHBOUR: 'it returns false'. Refute it at one input. -/
def fnRationalNormalFormWrong : ChangeSpec := { name := "fnRationalNormalForm", fn := fun _ => fun
  | [d] => { results := [.lit (.bool false)], args := [d] }
  | _ => none }
def FnRationalNormalFormWrongFalsely : Prop := fnRationalNormalFormRow.holds Try.pinned (OpenSpec.ofChange fnRationalNormalFormWrong)

/-- 'laws.FnExactIsValidRational': WHATEVER THE INPUT: true; the input reads as it did. -/
def fnExactIsValidRationalSpec : ChangeSpec := { name := "fnExactIsValidRational", fn := fun _ => fun
  | [d] => { results := [.lit (.bool true)], args := [d] }
  | _ => none }
def fnExactIsValidRationalRow : OpenClaim := { program := "ytbnnigaepkpfbaa", sum := "03cf0552c36a2a8468ec4f90dfb2b03c1e84ce97350065c32d67d37e84788667", func := "loop.example/g01917/laws.FnExactIsValidRational", spec := "fnExactIsValidRational", apart := false }
def FnExactIsValidRationalSaid : Prop := fnExactIsValidRationalRow.holds Try.pinned (OpenSpec.ofChange fnExactIsValidRationalSpec)

/-- ITS FALSE NEIGHBOUR: 'it returns false'. Refute it at one input. -/
def fnExactIsValidRationalWrong : ChangeSpec := { name := "fnExactIsValidRational", fn := fun _ => fun
  | [d] => { results := [.lit (.bool false)], args := [d] }
  | _ => none }
def FnExactIsValidRationalWrongFalsely : Prop := fnExactIsValidRationalRow.holds Try.pinned (OpenSpec.ofChange fnExactIsValidRationalWrong)

/-- 'laws.FnExactNewRational': WHATEVER THE INPUT: true; the input reads as it did. -/
def fnExactNewRationalSpec : ChangeSpec := { name := "fnExactNewRational", fn := fun _ => fun
  | [d1, d2] => { results := [.lit (.bool true)], args := [d1, d2] }
  | _ => none }
def fnExactNewRationalRow : OpenClaim := { program := "ytbnnigaepkpfbaa", sum := "03cf0552c36a2a8468ec4f90dfb2b03c1e84ce97350065c32d67d37e84788667", func := "loop.example/g01917/laws.FnExactNewRational", spec := "fnExactNewRational", apart := false }
def FnExactNewRationalSaid : Prop := fnExactNewRationalRow.holds Try.pinned (OpenSpec.ofChange fnExactNewRationalSpec)

/-- ITS FALSE NEIGHBOUR: 'it returns false'. Refute it at one input. -/
def fnExactNewRationalWrong : ChangeSpec := { name := "fnExactNewRational", fn := fun _ => fun
  | [d1, d2] => { results := [.lit (.bool false)], args := [d1, d2] }
  | _ => none }
def FnExactNewRationalWrongFalsely : Prop := fnExactNewRationalRow.holds Try.pinned (OpenSpec.ofChange fnExactNewRationalWrong)

/-- 'laws.FnExactAddRational': WHATEVER THE INPUT: true; the input reads as it did. -/
def fnExactAddRationalSpec : ChangeSpec := { name := "fnExactAddRational", fn := fun _ => fun
  | [d1, d2] => { results := [.lit (.bool true)], args := [d1, d2] }
  | _ => none }
def fnExactAddRationalRow : OpenClaim := { program := "ytbnnigaepkpfbaa", sum := "03cf0552c36a2a8468ec4f90dfb2b03c1e84ce97350065c32d67d37e84788667", func := "loop.example/g01917/laws.FnExactAddRational", spec := "fnExactAddRational", apart := false }
def FnExactAddRationalSaid : Prop := fnExactAddRationalRow.holds Try.pinned (OpenSpec.ofChange fnExactAddRationalSpec)

/-- ITS FALSE NEIGHBOUR: 'it returns false'. Refute it at one input. -/
def fnExactAddRationalWrong : ChangeSpec := { name := "fnExactAddRational", fn := fun _ => fun
  | [d1, d2] => { results := [.lit (.bool false)], args := [d1, d2] }
  | _ => none }
def FnExactAddRationalWrongFalsely : Prop := fnExactAddRationalRow.holds Try.pinned (OpenSpec.ofChange fnExactAddRationalWrong)

/-- 'laws.FnExactSubRational': WHATEVER THE INPUT: true; the input reads as it did. -/
def fnExactSubRationalSpec : ChangeSpec := { name := "fnExactSubRational", fn := fun _ => fun
  | [d1, d2] => { results := [.lit (.bool true)], args := [d1, d2] }
  | _ => none }
def fnExactSubRationalRow : OpenClaim := { program := "ytbnnigaepkpfbaa", sum := "03cf0552c36a2a8468ec4f90dfb2b03c1e84ce97350065c32d67d37e84788667", func := "loop.example/g01917/laws.FnExactSubRational", spec := "fnExactSubRational", apart := false }
def FnExactSubRationalSaid : Prop := fnExactSubRationalRow.holds Try.pinned (OpenSpec.ofChange fnExactSubRationalSpec)

/-- ITS FALSE NEIGHBOUR: 'it returns false'. Refute it at one input. -/
def fnExactSubRationalWrong : ChangeSpec := { name := "fnExactSubRational", fn := fun _ => fun
  | [d1, d2] => { results := [.lit (.bool false)], args := [d1, d2] }
  | _ => none }
def FnExactSubRationalWrongFalsely : Prop := fnExactSubRationalRow.holds Try.pinned (OpenSpec.ofChange fnExactSubRationalWrong)

/-- 'laws.FnExactMulRational': WHATEVER THE INPUT: true; the input reads as it did. -/
def fnExactMulRationalSpec : ChangeSpec := { name := "fnExactMulRational", fn := fun _ => fun
  | [d1, d2] => { results := [.lit (.bool true)], args := [d1, d2] }
  | _ => none }
def fnExactMulRationalRow : OpenClaim := { program := "ytbnnigaepkpfbaa", sum := "03cf0552c36a2a8468ec4f90dfb2b03c1e84ce97350065c32d67d37e84788667", func := "loop.example/g01917/laws.FnExactMulRational", spec := "fnExactMulRational", apart := false }
def FnExactMulRationalSaid : Prop := fnExactMulRationalRow.holds Try.pinned (OpenSpec.ofChange fnExactMulRationalSpec)

/-- ITS FALSE NEIGHBOUR: 'it returns false'. Refute it at one input. -/
def fnExactMulRationalWrong : ChangeSpec := { name := "fnExactMulRational", fn := fun _ => fun
  | [d1, d2] => { results := [.lit (.bool false)], args := [d1, d2] }
  | _ => none }
def FnExactMulRationalWrongFalsely : Prop := fnExactMulRationalRow.holds Try.pinned (OpenSpec.ofChange fnExactMulRationalWrong)

/-- 'laws.FnExactDivRational': WHATEVER THE INPUT: true; the input reads as it did. -/
def fnExactDivRationalSpec : ChangeSpec := { name := "fnExactDivRational", fn := fun _ => fun
  | [d1, d2] => { results := [.lit (.bool true)], args := [d1, d2] }
  | _ => none }
def fnExactDivRationalRow : OpenClaim := { program := "ytbnnigaepkpfbaa", sum := "03cf0552c36a2a8468ec4f90dfb2b03c1e84ce97350065c32d67d37e84788667", func := "loop.example/g01917/laws.FnExactDivRational", spec := "fnExactDivRational", apart := false }
def FnExactDivRationalSaid : Prop := fnExactDivRationalRow.holds Try.pinned (OpenSpec.ofChange fnExactDivRationalSpec)

/-- ITS FALSE NEIGHBOUR: 'it returns false'. Refute it at one input. -/
def fnExactDivRationalWrong : ChangeSpec := { name := "fnExactDivRational", fn := fun _ => fun
  | [d1, d2] => { results := [.lit (.bool false)], args := [d1, d2] }
  | _ => none }
def FnExactDivRationalWrongFalsely : Prop := fnExactDivRationalRow.holds Try.pinned (OpenSpec.ofChange fnExactDivRationalWrong)

/-- 'laws.FnExactCompareRationals': WHATEVER THE INPUT: true; the input reads as it did. -/
def fnExactCompareRationalsSpec : ChangeSpec := { name := "fnExactCompareRationals", fn := fun _ => fun
  | [d1, d2] => { results := [.lit (.bool true)], args := [d1, d2] }
  | _ => none }
def fnExactCompareRationalsRow : OpenClaim := { program := "ytbnnigaepkpfbaa", sum := "03cf0552c36a2a8468ec4f90dfb2b03c1e84ce97350065c32d67d37e84788667", func := "loop.example/g01917/laws.FnExactCompareRationals", spec := "fnExactCompareRationals", apart := false }
def FnExactCompareRationalsSaid : Prop := fnExactCompareRationalsRow.holds Try.pinned (OpenSpec.ofChange fnExactCompareRationalsSpec)

/-- ITS FALSE NEIGHBOUR: 'it returns false'. Refute it at one input. -/
def fnExactCompareRationalsWrong : ChangeSpec := { name := "fnExactCompareRationals", fn := fun _ => fun
  | [d1, d2] => { results := [.lit (.bool false)], args := [d1, d2] }
  | _ => none }
def FnExactCompareRationalsWrongFalsely : Prop := fnExactCompareRationalsRow.holds Try.pinned (OpenSpec.ofChange fnExactCompareRationalsWrong)

/- THE SECOND FORM. 'bulk': how many values and letters a reading holds, each counted each time it is reached (what is shared counts as often as it is met; a slice's spare places count too). A statement '..UptoSaid' is the law's where the arguments, and the package variables that the reading takes, are together of bulk at most 1048576: NARROWER than '..Said'. Prove '..Said' where nothing that the law and all that it calls make is longer than what came in: it says more and counts as full. Else prove '..UptoSaid'. A law counts once. -/
mutual
def uptoBulk {H : Type} : DataW H → Nat
  | .lit (.string bytes) => bytes.length + 1
  | .lit _ => 1
  | .nil => 1
  | .ptr d => uptoBulk d + 1
  | .slice elems spare => uptoBulkAll elems + uptoBulkAll spare + 1
  | .agg parts => uptoBulkAll parts + 1
  | .iface _ d => uptoBulk d + 1
  | .map entries => uptoBulkEntries entries + 1
  | .held _ => 1
def uptoBulkAll {H : Type} : List (DataW H) → Nat
  | [] => 0
  | d :: r => uptoBulk d + uptoBulkAll r
def uptoBulkEntries {H : Type} : List (Lit × DataW H) → Nat
  | [] => 0
  | x :: r => uptoBulkEntry x + uptoBulkEntries r
def uptoBulkEntry {H : Type} : Lit × DataW H → Nat
  | (.string bytes, d) => bytes.length + uptoBulk d + 1
  | (_, d) => uptoBulk d + 1
 end
def uptoSmall : (H : Type) → List (DataW H) → Bool := fun _ ds => decide (uptoBulkAll ds ≤ 1048576)
def OpenSpec.upto (s : _root_.Go.ChangeSpec) : _root_.Go.OpenSpec := { _root_.Go.OpenSpec.ofChange s with cond := some uptoSmall }

/-- 'laws.FnRationalArithmetic', WHERE WHAT IT READS IS OF BULK AT MOST 1048576: true; the input reads as it did. -/
def fnRationalArithmeticUptoRow : OpenClaim := { program := "ytbnnigaepkpfbaa", sum := "03cf0552c36a2a8468ec4f90dfb2b03c1e84ce97350065c32d67d37e84788667", func := "loop.example/g01917/laws.FnRationalArithmetic", spec := "fnRationalArithmetic", apart := false, narrowed := true }
def FnRationalArithmeticUptoSaid : Prop := fnRationalArithmeticUptoRow.holds Try.pinned (OpenSpec.upto fnRationalArithmeticSpec)

/-- 'laws.FnRationalNormalForm', WHERE WHAT IT READS IS OF BULK AT MOST 1048576: true; the input reads as it did. -/
def fnRationalNormalFormUptoRow : OpenClaim := { program := "ytbnnigaepkpfbaa", sum := "03cf0552c36a2a8468ec4f90dfb2b03c1e84ce97350065c32d67d37e84788667", func := "loop.example/g01917/laws.FnRationalNormalForm", spec := "fnRationalNormalForm", apart := false, narrowed := true }
def FnRationalNormalFormUptoSaid : Prop := fnRationalNormalFormUptoRow.holds Try.pinned (OpenSpec.upto fnRationalNormalFormSpec)

/-- 'laws.FnExactIsValidRational', WHERE WHAT IT READS IS OF BULK AT MOST 1048576: true; the input reads as it did. -/
def fnExactIsValidRationalUptoRow : OpenClaim := { program := "ytbnnigaepkpfbaa", sum := "03cf0552c36a2a8468ec4f90dfb2b03c1e84ce97350065c32d67d37e84788667", func := "loop.example/g01917/laws.FnExactIsValidRational", spec := "fnExactIsValidRational", apart := false, narrowed := true }
def FnExactIsValidRationalUptoSaid : Prop := fnExactIsValidRationalUptoRow.holds Try.pinned (OpenSpec.upto fnExactIsValidRationalSpec)

/-- 'laws.FnExactNewRational', WHERE WHAT IT READS IS OF BULK AT MOST 1048576: true; the input reads as it did. -/
def fnExactNewRationalUptoRow : OpenClaim := { program := "ytbnnigaepkpfbaa", sum := "03cf0552c36a2a8468ec4f90dfb2b03c1e84ce97350065c32d67d37e84788667", func := "loop.example/g01917/laws.FnExactNewRational", spec := "fnExactNewRational", apart := false, narrowed := true }
def FnExactNewRationalUptoSaid : Prop := fnExactNewRationalUptoRow.holds Try.pinned (OpenSpec.upto fnExactNewRationalSpec)

/-- 'laws.FnExactAddRational', WHERE WHAT IT READS IS OF BULK AT MOST 1048576: true; the input reads as it did. -/
def fnExactAddRationalUptoRow : OpenClaim := { program := "ytbnnigaepkpfbaa", sum := "03cf0552c36a2a8468ec4f90dfb2b03c1e84ce97350065c32d67d37e84788667", func := "loop.example/g01917/laws.FnExactAddRational", spec := "fnExactAddRational", apart := false, narrowed := true }
def FnExactAddRationalUptoSaid : Prop := fnExactAddRationalUptoRow.holds Try.pinned (OpenSpec.upto fnExactAddRationalSpec)

/-- 'laws.FnExactSubRational', WHERE WHAT IT READS IS OF BULK AT MOST 1048576: true; the input reads as it did. -/
def fnExactSubRationalUptoRow : OpenClaim := { program := "ytbnnigaepkpfbaa", sum := "03cf0552c36a2a8468ec4f90dfb2b03c1e84ce97350065c32d67d37e84788667", func := "loop.example/g01917/laws.FnExactSubRational", spec := "fnExactSubRational", apart := false, narrowed := true }
def FnExactSubRationalUptoSaid : Prop := fnExactSubRationalUptoRow.holds Try.pinned (OpenSpec.upto fnExactSubRationalSpec)

/-- 'laws.FnExactMulRational', WHERE WHAT IT READS IS OF BULK AT MOST 1048576: true; the input reads as it did. -/
def fnExactMulRationalUptoRow : OpenClaim := { program := "ytbnnigaepkpfbaa", sum := "03cf0552c36a2a8468ec4f90dfb2b03c1e84ce97350065c32d67d37e84788667", func := "loop.example/g01917/laws.FnExactMulRational", spec := "fnExactMulRational", apart := false, narrowed := true }
def FnExactMulRationalUptoSaid : Prop := fnExactMulRationalUptoRow.holds Try.pinned (OpenSpec.upto fnExactMulRationalSpec)

/-- 'laws.FnExactDivRational', WHERE WHAT IT READS IS OF BULK AT MOST 1048576: true; the input reads as it did. -/
def fnExactDivRationalUptoRow : OpenClaim := { program := "ytbnnigaepkpfbaa", sum := "03cf0552c36a2a8468ec4f90dfb2b03c1e84ce97350065c32d67d37e84788667", func := "loop.example/g01917/laws.FnExactDivRational", spec := "fnExactDivRational", apart := false, narrowed := true }
def FnExactDivRationalUptoSaid : Prop := fnExactDivRationalUptoRow.holds Try.pinned (OpenSpec.upto fnExactDivRationalSpec)

/-- 'laws.FnExactCompareRationals', WHERE WHAT IT READS IS OF BULK AT MOST 1048576: true; the input reads as it did. -/
def fnExactCompareRationalsUptoRow : OpenClaim := { program := "ytbnnigaepkpfbaa", sum := "03cf0552c36a2a8468ec4f90dfb2b03c1e84ce97350065c32d67d37e84788667", func := "loop.example/g01917/laws.FnExactCompareRationals", spec := "fnExactCompareRationals", apart := false, narrowed := true }
def FnExactCompareRationalsUptoSaid : Prop := fnExactCompareRationalsUptoRow.holds Try.pinned (OpenSpec.upto fnExactCompareRationalsSpec)

end Rows
end Go.Proofs.Ytbnnigaepkpfbaa
