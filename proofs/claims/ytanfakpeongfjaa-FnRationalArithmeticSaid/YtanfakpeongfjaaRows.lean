/-
  No cell of these rows narrows 'for every input' (looked for: loops, veiled, ifaces, maps, wideKeys, modest, calm, conditions, laid).
  DERIVED. THE GIVEN ROWS OF THIS SEAT. 10 by the template 'for every input the law returns true; each argument reads behind the call as it read before'; 0 by the template 'total and deterministic' (their statements: YtanfakpeongfjaaTotals.lean).
  GIVEN WITH THE SEED: the statements are not yours to turn. If you find one false, say at which input.
  Laid BY PROGRAM, IN A SANDBOX (cutbox-rows.mjs): the forced cells as the released guide's own fill.sh prints them over the translation a35755db924aec62… (all of the seat's roots in one cut). By AI agents, Wed Nov 11 2026. No macro, syntax, notation, axiom, sorry.
-/
import Derived.Test.YtanfakpeongfjaaChecked
import GoSem.Claim
import GoSem.ClaimJoined
import GoSem.ClaimMapViews
import Derived.JoinedTies
import Derived.KernelRfl
namespace Go.Proofs.Ytanfakpeongfjaa
/- THE CELL 'sum', in the pinned program and in every row, IS THE sha256 OF THE DUMP (.gsa) THAT YtanfakpeongfjaaProg.lean LOADS. Nothing in Lean hashes anything: it is a label: what it is worth is what the hold of that sum in a sandbox is worth. -/
noncomputable def Try.pinned : Pinned := { name := "ytanfakpeongfjaa", sum := "a35755db924aec625f568b71f166062bf76f021011c4adfb6c531db5b4855867", checked := Try.checked }
namespace Rows
def none {H : Type} : Left H := { results := [], args := [] }

/-- 'laws.FnRationalArithmetic': WHATEVER THE INPUT: true; the input reads as it did. -/
def fnRationalArithmeticSpec : ChangeSpec := { name := "fnRationalArithmetic", fn := fun _ => fun
  | [d] => { results := [.lit (.bool true)], args := [d] }
  | _ => none }
def fnRationalArithmeticRow : OpenClaim := { program := "ytanfakpeongfjaa", sum := "a35755db924aec625f568b71f166062bf76f021011c4adfb6c531db5b4855867", func := "loop.example/g01917/laws.FnRationalArithmetic", spec := "fnRationalArithmetic", apart := false }
def FnRationalArithmeticSaid : Prop := fnRationalArithmeticRow.holds Try.pinned (OpenSpec.ofChange fnRationalArithmeticSpec)

/-- ITS FALSE NEIGHBOUR: 'it returns false'. Refute it at one input. -/
def fnRationalArithmeticWrong : ChangeSpec := { name := "fnRationalArithmetic", fn := fun _ => fun
  | [d] => { results := [.lit (.bool false)], args := [d] }
  | _ => none }
def FnRationalArithmeticWrongFalsely : Prop := fnRationalArithmeticRow.holds Try.pinned (OpenSpec.ofChange fnRationalArithmeticWrong)

/-- 'laws.FnBigIntArithmetic': WHATEVER THE INPUT: true; the input reads as it did. -/
def fnBigIntArithmeticSpec : ChangeSpec := { name := "fnBigIntArithmetic", fn := fun _ => fun
  | [d] => { results := [.lit (.bool true)], args := [d] }
  | _ => none }
def fnBigIntArithmeticRow : OpenClaim := { program := "ytanfakpeongfjaa", sum := "a35755db924aec625f568b71f166062bf76f021011c4adfb6c531db5b4855867", func := "loop.example/g01917/laws.FnBigIntArithmetic", spec := "fnBigIntArithmetic", recurses := true, apart := false }
def FnBigIntArithmeticSaid : Prop := fnBigIntArithmeticRow.holds Try.pinned (OpenSpec.ofChange fnBigIntArithmeticSpec)

/-- ITS FALSE NEIGHBOUR: 'it returns false'. Refute it at one input. -/
def fnBigIntArithmeticWrong : ChangeSpec := { name := "fnBigIntArithmetic", fn := fun _ => fun
  | [d] => { results := [.lit (.bool false)], args := [d] }
  | _ => none }
def FnBigIntArithmeticWrongFalsely : Prop := fnBigIntArithmeticRow.holds Try.pinned (OpenSpec.ofChange fnBigIntArithmeticWrong)

/-- 'laws.FnPowers': WHATEVER THE INPUT: true; the input reads as it did. -/
def fnPowersSpec : ChangeSpec := { name := "fnPowers", fn := fun _ => fun
  | [d] => { results := [.lit (.bool true)], args := [d] }
  | _ => none }
def fnPowersRow : OpenClaim := { program := "ytanfakpeongfjaa", sum := "a35755db924aec625f568b71f166062bf76f021011c4adfb6c531db5b4855867", func := "loop.example/g01917/laws.FnPowers", spec := "fnPowers", recurses := true, apart := false }
def FnPowersSaid : Prop := fnPowersRow.holds Try.pinned (OpenSpec.ofChange fnPowersSpec)

/-- ITS FALSE NEIGHBOUR: 'it returns false'. Refute it at one input. -/
def fnPowersWrong : ChangeSpec := { name := "fnPowers", fn := fun _ => fun
  | [d] => { results := [.lit (.bool false)], args := [d] }
  | _ => none }
def FnPowersWrongFalsely : Prop := fnPowersRow.holds Try.pinned (OpenSpec.ofChange fnPowersWrong)

/-- 'laws.FnExactIsValidBigInt': WHATEVER THE INPUT: true; the input reads as it did. -/
def fnExactIsValidBigIntSpec : ChangeSpec := { name := "fnExactIsValidBigInt", fn := fun _ => fun
  | [d] => { results := [.lit (.bool true)], args := [d] }
  | _ => none }
def fnExactIsValidBigIntRow : OpenClaim := { program := "ytanfakpeongfjaa", sum := "a35755db924aec625f568b71f166062bf76f021011c4adfb6c531db5b4855867", func := "loop.example/g01917/laws.FnExactIsValidBigInt", spec := "fnExactIsValidBigInt", apart := false }
def FnExactIsValidBigIntSaid : Prop := fnExactIsValidBigIntRow.holds Try.pinned (OpenSpec.ofChange fnExactIsValidBigIntSpec)

/-- ITS FALSE NEIGHBOUR: 'it returns false'. Refute it at one input. -/
def fnExactIsValidBigIntWrong : ChangeSpec := { name := "fnExactIsValidBigInt", fn := fun _ => fun
  | [d] => { results := [.lit (.bool false)], args := [d] }
  | _ => none }
def FnExactIsValidBigIntWrongFalsely : Prop := fnExactIsValidBigIntRow.holds Try.pinned (OpenSpec.ofChange fnExactIsValidBigIntWrong)

/-- 'laws.FnExactBigIntFromInt': WHATEVER THE INPUT: true; the input reads as it did. -/
def fnExactBigIntFromIntSpec : ChangeSpec := { name := "fnExactBigIntFromInt", fn := fun _ => fun
  | [d] => { results := [.lit (.bool true)], args := [d] }
  | _ => none }
def fnExactBigIntFromIntRow : OpenClaim := { program := "ytanfakpeongfjaa", sum := "a35755db924aec625f568b71f166062bf76f021011c4adfb6c531db5b4855867", func := "loop.example/g01917/laws.FnExactBigIntFromInt", spec := "fnExactBigIntFromInt", apart := false }
def FnExactBigIntFromIntSaid : Prop := fnExactBigIntFromIntRow.holds Try.pinned (OpenSpec.ofChange fnExactBigIntFromIntSpec)

/-- ITS FALSE NEIGHBOUR: 'it returns false'. Refute it at one input. -/
def fnExactBigIntFromIntWrong : ChangeSpec := { name := "fnExactBigIntFromInt", fn := fun _ => fun
  | [d] => { results := [.lit (.bool false)], args := [d] }
  | _ => none }
def FnExactBigIntFromIntWrongFalsely : Prop := fnExactBigIntFromIntRow.holds Try.pinned (OpenSpec.ofChange fnExactBigIntFromIntWrong)

/-- 'laws.FnExactMulBigInt': WHATEVER THE INPUT: true; the input reads as it did. -/
def fnExactMulBigIntSpec : ChangeSpec := { name := "fnExactMulBigInt", fn := fun _ => fun
  | [d1, d2] => { results := [.lit (.bool true)], args := [d1, d2] }
  | _ => none }
def fnExactMulBigIntRow : OpenClaim := { program := "ytanfakpeongfjaa", sum := "a35755db924aec625f568b71f166062bf76f021011c4adfb6c531db5b4855867", func := "loop.example/g01917/laws.FnExactMulBigInt", spec := "fnExactMulBigInt", apart := false }
def FnExactMulBigIntSaid : Prop := fnExactMulBigIntRow.holds Try.pinned (OpenSpec.ofChange fnExactMulBigIntSpec)

/-- ITS FALSE NEIGHBOUR: 'it returns false'. Refute it at one input. -/
def fnExactMulBigIntWrong : ChangeSpec := { name := "fnExactMulBigInt", fn := fun _ => fun
  | [d1, d2] => { results := [.lit (.bool false)], args := [d1, d2] }
  | _ => none }
def FnExactMulBigIntWrongFalsely : Prop := fnExactMulBigIntRow.holds Try.pinned (OpenSpec.ofChange fnExactMulBigIntWrong)

/-- 'laws.FnExactAddBigInt': WHATEVER THE INPUT: true; the input reads as it did. -/
def fnExactAddBigIntSpec : ChangeSpec := { name := "fnExactAddBigInt", fn := fun _ => fun
  | [d1, d2] => { results := [.lit (.bool true)], args := [d1, d2] }
  | _ => none }
def fnExactAddBigIntRow : OpenClaim := { program := "ytanfakpeongfjaa", sum := "a35755db924aec625f568b71f166062bf76f021011c4adfb6c531db5b4855867", func := "loop.example/g01917/laws.FnExactAddBigInt", spec := "fnExactAddBigInt", apart := false }
def FnExactAddBigIntSaid : Prop := fnExactAddBigIntRow.holds Try.pinned (OpenSpec.ofChange fnExactAddBigIntSpec)

/-- ITS FALSE NEIGHBOUR: 'it returns false'. Refute it at one input. -/
def fnExactAddBigIntWrong : ChangeSpec := { name := "fnExactAddBigInt", fn := fun _ => fun
  | [d1, d2] => { results := [.lit (.bool false)], args := [d1, d2] }
  | _ => none }
def FnExactAddBigIntWrongFalsely : Prop := fnExactAddBigIntRow.holds Try.pinned (OpenSpec.ofChange fnExactAddBigIntWrong)

/-- 'laws.FnExactPowBigInt': WHATEVER THE INPUT: true; the input reads as it did. -/
def fnExactPowBigIntSpec : ChangeSpec := { name := "fnExactPowBigInt", fn := fun _ => fun
  | [d1, d2] => { results := [.lit (.bool true)], args := [d1, d2] }
  | _ => none }
def fnExactPowBigIntRow : OpenClaim := { program := "ytanfakpeongfjaa", sum := "a35755db924aec625f568b71f166062bf76f021011c4adfb6c531db5b4855867", func := "loop.example/g01917/laws.FnExactPowBigInt", spec := "fnExactPowBigInt", apart := false }
def FnExactPowBigIntSaid : Prop := fnExactPowBigIntRow.holds Try.pinned (OpenSpec.ofChange fnExactPowBigIntSpec)

/-- ITS FALSE NEIGHBOUR: 'it returns false'. Refute it at one input. -/
def fnExactPowBigIntWrong : ChangeSpec := { name := "fnExactPowBigInt", fn := fun _ => fun
  | [d1, d2] => { results := [.lit (.bool false)], args := [d1, d2] }
  | _ => none }
def FnExactPowBigIntWrongFalsely : Prop := fnExactPowBigIntRow.holds Try.pinned (OpenSpec.ofChange fnExactPowBigIntWrong)

/-- 'laws.FnExactCompareBigInts': WHATEVER THE INPUT: true; the input reads as it did. -/
def fnExactCompareBigIntsSpec : ChangeSpec := { name := "fnExactCompareBigInts", fn := fun _ => fun
  | [d1, d2] => { results := [.lit (.bool true)], args := [d1, d2] }
  | _ => none }
def fnExactCompareBigIntsRow : OpenClaim := { program := "ytanfakpeongfjaa", sum := "a35755db924aec625f568b71f166062bf76f021011c4adfb6c531db5b4855867", func := "loop.example/g01917/laws.FnExactCompareBigInts", spec := "fnExactCompareBigInts", apart := false }
def FnExactCompareBigIntsSaid : Prop := fnExactCompareBigIntsRow.holds Try.pinned (OpenSpec.ofChange fnExactCompareBigIntsSpec)

/-- ITS FALSE NEIGHBOUR: 'it returns false'. Refute it at one input. -/
def fnExactCompareBigIntsWrong : ChangeSpec := { name := "fnExactCompareBigInts", fn := fun _ => fun
  | [d1, d2] => { results := [.lit (.bool false)], args := [d1, d2] }
  | _ => none }
def FnExactCompareBigIntsWrongFalsely : Prop := fnExactCompareBigIntsRow.holds Try.pinned (OpenSpec.ofChange fnExactCompareBigIntsWrong)

/-- 'laws.FnExactFormatBigInt': WHATEVER THE INPUT: true; the input reads as it did. -/
def fnExactFormatBigIntSpec : ChangeSpec := { name := "fnExactFormatBigInt", fn := fun _ => fun
  | [d] => { results := [.lit (.bool true)], args := [d] }
  | _ => none }
def fnExactFormatBigIntRow : OpenClaim := { program := "ytanfakpeongfjaa", sum := "a35755db924aec625f568b71f166062bf76f021011c4adfb6c531db5b4855867", func := "loop.example/g01917/laws.FnExactFormatBigInt", spec := "fnExactFormatBigInt", recurses := true, apart := false }
def FnExactFormatBigIntSaid : Prop := fnExactFormatBigIntRow.holds Try.pinned (OpenSpec.ofChange fnExactFormatBigIntSpec)

/-- ITS FALSE NEIGHBOUR: 'it returns false'. Refute it at one input. -/
def fnExactFormatBigIntWrong : ChangeSpec := { name := "fnExactFormatBigInt", fn := fun _ => fun
  | [d] => { results := [.lit (.bool false)], args := [d] }
  | _ => none }
def FnExactFormatBigIntWrongFalsely : Prop := fnExactFormatBigIntRow.holds Try.pinned (OpenSpec.ofChange fnExactFormatBigIntWrong)

/- THE SECOND FORM. 'bulk': how many values and letters a reading holds, each counted each time it is reached (what is shared counts as often as it is met; a slice's spare places count too). A statement '..UptoSaid' is the law's where the arguments, and the package variables that the reading takes, are together of bulk at most 1048576: NARROWER than '..Said'. Prove '..Said' where nothing that the law and all that it calls make is longer than what came in: it says more and counts as full. Else prove '..UptoSaid'. A law counts once. -/
mutual
def uptoBulk {H : Type} : DataW H → Nat
  | .lit (.string bytes) => bytes.length + 1
  | .lit _ => 1
  | .nil => 1
  | .ptr d => uptoBulk d + 1
  | .slice elems spare => uptoBulkAll elems + uptoBulkAll spare + 1
  | .agg parts => uptoBulkAll parts + 1
  | .iface _ d => uptoBulk d + 1
  | .map entries => uptoBulkEntries entries + 1
  | .held _ => 1
def uptoBulkAll {H : Type} : List (DataW H) → Nat
  | [] => 0
  | d :: r => uptoBulk d + uptoBulkAll r
def uptoBulkEntries {H : Type} : List (Lit × DataW H) → Nat
  | [] => 0
  | x :: r => uptoBulkEntry x + uptoBulkEntries r
def uptoBulkEntry {H : Type} : Lit × DataW H → Nat
  | (.string bytes, d) => bytes.length + uptoBulk d + 1
  | (_, d) => uptoBulk d + 1
 end
def uptoSmall : (H : Type) → List (DataW H) → Bool := fun _ ds => decide (uptoBulkAll ds ≤ 1048576)
def OpenSpec.upto (s : _root_.Go.ChangeSpec) : _root_.Go.OpenSpec := { _root_.Go.OpenSpec.ofChange s with cond := some uptoSmall }

/-- 'laws.FnRationalArithmetic', WHERE WHAT IT READS IS OF BULK AT MOST 1048576: true; the input reads as it did. -/
def fnRationalArithmeticUptoRow : OpenClaim := { program := "ytanfakpeongfjaa", sum := "a35755db924aec625f568b71f166062bf76f021011c4adfb6c531db5b4855867", func := "loop.example/g01917/laws.FnRationalArithmetic", spec := "fnRationalArithmetic", apart := false, narrowed := true }
def FnRationalArithmeticUptoSaid : Prop := fnRationalArithmeticUptoRow.holds Try.pinned (OpenSpec.upto fnRationalArithmeticSpec)

/-- 'laws.FnBigIntArithmetic', WHERE WHAT IT READS IS OF BULK AT MOST 1048576: true; the input reads as it did. -/
def fnBigIntArithmeticUptoRow : OpenClaim := { program := "ytanfakpeongfjaa", sum := "a35755db924aec625f568b71f166062bf76f021011c4adfb6c531db5b4855867", func := "loop.example/g01917/laws.FnBigIntArithmetic", spec := "fnBigIntArithmetic", recurses := true, apart := false, narrowed := true }
def FnBigIntArithmeticUptoSaid : Prop := fnBigIntArithmeticUptoRow.holds Try.pinned (OpenSpec.upto fnBigIntArithmeticSpec)

/-- 'laws.FnPowers', WHERE WHAT IT READS IS OF BULK AT MOST 1048576: true; the input reads as it did. -/
def fnPowersUptoRow : OpenClaim := { program := "ytanfakpeongfjaa", sum := "a35755db924aec625f568b71f166062bf76f021011c4adfb6c531db5b4855867", func := "loop.example/g01917/laws.FnPowers", spec := "fnPowers", recurses := true, apart := false, narrowed := true }
def FnPowersUptoSaid : Prop := fnPowersUptoRow.holds Try.pinned (OpenSpec.upto fnPowersSpec)

/-- 'laws.FnExactIsValidBigInt', WHERE WHAT IT READS IS OF BULK AT MOST 1048576: true; the input reads as it did. -/
def fnExactIsValidBigIntUptoRow : OpenClaim := { program := "ytanfakpeongfjaa", sum := "a35755db924aec625f568b71f166062bf76f021011c4adfb6c531db5b4855867", func := "loop.example/g01917/laws.FnExactIsValidBigInt", spec := "fnExactIsValidBigInt", apart := false, narrowed := true }
def FnExactIsValidBigIntUptoSaid : Prop := fnExactIsValidBigIntUptoRow.holds Try.pinned (OpenSpec.upto fnExactIsValidBigIntSpec)

/-- 'laws.FnExactBigIntFromInt', WHERE WHAT IT READS IS OF BULK AT MOST 1048576: true; the input reads as it did. -/
def fnExactBigIntFromIntUptoRow : OpenClaim := { program := "ytanfakpeongfjaa", sum := "a35755db924aec625f568b71f166062bf76f021011c4adfb6c531db5b4855867", func := "loop.example/g01917/laws.FnExactBigIntFromInt", spec := "fnExactBigIntFromInt", apart := false, narrowed := true }
def FnExactBigIntFromIntUptoSaid : Prop := fnExactBigIntFromIntUptoRow.holds Try.pinned (OpenSpec.upto fnExactBigIntFromIntSpec)

/-- 'laws.FnExactMulBigInt', WHERE WHAT IT READS IS OF BULK AT MOST 1048576: true; the input reads as it did. -/
def fnExactMulBigIntUptoRow : OpenClaim := { program := "ytanfakpeongfjaa", sum := "a35755db924aec625f568b71f166062bf76f021011c4adfb6c531db5b4855867", func := "loop.example/g01917/laws.FnExactMulBigInt", spec := "fnExactMulBigInt", apart := false, narrowed := true }
def FnExactMulBigIntUptoSaid : Prop := fnExactMulBigIntUptoRow.holds Try.pinned (OpenSpec.upto fnExactMulBigIntSpec)

/-- 'laws.FnExactAddBigInt', WHERE WHAT IT READS IS OF BULK AT MOST 1048576: true; the input reads as it did. -/
def fnExactAddBigIntUptoRow : OpenClaim := { program := "ytanfakpeongfjaa", sum := "a35755db924aec625f568b71f166062bf76f021011c4adfb6c531db5b4855867", func := "loop.example/g01917/laws.FnExactAddBigInt", spec := "fnExactAddBigInt", apart := false, narrowed := true }
def FnExactAddBigIntUptoSaid : Prop := fnExactAddBigIntUptoRow.holds Try.pinned (OpenSpec.upto fnExactAddBigIntSpec)

/-- 'laws.FnExactPowBigInt', WHERE WHAT IT READS IS OF BULK AT MOST 1048576: true; the input reads as it did. -/
def fnExactPowBigIntUptoRow : OpenClaim := { program := "ytanfakpeongfjaa", sum := "a35755db924aec625f568b71f166062bf76f021011c4adfb6c531db5b4855867", func := "loop.example/g01917/laws.FnExactPowBigInt", spec := "fnExactPowBigInt", apart := false, narrowed := true }
def FnExactPowBigIntUptoSaid : Prop := fnExactPowBigIntUptoRow.holds Try.pinned (OpenSpec.upto fnExactPowBigIntSpec)

/-- 'laws.FnExactCompareBigInts', WHERE WHAT IT READS IS OF BULK AT MOST 1048576: true; the input reads as it did. -/
def fnExactCompareBigIntsUptoRow : OpenClaim := { program := "ytanfakpeongfjaa", sum := "a35755db924aec625f568b71f166062bf76f021011c4adfb6c531db5b4855867", func := "loop.example/g01917/laws.FnExactCompareBigInts", spec := "fnExactCompareBigInts", apart := false, narrowed := true }
def FnExactCompareBigIntsUptoSaid : Prop := fnExactCompareBigIntsUptoRow.holds Try.pinned (OpenSpec.upto fnExactCompareBigIntsSpec)

/-- 'laws.FnExactFormatBigInt', WHERE WHAT IT READS IS OF BULK AT MOST 1048576: true; the input reads as it did. -/
def fnExactFormatBigIntUptoRow : OpenClaim := { program := "ytanfakpeongfjaa", sum := "a35755db924aec625f568b71f166062bf76f021011c4adfb6c531db5b4855867", func := "loop.example/g01917/laws.FnExactFormatBigInt", spec := "fnExactFormatBigInt", recurses := true, apart := false, narrowed := true }
def FnExactFormatBigIntUptoSaid : Prop := fnExactFormatBigIntUptoRow.holds Try.pinned (OpenSpec.upto fnExactFormatBigIntSpec)

end Rows
end Go.Proofs.Ytanfakpeongfjaa
