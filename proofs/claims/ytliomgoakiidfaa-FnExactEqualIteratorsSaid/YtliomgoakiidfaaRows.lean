/-
  No cell of these rows narrows 'for every input' (looked for: loops, veiled, ifaces, maps, wideKeys, modest, calm, conditions, laid).
  DERIVED. THE GIVEN ROWS OF THIS SEAT. 12 by the template 'for every input the law returns true; each argument reads behind the call as it read before'; 0 by the template 'total and deterministic' (their statements: YtliomgoakiidfaaTotals.lean).
  GIVEN WITH THE SEED: the statements are not yours to turn. If you find one false, say at which input.
  Laid BY PROGRAM, IN A SANDBOX (cutbox-rows.mjs): the forced cells as the released guide's own fill.sh prints them over the translation aafe78066f3f6b39… (all of the seat's roots in one cut). By AI agents, Wed Nov 11 2026. No macro, syntax, notation, axiom, sorry.
-/
import Derived.Test.YtliomgoakiidfaaChecked
import GoSem.Claim
import GoSem.ClaimJoined
import GoSem.ClaimMapViews
import Derived.JoinedTies
import Derived.KernelRfl
namespace Go.Proofs.Ytliomgoakiidfaa
/- THE CELL 'sum', in the pinned program and in every row, IS THE sha256 OF THE DUMP (.gsa) THAT YtliomgoakiidfaaProg.lean LOADS. Nothing in Lean hashes anything: it is a label: what it is worth is what the hold of that sum in a sandbox is worth. -/
noncomputable def Try.pinned : Pinned := { name := "ytliomgoakiidfaa", sum := "aafe78066f3f6b39295937c9e8c25e605c906d077170cc82a12834e414d8fabd", checked := Try.checked }
namespace Rows
def none {H : Type} : Left H := { results := [], args := [] }

/-- 'laws.FnIteration': WHATEVER THE INPUT: true; the input reads as it did. -/
def fnIterationSpec : ChangeSpec := { name := "fnIteration", fn := fun _ => fun
  | [d] => { results := [.lit (.bool true)], args := [d] }
  | _ => none }
def fnIterationRow : OpenClaim := { program := "ytliomgoakiidfaa", sum := "aafe78066f3f6b39295937c9e8c25e605c906d077170cc82a12834e414d8fabd", func := "loop.example/g01917/laws.FnIteration", spec := "fnIteration", unfollowed := true, recurses := true, apart := false }
def FnIterationSaid : Prop := fnIterationRow.holds Try.pinned (OpenSpec.ofChange fnIterationSpec)

/-- ITS FALSE NEIGHBOUR: 'it returns false'. Refute it at one input. -/
def fnIterationWrong : ChangeSpec := { name := "fnIteration", fn := fun _ => fun
  | [d] => { results := [.lit (.bool false)], args := [d] }
  | _ => none }
def FnIterationWrongFalsely : Prop := fnIterationRow.holds Try.pinned (OpenSpec.ofChange fnIterationWrong)

/-- 'laws.FnSeek': WHATEVER THE INPUT: true; the input reads as it did. -/
def fnSeekSpec : ChangeSpec := { name := "fnSeek", fn := fun _ => fun
  | [d] => { results := [.lit (.bool true)], args := [d] }
  | _ => none }
def fnSeekRow : OpenClaim := { program := "ytliomgoakiidfaa", sum := "aafe78066f3f6b39295937c9e8c25e605c906d077170cc82a12834e414d8fabd", func := "loop.example/g01917/laws.FnSeek", spec := "fnSeek", unfollowed := true, recurses := true, apart := false }
def FnSeekSaid : Prop := fnSeekRow.holds Try.pinned (OpenSpec.ofChange fnSeekSpec)

/-- ITS FALSE NEIGHBOUR: 'it returns false'. Refute it at one input. -/
def fnSeekWrong : ChangeSpec := { name := "fnSeek", fn := fun _ => fun
  | [d] => { results := [.lit (.bool false)], args := [d] }
  | _ => none }
def FnSeekWrongFalsely : Prop := fnSeekRow.holds Try.pinned (OpenSpec.ofChange fnSeekWrong)

/-- 'laws.FnExactNewIterator': WHATEVER THE INPUT: true; the input reads as it did. -/
def fnExactNewIteratorSpec : ChangeSpec := { name := "fnExactNewIterator", fn := fun _ => fun
  | [d] => { results := [.lit (.bool true)], args := [d] }
  | _ => none }
def fnExactNewIteratorRow : OpenClaim := { program := "ytliomgoakiidfaa", sum := "aafe78066f3f6b39295937c9e8c25e605c906d077170cc82a12834e414d8fabd", func := "loop.example/g01917/laws.FnExactNewIterator", spec := "fnExactNewIterator", apart := false }
def FnExactNewIteratorSaid : Prop := fnExactNewIteratorRow.holds Try.pinned (OpenSpec.ofChange fnExactNewIteratorSpec)

/-- ITS FALSE NEIGHBOUR: 'it returns false'. Refute it at one input. -/
def fnExactNewIteratorWrong : ChangeSpec := { name := "fnExactNewIterator", fn := fun _ => fun
  | [d] => { results := [.lit (.bool false)], args := [d] }
  | _ => none }
def FnExactNewIteratorWrongFalsely : Prop := fnExactNewIteratorRow.holds Try.pinned (OpenSpec.ofChange fnExactNewIteratorWrong)

/-- 'laws.FnExactIsValidIterator': WHATEVER THE INPUT: true; the input reads as it did. -/
def fnExactIsValidIteratorSpec : ChangeSpec := { name := "fnExactIsValidIterator", fn := fun _ => fun
  | [d] => { results := [.lit (.bool true)], args := [d] }
  | _ => none }
def fnExactIsValidIteratorRow : OpenClaim := { program := "ytliomgoakiidfaa", sum := "aafe78066f3f6b39295937c9e8c25e605c906d077170cc82a12834e414d8fabd", func := "loop.example/g01917/laws.FnExactIsValidIterator", spec := "fnExactIsValidIterator", unfollowed := true, recurses := true, apart := false }
def FnExactIsValidIteratorSaid : Prop := fnExactIsValidIteratorRow.holds Try.pinned (OpenSpec.ofChange fnExactIsValidIteratorSpec)

/-- ITS FALSE NEIGHBOUR: 'it returns false'. Refute it at one input. -/
def fnExactIsValidIteratorWrong : ChangeSpec := { name := "fnExactIsValidIterator", fn := fun _ => fun
  | [d] => { results := [.lit (.bool false)], args := [d] }
  | _ => none }
def FnExactIsValidIteratorWrongFalsely : Prop := fnExactIsValidIteratorRow.holds Try.pinned (OpenSpec.ofChange fnExactIsValidIteratorWrong)

/-- 'laws.FnExactOpenIterator': WHATEVER THE INPUT: true; the input reads as it did. -/
def fnExactOpenIteratorSpec : ChangeSpec := { name := "fnExactOpenIterator", fn := fun _ => fun
  | [d] => { results := [.lit (.bool true)], args := [d] }
  | _ => none }
def fnExactOpenIteratorRow : OpenClaim := { program := "ytliomgoakiidfaa", sum := "aafe78066f3f6b39295937c9e8c25e605c906d077170cc82a12834e414d8fabd", func := "loop.example/g01917/laws.FnExactOpenIterator", spec := "fnExactOpenIterator", unfollowed := true, recurses := true, apart := false }
def FnExactOpenIteratorSaid : Prop := fnExactOpenIteratorRow.holds Try.pinned (OpenSpec.ofChange fnExactOpenIteratorSpec)

/-- ITS FALSE NEIGHBOUR: 'it returns false'. Refute it at one input. -/
def fnExactOpenIteratorWrong : ChangeSpec := { name := "fnExactOpenIterator", fn := fun _ => fun
  | [d] => { results := [.lit (.bool false)], args := [d] }
  | _ => none }
def FnExactOpenIteratorWrongFalsely : Prop := fnExactOpenIteratorRow.holds Try.pinned (OpenSpec.ofChange fnExactOpenIteratorWrong)

/-- 'laws.FnExactCloseLevel': WHATEVER THE INPUT: true; the input reads as it did. -/
def fnExactCloseLevelSpec : ChangeSpec := { name := "fnExactCloseLevel", fn := fun _ => fun
  | [d] => { results := [.lit (.bool true)], args := [d] }
  | _ => none }
def fnExactCloseLevelRow : OpenClaim := { program := "ytliomgoakiidfaa", sum := "aafe78066f3f6b39295937c9e8c25e605c906d077170cc82a12834e414d8fabd", func := "loop.example/g01917/laws.FnExactCloseLevel", spec := "fnExactCloseLevel", unfollowed := true, recurses := true, apart := false }
def FnExactCloseLevelSaid : Prop := fnExactCloseLevelRow.holds Try.pinned (OpenSpec.ofChange fnExactCloseLevelSpec)

/-- ITS FALSE NEIGHBOUR: 'it returns false'. Refute it at one input. -/
def fnExactCloseLevelWrong : ChangeSpec := { name := "fnExactCloseLevel", fn := fun _ => fun
  | [d] => { results := [.lit (.bool false)], args := [d] }
  | _ => none }
def FnExactCloseLevelWrongFalsely : Prop := fnExactCloseLevelRow.holds Try.pinned (OpenSpec.ofChange fnExactCloseLevelWrong)

/-- 'laws.FnExactAtEnd': WHATEVER THE INPUT: true; the input reads as it did. -/
def fnExactAtEndSpec : ChangeSpec := { name := "fnExactAtEnd", fn := fun _ => fun
  | [d] => { results := [.lit (.bool true)], args := [d] }
  | _ => none }
def fnExactAtEndRow : OpenClaim := { program := "ytliomgoakiidfaa", sum := "aafe78066f3f6b39295937c9e8c25e605c906d077170cc82a12834e414d8fabd", func := "loop.example/g01917/laws.FnExactAtEnd", spec := "fnExactAtEnd", unfollowed := true, recurses := true, apart := false }
def FnExactAtEndSaid : Prop := fnExactAtEndRow.holds Try.pinned (OpenSpec.ofChange fnExactAtEndSpec)

/-- ITS FALSE NEIGHBOUR: 'it returns false'. Refute it at one input. -/
def fnExactAtEndWrong : ChangeSpec := { name := "fnExactAtEnd", fn := fun _ => fun
  | [d] => { results := [.lit (.bool false)], args := [d] }
  | _ => none }
def FnExactAtEndWrongFalsely : Prop := fnExactAtEndRow.holds Try.pinned (OpenSpec.ofChange fnExactAtEndWrong)

/-- 'laws.FnExactCurrentKey': WHATEVER THE INPUT: true; the input reads as it did. -/
def fnExactCurrentKeySpec : ChangeSpec := { name := "fnExactCurrentKey", fn := fun _ => fun
  | [d] => { results := [.lit (.bool true)], args := [d] }
  | _ => none }
def fnExactCurrentKeyRow : OpenClaim := { program := "ytliomgoakiidfaa", sum := "aafe78066f3f6b39295937c9e8c25e605c906d077170cc82a12834e414d8fabd", func := "loop.example/g01917/laws.FnExactCurrentKey", spec := "fnExactCurrentKey", unfollowed := true, recurses := true, apart := false }
def FnExactCurrentKeySaid : Prop := fnExactCurrentKeyRow.holds Try.pinned (OpenSpec.ofChange fnExactCurrentKeySpec)

/-- ITS FALSE NEIGHBOUR: 'it returns false'. Refute it at one input. -/
def fnExactCurrentKeyWrong : ChangeSpec := { name := "fnExactCurrentKey", fn := fun _ => fun
  | [d] => { results := [.lit (.bool false)], args := [d] }
  | _ => none }
def FnExactCurrentKeyWrongFalsely : Prop := fnExactCurrentKeyRow.holds Try.pinned (OpenSpec.ofChange fnExactCurrentKeyWrong)

/-- 'laws.FnExactNextKey': WHATEVER THE INPUT: true; the input reads as it did. -/
def fnExactNextKeySpec : ChangeSpec := { name := "fnExactNextKey", fn := fun _ => fun
  | [d] => { results := [.lit (.bool true)], args := [d] }
  | _ => none }
def fnExactNextKeyRow : OpenClaim := { program := "ytliomgoakiidfaa", sum := "aafe78066f3f6b39295937c9e8c25e605c906d077170cc82a12834e414d8fabd", func := "loop.example/g01917/laws.FnExactNextKey", spec := "fnExactNextKey", unfollowed := true, recurses := true, apart := false }
def FnExactNextKeySaid : Prop := fnExactNextKeyRow.holds Try.pinned (OpenSpec.ofChange fnExactNextKeySpec)

/-- ITS FALSE NEIGHBOUR: 'it returns false'. Refute it at one input. -/
def fnExactNextKeyWrong : ChangeSpec := { name := "fnExactNextKey", fn := fun _ => fun
  | [d] => { results := [.lit (.bool false)], args := [d] }
  | _ => none }
def FnExactNextKeyWrongFalsely : Prop := fnExactNextKeyRow.holds Try.pinned (OpenSpec.ofChange fnExactNextKeyWrong)

/-- 'laws.FnExactSeekKey': WHATEVER THE INPUT: true; the input reads as it did. -/
def fnExactSeekKeySpec : ChangeSpec := { name := "fnExactSeekKey", fn := fun _ => fun
  | [d1, d2] => { results := [.lit (.bool true)], args := [d1, d2] }
  | _ => none }
def fnExactSeekKeyRow : OpenClaim := { program := "ytliomgoakiidfaa", sum := "aafe78066f3f6b39295937c9e8c25e605c906d077170cc82a12834e414d8fabd", func := "loop.example/g01917/laws.FnExactSeekKey", spec := "fnExactSeekKey", unfollowed := true, recurses := true, apart := false }
def FnExactSeekKeySaid : Prop := fnExactSeekKeyRow.holds Try.pinned (OpenSpec.ofChange fnExactSeekKeySpec)

/-- ITS FALSE NEIGHBOUR: 'it returns false'. Refute it at one input. -/
def fnExactSeekKeyWrong : ChangeSpec := { name := "fnExactSeekKey", fn := fun _ => fun
  | [d1, d2] => { results := [.lit (.bool false)], args := [d1, d2] }
  | _ => none }
def FnExactSeekKeyWrongFalsely : Prop := fnExactSeekKeyRow.holds Try.pinned (OpenSpec.ofChange fnExactSeekKeyWrong)

/-- 'laws.FnExactIteratorPath': WHATEVER THE INPUT: true; the input reads as it did. -/
def fnExactIteratorPathSpec : ChangeSpec := { name := "fnExactIteratorPath", fn := fun _ => fun
  | [d] => { results := [.lit (.bool true)], args := [d] }
  | _ => none }
def fnExactIteratorPathRow : OpenClaim := { program := "ytliomgoakiidfaa", sum := "aafe78066f3f6b39295937c9e8c25e605c906d077170cc82a12834e414d8fabd", func := "loop.example/g01917/laws.FnExactIteratorPath", spec := "fnExactIteratorPath", unfollowed := true, recurses := true, apart := false }
def FnExactIteratorPathSaid : Prop := fnExactIteratorPathRow.holds Try.pinned (OpenSpec.ofChange fnExactIteratorPathSpec)

/-- ITS FALSE NEIGHBOUR: 'it returns false'. Refute it at one input. -/
def fnExactIteratorPathWrong : ChangeSpec := { name := "fnExactIteratorPath", fn := fun _ => fun
  | [d] => { results := [.lit (.bool false)], args := [d] }
  | _ => none }
def FnExactIteratorPathWrongFalsely : Prop := fnExactIteratorPathRow.holds Try.pinned (OpenSpec.ofChange fnExactIteratorPathWrong)

/-- 'laws.FnExactEqualIterators': WHATEVER THE INPUT: true; the input reads as it did. -/
def fnExactEqualIteratorsSpec : ChangeSpec := { name := "fnExactEqualIterators", fn := fun _ => fun
  | [d1, d2] => { results := [.lit (.bool true)], args := [d1, d2] }
  | _ => none }
def fnExactEqualIteratorsRow : OpenClaim := { program := "ytliomgoakiidfaa", sum := "aafe78066f3f6b39295937c9e8c25e605c906d077170cc82a12834e414d8fabd", func := "loop.example/g01917/laws.FnExactEqualIterators", spec := "fnExactEqualIterators", unfollowed := true, recurses := true, apart := false }
def FnExactEqualIteratorsSaid : Prop := fnExactEqualIteratorsRow.holds Try.pinned (OpenSpec.ofChange fnExactEqualIteratorsSpec)

/-- ITS FALSE NEIGHBOUR: 'it returns false'. Refute it at one input. -/
def fnExactEqualIteratorsWrong : ChangeSpec := { name := "fnExactEqualIterators", fn := fun _ => fun
  | [d1, d2] => { results := [.lit (.bool false)], args := [d1, d2] }
  | _ => none }
def FnExactEqualIteratorsWrongFalsely : Prop := fnExactEqualIteratorsRow.holds Try.pinned (OpenSpec.ofChange fnExactEqualIteratorsWrong)

/- THE SECOND FORM. 'bulk': how many values and letters a reading holds, each counted each time it is reached (what is shared counts as often as it is met; a slice's spare places count too). A statement '..UptoSaid' is the law's where the arguments, and the package variables that the reading takes, are together of bulk at most 1048576: NARROWER than '..Said'. Prove '..Said' where nothing that the law and all that it calls make is longer than what came in: it says more and counts as full. Else prove '..UptoSaid'. A law counts once. -/
mutual
def uptoBulk {H : Type} : DataW H → Nat
  | .lit (.string bytes) => bytes.length + 1
  | .lit _ => 1
  | .nil => 1
  | .ptr d => uptoBulk d + 1
  | .slice elems spare => uptoBulkAll elems + uptoBulkAll spare + 1
  | .agg parts => uptoBulkAll parts + 1
  | .iface _ d => uptoBulk d + 1
  | .map entries => uptoBulkEntries entries + 1
  | .held _ => 1
def uptoBulkAll {H : Type} : List (DataW H) → Nat
  | [] => 0
  | d :: r => uptoBulk d + uptoBulkAll r
def uptoBulkEntries {H : Type} : List (Lit × DataW H) → Nat
  | [] => 0
  | x :: r => uptoBulkEntry x + uptoBulkEntries r
def uptoBulkEntry {H : Type} : Lit × DataW H → Nat
  | (.string bytes, d) => bytes.length + uptoBulk d + 1
  | (_, d) => uptoBulk d + 1
 end
def uptoSmall : (H : Type) → List (DataW H) → Bool := fun _ ds => decide (uptoBulkAll ds ≤ 1048576)
def OpenSpec.upto (s : _root_.Go.ChangeSpec) : _root_.Go.OpenSpec := { _root_.Go.OpenSpec.ofChange s with cond := some uptoSmall }

/-- 'laws.FnIteration', WHERE WHAT IT READS IS OF BULK AT MOST 1048576: true; the input reads as it did. -/
def fnIterationUptoRow : OpenClaim := { program := "ytliomgoakiidfaa", sum := "aafe78066f3f6b39295937c9e8c25e605c906d077170cc82a12834e414d8fabd", func := "loop.example/g01917/laws.FnIteration", spec := "fnIteration", unfollowed := true, recurses := true, apart := false, narrowed := true }
def FnIterationUptoSaid : Prop := fnIterationUptoRow.holds Try.pinned (OpenSpec.upto fnIterationSpec)

/-- 'laws.FnSeek', WHERE WHAT IT READS IS OF BULK AT MOST 1048576: true; the input reads as it did. -/
def fnSeekUptoRow : OpenClaim := { program := "ytliomgoakiidfaa", sum := "aafe78066f3f6b39295937c9e8c25e605c906d077170cc82a12834e414d8fabd", func := "loop.example/g01917/laws.FnSeek", spec := "fnSeek", unfollowed := true, recurses := true, apart := false, narrowed := true }
def FnSeekUptoSaid : Prop := fnSeekUptoRow.holds Try.pinned (OpenSpec.upto fnSeekSpec)

/-- 'laws.FnExactNewIterator', WHERE WHAT IT READS IS OF BULK AT MOST 1048576: true; the input reads as it did. -/
def fnExactNewIteratorUptoRow : OpenClaim := { program := "ytliomgoakiidfaa", sum := "aafe78066f3f6b39295937c9e8c25e605c906d077170cc82a12834e414d8fabd", func := "loop.example/g01917/laws.FnExactNewIterator", spec := "fnExactNewIterator", apart := false, narrowed := true }
def FnExactNewIteratorUptoSaid : Prop := fnExactNewIteratorUptoRow.holds Try.pinned (OpenSpec.upto fnExactNewIteratorSpec)

/-- 'laws.FnExactIsValidIterator', WHERE WHAT IT READS IS OF BULK AT MOST 1048576: true; the input reads as it did. -/
def fnExactIsValidIteratorUptoRow : OpenClaim := { program := "ytliomgoakiidfaa", sum := "aafe78066f3f6b39295937c9e8c25e605c906d077170cc82a12834e414d8fabd", func := "loop.example/g01917/laws.FnExactIsValidIterator", spec := "fnExactIsValidIterator", unfollowed := true, recurses := true, apart := false, narrowed := true }
def FnExactIsValidIteratorUptoSaid : Prop := fnExactIsValidIteratorUptoRow.holds Try.pinned (OpenSpec.upto fnExactIsValidIteratorSpec)

/-- 'laws.FnExactOpenIterator', WHERE WHAT IT READS IS OF BULK AT MOST 1048576: true; the input reads as it did. -/
def fnExactOpenIteratorUptoRow : OpenClaim := { program := "ytliomgoakiidfaa", sum := "aafe78066f3f6b39295937c9e8c25e605c906d077170cc82a12834e414d8fabd", func := "loop.example/g01917/laws.FnExactOpenIterator", spec := "fnExactOpenIterator", unfollowed := true, recurses := true, apart := false, narrowed := true }
def FnExactOpenIteratorUptoSaid : Prop := fnExactOpenIteratorUptoRow.holds Try.pinned (OpenSpec.upto fnExactOpenIteratorSpec)

/-- 'laws.FnExactCloseLevel', WHERE WHAT IT READS IS OF BULK AT MOST 1048576: true; the input reads as it did. -/
def fnExactCloseLevelUptoRow : OpenClaim := { program := "ytliomgoakiidfaa", sum := "aafe78066f3f6b39295937c9e8c25e605c906d077170cc82a12834e414d8fabd", func := "loop.example/g01917/laws.FnExactCloseLevel", spec := "fnExactCloseLevel", unfollowed := true, recurses := true, apart := false, narrowed := true }
def FnExactCloseLevelUptoSaid : Prop := fnExactCloseLevelUptoRow.holds Try.pinned (OpenSpec.upto fnExactCloseLevelSpec)

/-- 'laws.FnExactAtEnd', WHERE WHAT IT READS IS OF BULK AT MOST 1048576: true; the input reads as it did. -/
def fnExactAtEndUptoRow : OpenClaim := { program := "ytliomgoakiidfaa", sum := "aafe78066f3f6b39295937c9e8c25e605c906d077170cc82a12834e414d8fabd", func := "loop.example/g01917/laws.FnExactAtEnd", spec := "fnExactAtEnd", unfollowed := true, recurses := true, apart := false, narrowed := true }
def FnExactAtEndUptoSaid : Prop := fnExactAtEndUptoRow.holds Try.pinned (OpenSpec.upto fnExactAtEndSpec)

/-- 'laws.FnExactCurrentKey', WHERE WHAT IT READS IS OF BULK AT MOST 1048576: true; the input reads as it did. -/
def fnExactCurrentKeyUptoRow : OpenClaim := { program := "ytliomgoakiidfaa", sum := "aafe78066f3f6b39295937c9e8c25e605c906d077170cc82a12834e414d8fabd", func := "loop.example/g01917/laws.FnExactCurrentKey", spec := "fnExactCurrentKey", unfollowed := true, recurses := true, apart := false, narrowed := true }
def FnExactCurrentKeyUptoSaid : Prop := fnExactCurrentKeyUptoRow.holds Try.pinned (OpenSpec.upto fnExactCurrentKeySpec)

/-- 'laws.FnExactNextKey', WHERE WHAT IT READS IS OF BULK AT MOST 1048576: true; the input reads as it did. -/
def fnExactNextKeyUptoRow : OpenClaim := { program := "ytliomgoakiidfaa", sum := "aafe78066f3f6b39295937c9e8c25e605c906d077170cc82a12834e414d8fabd", func := "loop.example/g01917/laws.FnExactNextKey", spec := "fnExactNextKey", unfollowed := true, recurses := true, apart := false, narrowed := true }
def FnExactNextKeyUptoSaid : Prop := fnExactNextKeyUptoRow.holds Try.pinned (OpenSpec.upto fnExactNextKeySpec)

/-- 'laws.FnExactSeekKey', WHERE WHAT IT READS IS OF BULK AT MOST 1048576: true; the input reads as it did. -/
def fnExactSeekKeyUptoRow : OpenClaim := { program := "ytliomgoakiidfaa", sum := "aafe78066f3f6b39295937c9e8c25e605c906d077170cc82a12834e414d8fabd", func := "loop.example/g01917/laws.FnExactSeekKey", spec := "fnExactSeekKey", unfollowed := true, recurses := true, apart := false, narrowed := true }
def FnExactSeekKeyUptoSaid : Prop := fnExactSeekKeyUptoRow.holds Try.pinned (OpenSpec.upto fnExactSeekKeySpec)

/-- 'laws.FnExactIteratorPath', WHERE WHAT IT READS IS OF BULK AT MOST 1048576: true; the input reads as it did. -/
def fnExactIteratorPathUptoRow : OpenClaim := { program := "ytliomgoakiidfaa", sum := "aafe78066f3f6b39295937c9e8c25e605c906d077170cc82a12834e414d8fabd", func := "loop.example/g01917/laws.FnExactIteratorPath", spec := "fnExactIteratorPath", unfollowed := true, recurses := true, apart := false, narrowed := true }
def FnExactIteratorPathUptoSaid : Prop := fnExactIteratorPathUptoRow.holds Try.pinned (OpenSpec.upto fnExactIteratorPathSpec)

/-- 'laws.FnExactEqualIterators', WHERE WHAT IT READS IS OF BULK AT MOST 1048576: true; the input reads as it did. -/
def fnExactEqualIteratorsUptoRow : OpenClaim := { program := "ytliomgoakiidfaa", sum := "aafe78066f3f6b39295937c9e8c25e605c906d077170cc82a12834e414d8fabd", func := "loop.example/g01917/laws.FnExactEqualIterators", spec := "fnExactEqualIterators", unfollowed := true, recurses := true, apart := false, narrowed := true }
def FnExactEqualIteratorsUptoSaid : Prop := fnExactEqualIteratorsUptoRow.holds Try.pinned (OpenSpec.upto fnExactEqualIteratorsSpec)

end Rows
end Go.Proofs.Ytliomgoakiidfaa
