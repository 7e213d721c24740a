/- The walk of law FnExactContainsVariable, at every argument. -/
import Derived.Test.YtdpecjfamcefbaaContainsVariableC
import Derived.Test.YtdpecjfamcefbaaVarIn
namespace Go.Proofs.Ytdpecjfamcefbaa.ContainsVariableW
open Go.RowKit
open Go.Proofs.Ytdpecjfamcefbaa.Num Go.Proofs.Ytdpecjfamcefbaa.IntRow Go.Proofs.Ytdpecjfamcefbaa.Rdr Go.Proofs.Ytdpecjfamcefbaa.Dat Go.Proofs.Ytdpecjfamcefbaa.VarIn
set_option linter.unusedVariables false

theorem walk (cs0 : List Value) (x0 : AtomD) (n1 : Int) (hn1 : -9223372036854775808 ≤ n1 ∧ n1 ≤ 9223372036854775807) (w : World) (r0 : rAtom w 0 w.heap.size cs0 x0) :
    Calls Try.prog 12 #[.agg cs0.toArray, .int .i64 n1] w fun e w' => e = .returned (.bool true) ∧ Below w.heap.size w w' :=
  ContainsVariableC.walk cs0 x0 n1 w r0 (fun hs => ⟨decide (n1 ∈ x0.2),
    fun W d0 h => spec_has d0 x0 n1 0 W.heap.size W (by unfold szA at hs; omega) h (Nat.le_refl _),
    fun W d0 h => impl_has d0 x0 n1 0 W.heap.size W (by unfold szA at hs; omega) h (Nat.le_refl _)⟩)
end Go.Proofs.Ytdpecjfamcefbaa.ContainsVariableW
