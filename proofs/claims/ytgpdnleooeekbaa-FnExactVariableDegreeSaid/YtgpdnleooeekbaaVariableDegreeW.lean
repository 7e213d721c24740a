/- The walk of law FnExactVariableDegree, at every query and every number. -/
import Derived.Test.YtgpdnleooeekbaaVariableDegreeC
import Derived.Test.YtgpdnleooeekbaaVDeg
namespace Go.Proofs.Ytgpdnleooeekbaa.VariableDegreeW
open Go.RowKit
open Go.Proofs.Ytgpdnleooeekbaa.Num Go.Proofs.Ytgpdnleooeekbaa.IntRow Go.Proofs.Ytgpdnleooeekbaa.Rdr Go.Proofs.Ytgpdnleooeekbaa.Dat Go.Proofs.Ytgpdnleooeekbaa.VDeg
set_option linter.unusedVariables false

theorem walk (cs0 : List Value) (x0 : QueryD) (n1 : Int) (h1 : -9223372036854775808 ≤ n1 ∧ n1 ≤ 9223372036854775807) (w : World) (r0 : rQuery w 0 w.heap.size cs0 x0) :
    Calls Try.prog 4 #[.agg cs0.toArray, .int .i64 n1] w fun e w' => e = .returned (.bool true) ∧ Below w.heap.size w w' :=
  VariableDegreeC.walk cs0 x0 n1 w r0 (fun hs => ⟨(dgV x0 n1 : Int),
    fun W d0 h0 => spec_deg d0 x0 n1 0 W.heap.size W hs h0 (Nat.le_refl _),
    fun W d0 h0 => impl_deg d0 x0 n1 0 W.heap.size W hs h0 (Nat.le_refl _)⟩)
end Go.Proofs.Ytgpdnleooeekbaa.VariableDegreeW
