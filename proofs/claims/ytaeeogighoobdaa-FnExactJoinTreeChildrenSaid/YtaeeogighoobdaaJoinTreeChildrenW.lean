/- The walk of law FnExactJoinTreeChildren, at every forest and number. -/
import Derived.Test.YtaeeogighoobdaaJoinTreeChildrenC
import Derived.Test.YtaeeogighoobdaaJtr
namespace Go.Proofs.Ytaeeogighoobdaa.JoinTreeChildrenW
open Go.RowKit
open Go.Proofs.Ytaeeogighoobdaa.Num Go.Proofs.Ytaeeogighoobdaa.IntRow Go.Proofs.Ytaeeogighoobdaa.Rdr Go.Proofs.Ytaeeogighoobdaa.Dat Go.Proofs.Ytaeeogighoobdaa.Forest Go.Proofs.Ytaeeogighoobdaa.Jtr
set_option linter.unusedVariables false

theorem walk (cs0 : List Value) (x0 : List Int) (n1 : Int) (h1 : -9223372036854775808 ≤ n1 ∧ n1 ≤ 9223372036854775807) (w : World) (r0 : rRow w 0 w.heap.size cs0 x0) :
    Calls Try.prog 8 #[.agg cs0.toArray, .int .i64 n1] w fun e w' => e = .returned (.bool true) ∧ Below w.heap.size w w' :=
  JoinTreeChildrenC.walk cs0 x0 n1 w r0 (fun hs => ⟨chl x0 n1, by have := chl_len x0 n1; unfold szF at hs; omega,
    fun W d0 g0 => spec_chl d0 x0 n1 0 W.heap.size W hs g0 (Nat.le_refl _),
    fun W d0 g0 => impl_chl d0 x0 n1 0 W.heap.size W hs g0 (Nat.le_refl _)⟩)
end Go.Proofs.Ytaeeogighoobdaa.JoinTreeChildrenW
