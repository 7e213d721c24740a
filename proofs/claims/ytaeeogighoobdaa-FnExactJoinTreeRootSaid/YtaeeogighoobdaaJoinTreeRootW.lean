/- The walk of law FnExactJoinTreeRoot, at every forest. -/
import Derived.Test.YtaeeogighoobdaaJoinTreeRootC
import Derived.Test.YtaeeogighoobdaaJtr
namespace Go.Proofs.Ytaeeogighoobdaa.JoinTreeRootW
open Go.RowKit
open Go.Proofs.Ytaeeogighoobdaa.Num Go.Proofs.Ytaeeogighoobdaa.IntRow Go.Proofs.Ytaeeogighoobdaa.Rdr Go.Proofs.Ytaeeogighoobdaa.Dat Go.Proofs.Ytaeeogighoobdaa.Jtr
set_option linter.unusedVariables false

theorem walk (cs0 : List Value) (x0 : List Int) (w : World) (r0 : rRow w 0 w.heap.size cs0 x0) :
    Calls Try.prog 7 #[.agg cs0.toArray] w fun e w' => e = .returned (.bool true) ∧ Below w.heap.size w w' :=
  JoinTreeRootC.walk cs0 x0 w r0 (fun hs => ⟨jroot x0,
    fun W d0 h0 => spec_root d0 x0 0 W.heap.size W hs h0 (Nat.le_refl _),
    fun W d0 h0 => impl_root d0 x0 0 W.heap.size W hs h0 (Nat.le_refl _)⟩)
end Go.Proofs.Ytaeeogighoobdaa.JoinTreeRootW
