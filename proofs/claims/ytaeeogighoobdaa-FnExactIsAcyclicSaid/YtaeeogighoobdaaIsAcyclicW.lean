/- The walk of law FnExactIsAcyclic, at every query. -/
import Derived.Test.YtaeeogighoobdaaIsAcyclicC
import Derived.Test.YtaeeogighoobdaaAcy
namespace Go.Proofs.Ytaeeogighoobdaa.IsAcyclicW
open Go.RowKit
open Go.Proofs.Ytaeeogighoobdaa.Num Go.Proofs.Ytaeeogighoobdaa.IntRow Go.Proofs.Ytaeeogighoobdaa.Rdr Go.Proofs.Ytaeeogighoobdaa.Dat Go.Proofs.Ytaeeogighoobdaa.Acy
set_option linter.unusedVariables false

theorem walk (cs0 : List Value) (x0 : QueryD) (w : World) (r0 : rQuery w 0 w.heap.size cs0 x0) :
    Calls Try.prog 4 #[.agg cs0.toArray] w fun e w' => e = .returned (.bool true) ∧ Below w.heap.size w w' :=
  IsAcyclicC.walk cs0 x0 w r0 (fun hs => ⟨acyc x0,
    fun W d0 h0 => spec_acyc d0 x0 0 W.heap.size W hs h0 (Nat.le_refl _),
    fun W d0 h0 => impl_acyc d0 x0 0 W.heap.size W hs h0 (Nat.le_refl _)⟩)
end Go.Proofs.Ytaeeogighoobdaa.IsAcyclicW
