/- The walk of law FnExactRemovableAtoms, at every query. -/
import Derived.Test.YtaeeogighoobdaaRemovableAtomsC
import Derived.Test.YtaeeogighoobdaaRmv
namespace Go.Proofs.Ytaeeogighoobdaa.RemovableAtomsW
open Go.RowKit
open Go.Proofs.Ytaeeogighoobdaa.Num Go.Proofs.Ytaeeogighoobdaa.IntRow Go.Proofs.Ytaeeogighoobdaa.Rdr Go.Proofs.Ytaeeogighoobdaa.Dat Go.Proofs.Ytaeeogighoobdaa.Rmv
set_option linter.unusedVariables false

theorem walk (cs0 : List Value) (x0 : QueryD) (w : World) (r0 : rQuery w 0 w.heap.size cs0 x0) :
    Calls Try.prog 3 #[.agg cs0.toArray] w fun e w' => e = .returned (.bool true) ∧ Below w.heap.size w w' :=
  RemovableAtomsC.walk cs0 x0 w r0 (fun hs => ⟨rmv x0, by have := rmv_len x0; omega,
    fun W d0 g0 => spec_rmv d0 x0 0 W.heap.size W hs g0 (Nat.le_refl _),
    fun W d0 g0 => impl_rmv d0 x0 0 W.heap.size W hs g0 (Nat.le_refl _)⟩)
end Go.Proofs.Ytaeeogighoobdaa.RemovableAtomsW
