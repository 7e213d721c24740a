/- The walk of law FnExactIsValidJoinTree, at every query and every forest. -/
import Derived.Test.YtaeeogighoobdaaIsValidJoinTreeC
import Derived.Test.YtaeeogighoobdaaJtvI
import Derived.Test.YtaeeogighoobdaaJtvS
namespace Go.Proofs.Ytaeeogighoobdaa.IsValidJoinTreeW
open Go.RowKit
open Go.Proofs.Ytaeeogighoobdaa.Num Go.Proofs.Ytaeeogighoobdaa.IntRow Go.Proofs.Ytaeeogighoobdaa.Rdr Go.Proofs.Ytaeeogighoobdaa.Dat Go.Proofs.Ytaeeogighoobdaa.Forest Go.Proofs.Ytaeeogighoobdaa.JtvP Go.Proofs.Ytaeeogighoobdaa.JtvI Go.Proofs.Ytaeeogighoobdaa.JtvS
set_option linter.unusedVariables false

theorem walk (cs0 : List Value) (x0 : QueryD) (cs1 : List Value) (x1 : List Int) (w : World) (r0 : rQuery w 0 w.heap.size cs0 x0) (r1 : rRow w 0 w.heap.size cs1 x1) :
    Calls Try.prog 6 #[.agg cs0.toArray, .agg cs1.toArray] w fun e w' => e = .returned (.bool true) ∧ Below w.heap.size w w' :=
  IsValidJoinTreeC.walk cs0 x0 cs1 x1 w r0 r1 (fun hs => ⟨vjt x0 x1,
    fun W d0 d1 h0 h1 => spec_vjt d0 d1 x0 x1 0 W.heap.size 0 W.heap.size W (by omega) (by omega) h0 h1 (Nat.le_refl _) (Nat.le_refl _),
    fun W d0 d1 h0 h1 => impl_vjt d0 d1 x0 x1 0 W.heap.size 0 W.heap.size W (by omega) (by omega) h0 h1 (Nat.le_refl _) (Nat.le_refl _)⟩)
end Go.Proofs.Ytaeeogighoobdaa.IsValidJoinTreeW
