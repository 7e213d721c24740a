/- The walk of law FnExactBuildJoinTree, at every query. -/
import Derived.Test.YtaeeogighoobdaaBuildJoinTreeC
import Derived.Test.YtaeeogighoobdaaAcy
namespace Go.Proofs.Ytaeeogighoobdaa.BuildJoinTreeW
open Go.RowKit
open Go.Proofs.Ytaeeogighoobdaa.Num Go.Proofs.Ytaeeogighoobdaa.IntRow Go.Proofs.Ytaeeogighoobdaa.Rdr Go.Proofs.Ytaeeogighoobdaa.Dat Go.Proofs.Ytaeeogighoobdaa.Acy
set_option linter.unusedVariables false

theorem walk (cs0 : List Value) (x0 : QueryD) (w : World) (r0 : rQuery w 0 w.heap.size cs0 x0) :
    Calls Try.prog 5 #[.agg cs0.toArray] w fun e w' => e = .returned (.bool true) ∧ Below w.heap.size w w' :=
  BuildJoinTreeC.walk cs0 x0 w r0 (fun hs => ⟨bj x0, acyc x0, by have := bj_len x0; omega,
    fun W d0 g0 => spec_build d0 x0 0 W.heap.size W hs g0 (Nat.le_refl _),
    fun W d0 g0 => impl_build d0 x0 0 W.heap.size W hs g0 (Nat.le_refl _)⟩)
end Go.Proofs.Ytaeeogighoobdaa.BuildJoinTreeW
