/- The walk of law FnExactConnectedComponents, at every query, where the table of math/bits lies as its text lays it. -/
import Derived.Test.YtffhfnkcbgbliaaDoorConnectedComponentsC
import Derived.Test.YtffhfnkcbgbliaaDoorCmpS
namespace Go.Proofs.YtffhfnkcbgbliaaDoor.ConnectedComponentsW
open Go.RowKit
open Go.Proofs.YtffhfnkcbgbliaaDoor.Num Go.Proofs.YtffhfnkcbgbliaaDoor.IntRow Go.Proofs.YtffhfnkcbgbliaaDoor.Rdr Go.Proofs.YtffhfnkcbgbliaaDoor.Dat Go.Proofs.YtffhfnkcbgbliaaDoor.SetV Go.Proofs.YtffhfnkcbgbliaaDoor.SetI Go.Proofs.YtffhfnkcbgbliaaDoor.SetA Go.Proofs.YtffhfnkcbgbliaaDoor.CmpI Go.Proofs.YtffhfnkcbgbliaaDoor.CmpS
set_option linter.unusedVariables false

theorem walk (cs0 : List Value) (x0 : QueryD) (w : World) (hT : Tab w) (r0 : rQuery w 0 w.heap.size cs0 x0) :
    Calls Tryd.prog 5 #[.agg cs0.toArray] w fun e w' => e = .returned (.bool true) ∧ Below w.heap.size w w' :=
  ConnectedComponentsC.walk cs0 x0 w r0 (fun hs => ⟨ccs x0, ccs_tot x0,
    fun W d0 g0 hW => spec_cc d0 x0 0 W.heap.size W hs g0 (Nat.le_refl _),
    fun W d0 g0 hW => impl_cc d0 x0 0 W.heap.size W hs g0 (Nat.le_refl _) (hT.below hW)⟩)
end Go.Proofs.YtffhfnkcbgbliaaDoor.ConnectedComponentsW
