/- The walk of law FnExactIsValidVarRelation, at every labeled relation, where the table of math/bits lies as its text lays it. -/
import Derived.Test.YtffhfnkcbgbliaaDoorIsValidVarRelationC
import Derived.Test.YtffhfnkcbgbliaaDoorVvr
namespace Go.Proofs.YtffhfnkcbgbliaaDoor.IsValidVarRelationW
open Go.RowKit
open Go.Proofs.YtffhfnkcbgbliaaDoor.Num Go.Proofs.YtffhfnkcbgbliaaDoor.IntRow Go.Proofs.YtffhfnkcbgbliaaDoor.Rdr Go.Proofs.YtffhfnkcbgbliaaDoor.Dat Go.Proofs.YtffhfnkcbgbliaaDoor.SetV Go.Proofs.YtffhfnkcbgbliaaDoor.SetI Go.Proofs.YtffhfnkcbgbliaaDoor.SetA Go.Proofs.YtffhfnkcbgbliaaDoor.Vrl Go.Proofs.YtffhfnkcbgbliaaDoor.Vvr
set_option linter.unusedVariables false

theorem walk (cs0 : List Value) (x0 : VrelD) (w : World) (hT : Tab w) (r0 : rVrel w 0 w.heap.size cs0 x0) :
    Calls Tryd.prog 3 #[.agg cs0.toArray] w fun e w' => e = .returned (.bool true) ∧ Below w.heap.size w w' :=
  IsValidVarRelationC.walk cs0 x0 w r0 (fun hs => ⟨vvr x0,
    fun W d0 g0 hW => spec_vvr d0 x0 0 W.heap.size W hs g0 (Nat.le_refl _),
    fun W d0 g0 hW => impl_vvr d0 x0 0 W.heap.size W hs g0 (Nat.le_refl _) (hT.below hW)⟩)
end Go.Proofs.YtffhfnkcbgbliaaDoor.IsValidVarRelationW
