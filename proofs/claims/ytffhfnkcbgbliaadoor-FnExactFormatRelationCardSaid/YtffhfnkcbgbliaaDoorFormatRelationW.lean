/- The walk of law FnExactFormatRelation, at every relation. -/
import Derived.Test.YtffhfnkcbgbliaaDoorFormatRelationC
import Derived.Test.YtffhfnkcbgbliaaDoorFrelQ
namespace Go.Proofs.YtffhfnkcbgbliaaDoor.FormatRelationW
open Go.RowKit
open Go.Proofs.YtffhfnkcbgbliaaDoor.Num Go.Proofs.YtffhfnkcbgbliaaDoor.IntRow Go.Proofs.YtffhfnkcbgbliaaDoor.Rdr Go.Proofs.YtffhfnkcbgbliaaDoor.Dat Go.Proofs.YtffhfnkcbgbliaaDoor.RelR Go.Proofs.YtffhfnkcbgbliaaDoor.FrelP Go.Proofs.YtffhfnkcbgbliaaDoor.FrelQ
set_option linter.unusedVariables false

theorem walk (cs0 : List Value) (x0 : RelD) (w : World) (r0 : rRel w 0 w.heap.size cs0 x0) :
    Calls Tryd.prog 4 #[.agg cs0.toArray] w fun e w' => e = .returned (.bool true) ∧ Below w.heap.size w w' :=
  FormatRelationC.walk cs0 x0 w r0 (fun hs => ⟨fr x0,
    fun W d0 h0 => spec_fr d0 x0 0 W.heap.size W (by rw [← szR_tot]; exact hs) h0 (Nat.le_refl _),
    fun W d0 h0 => impl_fr d0 x0 0 W.heap.size W (by rw [← szR_tot]; exact hs) h0 (Nat.le_refl _)⟩)
end Go.Proofs.YtffhfnkcbgbliaaDoor.FormatRelationW
