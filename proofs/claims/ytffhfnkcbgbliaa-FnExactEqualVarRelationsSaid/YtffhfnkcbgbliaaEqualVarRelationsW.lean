/- The walk of law FnExactEqualVarRelations, at every two labeled relations. -/
import Derived.Test.YtffhfnkcbgbliaaEqualVarRelationsC
import Derived.Test.YtffhfnkcbgbliaaVrlEq
namespace Go.Proofs.Ytffhfnkcbgbliaa.EqualVarRelationsW
open Go.RowKit
open Go.Proofs.Ytffhfnkcbgbliaa.Num Go.Proofs.Ytffhfnkcbgbliaa.IntRow Go.Proofs.Ytffhfnkcbgbliaa.Rdr Go.Proofs.Ytffhfnkcbgbliaa.Dat Go.Proofs.Ytffhfnkcbgbliaa.Vrl Go.Proofs.Ytffhfnkcbgbliaa.VrlEq
set_option linter.unusedVariables false

theorem walk (cs0 : List Value) (x0 : VrelD) (cs1 : List Value) (x1 : VrelD) (w : World) (r0 : rVrel w 0 w.heap.size cs0 x0) (r1 : rVrel w 0 w.heap.size cs1 x1) :
    Calls Try.prog 3 #[.agg cs0.toArray, .agg cs1.toArray] w fun e w' => e = .returned (.bool true) ∧ Below w.heap.size w w' :=
  EqualVarRelationsC.walk cs0 x0 cs1 x1 w r0 r1 (fun hs => ⟨eqV x0 x1,
    fun W d0 d1 h0 h1 => spec_eqv d0 d1 x0 x1 0 W.heap.size 0 W.heap.size W (by omega) (by omega) h0 h1 (Nat.le_refl _) (Nat.le_refl _),
    fun W d0 d1 h0 h1 => impl_eqv d0 d1 x0 x1 0 W.heap.size 0 W.heap.size W (by omega) (by omega) h0 h1 (Nat.le_refl _) (Nat.le_refl _)⟩)
end Go.Proofs.Ytffhfnkcbgbliaa.EqualVarRelationsW
