/- The walk of law FnExactIsQueryFor, at every database and query. -/
import Derived.Test.YtbafhahmpflnjaaIsQueryForC
import Derived.Test.YtbafhahmpflnjaaQryForI
import Derived.Test.YtbafhahmpflnjaaQryForW
namespace Go.Proofs.Ytbafhahmpflnjaa.IsQueryForW
open Go.RowKit
open Go.Proofs.Ytbafhahmpflnjaa.Num Go.Proofs.Ytbafhahmpflnjaa.IntRow Go.Proofs.Ytbafhahmpflnjaa.Rdr Go.Proofs.Ytbafhahmpflnjaa.Dat Go.Proofs.Ytbafhahmpflnjaa.QryFor Go.Proofs.Ytbafhahmpflnjaa.QryForI Go.Proofs.Ytbafhahmpflnjaa.QryForW
set_option linter.unusedVariables false

theorem walk (cs0 : List Value) (x0 : List TableD) (cs1 : List Value) (x1 : QueryD) (w : World) (r0 : rDb w 0 w.heap.size cs0 x0) (r1 : rQuery w 0 w.heap.size cs1 x1) :
    Calls Try.prog 3 #[.agg cs0.toArray, .agg cs1.toArray] w fun e w' => e = .returned (.bool true) ∧ Below w.heap.size w w' :=
  IsQueryForC.walk cs0 x0 cs1 x1 w r0 r1 (fun hs => ⟨qf x0 x1,
    fun W d0 d1 h0 h1 => spec_qf d0 d1 x0 x1 0 W.heap.size 0 W.heap.size W (by omega) (by omega) h0 h1 (Nat.le_refl _) (Nat.le_refl _),
    fun W d0 d1 h0 h1 => impl_qf d0 d1 x0 x1 0 W.heap.size 0 W.heap.size W (by omega) (by omega) h0 h1 (Nat.le_refl _) (Nat.le_refl _)⟩)
end Go.Proofs.Ytbafhahmpflnjaa.IsQueryForW
