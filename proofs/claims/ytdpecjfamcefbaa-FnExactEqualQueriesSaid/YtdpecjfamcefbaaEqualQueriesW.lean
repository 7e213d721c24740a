/- The walk of law FnExactEqualQueries, at every two queries. -/
import Derived.Test.YtdpecjfamcefbaaEqualQueriesC
import Derived.Test.YtdpecjfamcefbaaQryEq
import Derived.Test.YtdpecjfamcefbaaQryEqS
namespace Go.Proofs.Ytdpecjfamcefbaa.EqualQueriesW
open Go.RowKit
open Go.Proofs.Ytdpecjfamcefbaa.Num Go.Proofs.Ytdpecjfamcefbaa.IntRow Go.Proofs.Ytdpecjfamcefbaa.Rdr Go.Proofs.Ytdpecjfamcefbaa.Dat Go.Proofs.Ytdpecjfamcefbaa.QryP Go.Proofs.Ytdpecjfamcefbaa.QryEq Go.Proofs.Ytdpecjfamcefbaa.QryEqS
set_option linter.unusedVariables false

theorem walk (cs0 : List Value) (x0 : QueryD) (cs1 : List Value) (x1 : QueryD) (w : World) (r0 : rQuery w 0 w.heap.size cs0 x0) (r1 : rQuery w 0 w.heap.size cs1 x1) :
    Calls Try.prog 11 #[.agg cs0.toArray, .agg cs1.toArray] w fun e w' => e = .returned (.bool true) ∧ Below w.heap.size w w' :=
  EqualQueriesC.walk cs0 x0 cs1 x1 w r0 r1 (fun hs => ⟨eqQ x0 x1,
    fun W d0 d1 h0 h1 => spec_eqq d0 d1 x0 x1 0 W.heap.size 0 W.heap.size W (by omega) (by omega) h0 h1 (Nat.le_refl _) (Nat.le_refl _),
    fun W d0 d1 h0 h1 => impl_eqq d0 d1 x0 x1 0 W.heap.size 0 W.heap.size W (by omega) (by omega) h0 h1 (Nat.le_refl _) (Nat.le_refl _)⟩)
end Go.Proofs.Ytdpecjfamcefbaa.EqualQueriesW
