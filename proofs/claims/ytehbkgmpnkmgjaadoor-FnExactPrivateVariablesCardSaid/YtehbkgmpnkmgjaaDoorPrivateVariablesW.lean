/- The walk of law FnExactPrivateVariables, at every query and number, where the table of math/bits lies as its text lays it. -/
import Derived.Test.YtehbkgmpnkmgjaaDoorPrivateVariablesC
import Derived.Test.YtehbkgmpnkmgjaaDoorPrv
namespace Go.Proofs.YtehbkgmpnkmgjaaDoor.PrivateVariablesW
open Go.RowKit
open Go.Proofs.YtehbkgmpnkmgjaaDoor.Num Go.Proofs.YtehbkgmpnkmgjaaDoor.IntRow Go.Proofs.YtehbkgmpnkmgjaaDoor.Rdr Go.Proofs.YtehbkgmpnkmgjaaDoor.Dat Go.Proofs.YtehbkgmpnkmgjaaDoor.SetV Go.Proofs.YtehbkgmpnkmgjaaDoor.SetI Go.Proofs.YtehbkgmpnkmgjaaDoor.SetA Go.Proofs.YtehbkgmpnkmgjaaDoor.Prv
set_option linter.unusedVariables false

theorem walk (cs0 : List Value) (x0 : QueryD) (n1 : Int) (h1 : -9223372036854775808 ≤ n1 ∧ n1 ≤ 9223372036854775807) (w : World) (hT : Tab w) (r0 : rQuery w 0 w.heap.size cs0 x0) :
    Calls Tryd.prog 6 #[.agg cs0.toArray, .int .i64 n1] w fun e w' => e = .returned (.bool true) ∧ Below w.heap.size w w' :=
  PrivateVariablesC.walk cs0 x0 n1 w r0 (fun hs => ⟨prv x0 n1, by have := prv_len x0 n1; omega,
    fun W d0 g0 hW => spec_prv d0 x0 n1 0 W.heap.size W hs g0 (Nat.le_refl _),
    fun W d0 g0 hW => impl_prv d0 x0 n1 0 W.heap.size W hs g0 (Nat.le_refl _) (hT.below hW)⟩)
end Go.Proofs.YtehbkgmpnkmgjaaDoor.PrivateVariablesW
