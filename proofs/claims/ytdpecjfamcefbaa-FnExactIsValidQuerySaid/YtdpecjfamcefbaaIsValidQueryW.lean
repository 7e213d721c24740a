/- The walk of law FnExactIsValidQuery, at every query. -/
import Derived.Test.YtdpecjfamcefbaaIsValidQueryC
import Derived.Test.YtdpecjfamcefbaaQryVI
import Derived.Test.YtdpecjfamcefbaaQryVS
namespace Go.Proofs.Ytdpecjfamcefbaa.IsValidQueryW
open Go.RowKit
open Go.Proofs.Ytdpecjfamcefbaa.Num Go.Proofs.Ytdpecjfamcefbaa.IntRow Go.Proofs.Ytdpecjfamcefbaa.Rdr Go.Proofs.Ytdpecjfamcefbaa.Dat Go.Proofs.Ytdpecjfamcefbaa.QryP Go.Proofs.Ytdpecjfamcefbaa.QryVI Go.Proofs.Ytdpecjfamcefbaa.QryVS
set_option linter.unusedVariables false

theorem walk (cs0 : List Value) (x0 : QueryD) (w : World) (r0 : rQuery w 0 w.heap.size cs0 x0) :
    Calls Try.prog 7 #[.agg cs0.toArray] w fun e w' => e = .returned (.bool true) ∧ Below w.heap.size w w' :=
  IsValidQueryC.walk cs0 x0 w r0 (fun hs => ⟨vq x0,
    fun W d0 h0 => spec_vq d0 x0 0 W.heap.size W hs h0 (Nat.le_refl _),
    fun W d0 h0 => impl_vq d0 x0 0 W.heap.size W hs h0 (Nat.le_refl _)⟩)
end Go.Proofs.Ytdpecjfamcefbaa.IsValidQueryW
