/- The walk of law FnExactIsValidDatabase, at every database. -/
import Derived.Test.YtdpecjfamcefbaaIsValidDatabaseC
import Derived.Test.YtdpecjfamcefbaaDbVI
import Derived.Test.YtdpecjfamcefbaaDbVS
namespace Go.Proofs.Ytdpecjfamcefbaa.IsValidDatabaseW
open Go.RowKit
open Go.Proofs.Ytdpecjfamcefbaa.Num Go.Proofs.Ytdpecjfamcefbaa.IntRow Go.Proofs.Ytdpecjfamcefbaa.Rdr Go.Proofs.Ytdpecjfamcefbaa.Dat Go.Proofs.Ytdpecjfamcefbaa.DbP Go.Proofs.Ytdpecjfamcefbaa.DbVI Go.Proofs.Ytdpecjfamcefbaa.DbVS
set_option linter.unusedVariables false

theorem walk (cs0 : List Value) (x0 : List TableD) (w : World) (r0 : rDb w 0 w.heap.size cs0 x0) :
    Calls Try.prog 3 #[.agg cs0.toArray] w fun e w' => e = .returned (.bool true) ∧ Below w.heap.size w w' :=
  IsValidDatabaseC.walk cs0 x0 w r0 (fun hs => ⟨vDb x0,
    fun W d0 h0 => spec_vdb d0 x0 0 W.heap.size W hs h0 (Nat.le_refl _),
    fun W d0 h0 => impl_vdb d0 x0 0 W.heap.size W hs h0 (Nat.le_refl _)⟩)
end Go.Proofs.Ytdpecjfamcefbaa.IsValidDatabaseW
