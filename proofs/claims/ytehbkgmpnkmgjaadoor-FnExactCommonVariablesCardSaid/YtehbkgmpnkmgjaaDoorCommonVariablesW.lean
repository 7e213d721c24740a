/- The walk of law FnExactCommonVariables, at every two atoms, where the table of math/bits lies as its text lays it. -/
import Derived.Test.YtehbkgmpnkmgjaaDoorCommonVariablesC
import Derived.Test.YtehbkgmpnkmgjaaDoorSetA
namespace Go.Proofs.YtehbkgmpnkmgjaaDoor.CommonVariablesW
open Go.RowKit
open Go.Proofs.YtehbkgmpnkmgjaaDoor.Num Go.Proofs.YtehbkgmpnkmgjaaDoor.IntRow Go.Proofs.YtehbkgmpnkmgjaaDoor.Rdr Go.Proofs.YtehbkgmpnkmgjaaDoor.Dat Go.Proofs.YtehbkgmpnkmgjaaDoor.SetV Go.Proofs.YtehbkgmpnkmgjaaDoor.SetI Go.Proofs.YtehbkgmpnkmgjaaDoor.SetA
set_option linter.unusedVariables false

theorem walk (cs0 : List Value) (x0 : AtomD) (cs1 : List Value) (x1 : AtomD) (w : World) (hT : Tab w) (r0 : rAtom w 0 w.heap.size cs0 x0) (r1 : rAtom w 0 w.heap.size cs1 x1) :
    Calls Tryd.prog 5 #[.agg cs0.toArray, .agg cs1.toArray] w fun e w' => e = .returned (.bool true) ∧ Below w.heap.size w w' :=
  CommonVariablesC.walk cs0 x0 cs1 x1 w r0 r1 (fun hs => ⟨fl (fun v => mem x0.2 v && mem x1.2 v) 5, by have := fl_len (fun v => mem x0.2 v && mem x1.2 v) 5; omega,
    fun W d0 d1 h0 h1 hW => spec_common d0 d1 x0 x1 0 W.heap.size 0 W.heap.size W (by unfold szA at hs; omega) (by unfold szA at hs; omega) h0 h1 (Nat.le_refl _) (Nat.le_refl _),
    fun W d0 d1 h0 h1 hW => impl_common d0 d1 x0 x1 0 W.heap.size 0 W.heap.size W (by unfold szA at hs; omega) (by unfold szA at hs; omega) h0 h1 (Nat.le_refl _) (Nat.le_refl _) (hT.below hW)⟩)
end Go.Proofs.YtehbkgmpnkmgjaaDoor.CommonVariablesW
