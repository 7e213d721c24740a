/- The walk of law FnExactAtomVariables, at every atom, where the table of math/bits lies as its text lays it. -/
import Derived.Test.YtehbkgmpnkmgjaaDoorAtomVariablesC
import Derived.Test.YtehbkgmpnkmgjaaDoorSetA
namespace Go.Proofs.YtehbkgmpnkmgjaaDoor.AtomVariablesW
open Go.RowKit
open Go.Proofs.YtehbkgmpnkmgjaaDoor.Num Go.Proofs.YtehbkgmpnkmgjaaDoor.IntRow Go.Proofs.YtehbkgmpnkmgjaaDoor.Rdr Go.Proofs.YtehbkgmpnkmgjaaDoor.Dat Go.Proofs.YtehbkgmpnkmgjaaDoor.AtmVars Go.Proofs.YtehbkgmpnkmgjaaDoor.SetI Go.Proofs.YtehbkgmpnkmgjaaDoor.SetA
set_option linter.unusedVariables false

theorem walk (cs0 : List Value) (x0 : AtomD) (w : World) (hT : Tab w) (r0 : rAtom w 0 w.heap.size cs0 x0) :
    Calls Tryd.prog 7 #[.agg cs0.toArray] w fun e w' => e = .returned (.bool true) ∧ Below w.heap.size w w' :=
  AtomVariablesC.walk cs0 x0 w r0 (fun hs => ⟨avs x0.2 5, by have := avs_len x0.2 5; omega,
    fun W d0 h0 hW => spec_avars d0 x0 0 W.heap.size W (by unfold szA at hs; omega) h0 (Nat.le_refl _),
    fun W d0 h0 hW => impl_avars d0 x0 0 W.heap.size W (by unfold szA at hs; omega) h0 (Nat.le_refl _) (hT.below hW)⟩)
end Go.Proofs.YtehbkgmpnkmgjaaDoor.AtomVariablesW
