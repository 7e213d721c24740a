/- The walk of law FnExactIsAtomSubset, at every two atoms. -/
import Derived.Test.YtehbkgmpnkmgjaaIsAtomSubsetC
import Derived.Test.YtehbkgmpnkmgjaaSubA
namespace Go.Proofs.Ytehbkgmpnkmgjaa.IsAtomSubsetW
open Go.RowKit
open Go.Proofs.Ytehbkgmpnkmgjaa.Num Go.Proofs.Ytehbkgmpnkmgjaa.IntRow Go.Proofs.Ytehbkgmpnkmgjaa.Rdr Go.Proofs.Ytehbkgmpnkmgjaa.Dat Go.Proofs.Ytehbkgmpnkmgjaa.SubA
set_option linter.unusedVariables false

theorem walk (cs0 : List Value) (x0 : AtomD) (h0 : ∀ z ∈ x0.2, (Lit.int .i64 z).wf = true) (cs1 : List Value) (x1 : AtomD) (h1 : ∀ z ∈ x1.2, (Lit.int .i64 z).wf = true) (w : World) (r0 : rAtom w 0 w.heap.size cs0 x0) (r1 : rAtom w 0 w.heap.size cs1 x1) :
    Calls Try.prog 4 #[.agg cs0.toArray, .agg cs1.toArray] w fun e w' => e = .returned (.bool true) ∧ Below w.heap.size w w' :=
  IsAtomSubsetC.walk cs0 x0 cs1 x1 w r0 r1 (fun hs => ⟨sub x0.2 x1.2,
    fun W d0 d1 g0 g1 => spec_sub d0 d1 x0 x1 0 W.heap.size 0 W.heap.size W (by unfold szA at hs; omega) (by unfold szA at hs; omega) g0 g1 (Nat.le_refl _) (Nat.le_refl _),
    fun W d0 d1 g0 g1 => impl_sub d0 d1 x0 x1 0 W.heap.size 0 W.heap.size W (by unfold szA at hs; omega) (by unfold szA at hs; omega) h0 h1 g0 g1 (Nat.le_refl _) (Nat.le_refl _)⟩)
end Go.Proofs.Ytehbkgmpnkmgjaa.IsAtomSubsetW
