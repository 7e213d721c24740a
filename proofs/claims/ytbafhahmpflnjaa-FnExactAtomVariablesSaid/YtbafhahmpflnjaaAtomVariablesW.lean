/- The walk of law FnExactAtomVariables, at every atom. -/
import Derived.Test.YtbafhahmpflnjaaAtomVariablesC
import Derived.Test.YtbafhahmpflnjaaAtmVars
namespace Go.Proofs.Ytbafhahmpflnjaa.AtomVariablesW
open Go.RowKit
open Go.Proofs.Ytbafhahmpflnjaa.Num Go.Proofs.Ytbafhahmpflnjaa.IntRow Go.Proofs.Ytbafhahmpflnjaa.Rdr Go.Proofs.Ytbafhahmpflnjaa.Dat Go.Proofs.Ytbafhahmpflnjaa.AtmVars
set_option linter.unusedVariables false

theorem walk (cs0 : List Value) (x0 : AtomD) (w : World) (r0 : rAtom w 0 w.heap.size cs0 x0) :
    Calls Try.prog 4 #[.agg cs0.toArray] w fun e w' => e = .returned (.bool true) ∧ Below w.heap.size w w' :=
  AtomVariablesC.walk cs0 x0 w r0 (fun hs => ⟨avs x0.2 5, by have := avs_len x0.2 5; omega,
    fun W d0 h0 => spec_avars d0 x0 0 W.heap.size W (by unfold szA at hs; omega) h0 (Nat.le_refl _),
    fun W d0 h0 => impl_avars d0 x0 0 W.heap.size W (by unfold szA at hs; omega) h0 (Nat.le_refl _)⟩)
end Go.Proofs.Ytbafhahmpflnjaa.AtomVariablesW
