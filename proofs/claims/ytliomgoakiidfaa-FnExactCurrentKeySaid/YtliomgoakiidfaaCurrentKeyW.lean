/- Law FnExactCurrentKey at every argument. -/
import Derived.Test.YtliomgoakiidfaaCurrentKeyC
import Derived.Test.YtliomgoakiidfaaItEnd
namespace Go.Proofs.Ytliomgoakiidfaa.CurrentKeyW
open Go.RowKit
open Go.Proofs.Ytliomgoakiidfaa.Num Go.Proofs.Ytliomgoakiidfaa.IntRow Go.Proofs.Ytliomgoakiidfaa.Grid Go.Proofs.Ytliomgoakiidfaa.GridLaw Go.Proofs.Ytliomgoakiidfaa.RelKit Go.Proofs.Ytliomgoakiidfaa.Asc Go.Proofs.Ytliomgoakiidfaa.Rdr Go.Proofs.Ytliomgoakiidfaa.ItLaw Go.Proofs.Ytliomgoakiidfaa.CurrentKeyC Go.Proofs.Ytliomgoakiidfaa.ItQ Go.Proofs.Ytliomgoakiidfaa.ItEnd
set_option linter.unusedVariables false
set_option linter.unusedSimpArgs false

set_option maxRecDepth 100000 in
theorem walk (cs0 : List Value) (x0 : ItD) (w : World) (q0 : rIt w 0 w.heap.size cs0 x0) :
    Calls Try.prog 10 #[.agg cs0.toArray] w fun e w' => e = .returned (.bool true) ∧ Below w.heap.size w w' := by
  obtain ⟨⟨n0, xss0⟩, L0, H0, P0⟩ := x0
  obtain ⟨a0, cap0, l0, capl0, h0, caph0, p0, capp0, rfl, r0, k0⟩ := it_open q0
  exact CurrentKeyC.walk n0 a0 l0 h0 p0 cap0 capl0 caph0 capp0 xss0 L0 H0 P0 w k0 r0 fun ht => ⟨curV n0 xss0 L0 H0 P0, curOk n0 xss0 L0 H0 P0, fun W aw0 lw0 hw0 pw0 capw0 caplw0 caphw0 cappw0 r0w => spec_cur n0 _ _ _ _ _ _ _ _ xss0 L0 H0 P0 _ W ht r0w (Nat.le_refl _), fun W aw0 lw0 hw0 pw0 capw0 caplw0 caphw0 cappw0 r0w => impl_cur n0 _ _ _ _ _ _ _ _ xss0 L0 H0 P0 _ W ht r0w (Nat.le_refl _)⟩
end Go.Proofs.Ytliomgoakiidfaa.CurrentKeyW
