/- Law FnExactEqualIterators at every argument. -/
import Derived.Test.YtliomgoakiidfaaEqualIteratorsC
import Derived.Test.YtliomgoakiidfaaItEq
namespace Go.Proofs.Ytliomgoakiidfaa.EqualIteratorsW
open Go.RowKit
open Go.Proofs.Ytliomgoakiidfaa.Num Go.Proofs.Ytliomgoakiidfaa.IntRow Go.Proofs.Ytliomgoakiidfaa.Grid Go.Proofs.Ytliomgoakiidfaa.GridLaw Go.Proofs.Ytliomgoakiidfaa.RelKit Go.Proofs.Ytliomgoakiidfaa.Asc Go.Proofs.Ytliomgoakiidfaa.Rdr Go.Proofs.Ytliomgoakiidfaa.ItLaw Go.Proofs.Ytliomgoakiidfaa.EqualIteratorsC Go.Proofs.Ytliomgoakiidfaa.ItEq
set_option linter.unusedVariables false
set_option linter.unusedSimpArgs false

set_option maxRecDepth 100000 in
theorem walk (cs0 : List Value) (x0 : ItD) (cs1 : List Value) (x1 : ItD) (w : World) (q0 : rIt w 0 w.heap.size cs0 x0) (q1 : rIt w 0 w.heap.size cs1 x1) :
    Calls Try.prog 14 #[.agg cs0.toArray, .agg cs1.toArray] w fun e w' => e = .returned (.bool true) ∧ Below w.heap.size w w' := by
  obtain ⟨⟨n0, xss0⟩, L0, H0, P0⟩ := x0
  obtain ⟨a0, cap0, l0, capl0, h0, caph0, p0, capp0, rfl, r0, k0⟩ := it_open q0
  obtain ⟨⟨n1, xss1⟩, L1, H1, P1⟩ := x1
  obtain ⟨a1, cap1, l1, capl1, h1, caph1, p1, capp1, rfl, r1, k1⟩ := it_open q1
  exact EqualIteratorsC.walk n0 a0 l0 h0 p0 cap0 capl0 caph0 capp0 xss0 L0 H0 P0 n1 a1 l1 h1 p1 cap1 capl1 caph1 capp1 xss1 L1 H1 P1 w k0 k1 r0 r1 fun ht => ⟨eqI n0 n1 xss0 xss1 L0 L1 H0 H1 P0 P1, fun W aw0 lw0 hw0 pw0 capw0 caplw0 caphw0 cappw0 aw1 lw1 hw1 pw1 capw1 caplw1 caphw1 cappw1 r0w r1w => spec_eqi n0 _ _ _ _ _ _ _ _ xss0 L0 H0 P0 _ n1 _ _ _ _ _ _ _ _ xss1 L1 H1 P1 _ W (by omega) r0w (Nat.le_refl _) (by omega) r1w (Nat.le_refl _), fun W aw0 lw0 hw0 pw0 capw0 caplw0 caphw0 cappw0 aw1 lw1 hw1 pw1 capw1 caplw1 caphw1 cappw1 r0w r1w => impl_eqi n0 _ _ _ _ _ _ _ _ xss0 L0 H0 P0 _ n1 _ _ _ _ _ _ _ _ xss1 L1 H1 P1 _ W (by omega) r0w (Nat.le_refl _) (by omega) r1w (Nat.le_refl _)⟩
end Go.Proofs.Ytliomgoakiidfaa.EqualIteratorsW
