/- The walk of law FnExactIsBinding, at every database, query and row. -/
import Derived.Test.YtpeojpdgknamgaaIsBindingC
import Derived.Test.YtpeojpdgknamgaaBndI
import Derived.Test.YtpeojpdgknamgaaBndS
namespace Go.Proofs.Ytpeojpdgknamgaa.IsBindingW
open Go.RowKit
open Go.Proofs.Ytpeojpdgknamgaa.Num Go.Proofs.Ytpeojpdgknamgaa.IntRow Go.Proofs.Ytpeojpdgknamgaa.Rdr Go.Proofs.Ytpeojpdgknamgaa.Dat Go.Proofs.Ytpeojpdgknamgaa.BndP Go.Proofs.Ytpeojpdgknamgaa.BndI Go.Proofs.Ytpeojpdgknamgaa.BndS
set_option linter.unusedVariables false

theorem walk (cs0 : List Value) (x0 : List TableD) (cs1 : List Value) (x1 : QueryD) (a2 : Option Addr) (n2 cap2 : Nat) (hn2 : n2 ≤ 9223372036854775807) (xs2 : List Int) (hl2 : xs2.length = n2) (w : World) (r0 : rDb w 0 w.heap.size cs0 x0) (r1 : rQuery w 0 w.heap.size cs1 x1) (r2 : Rd w w.heap.size a2 xs2) :
    Calls Try.prog 6 #[.agg cs0.toArray, .agg cs1.toArray, .slice a2 n2 cap2] w fun e w' => e = .returned (.bool true) ∧ Below w.heap.size w w' := by
  subst hl2
  exact IsBindingC.walk cs0 x0 cs1 x1 a2 cap2 xs2 w hn2 r0 r1 r2 (fun hs hr => ⟨bnd x0 x1 xs2,
    fun W d0 d1 b2 cc2 h0 h1 h2 => spec_bnd d0 d1 x0 x1 b2 cc2 W.heap.size xs2 0 W.heap.size 0 W.heap.size W (by omega) (by omega) hr h0 h1 h2 (Nat.le_refl _) (Nat.le_refl _) (Nat.le_refl _),
    fun W d0 d1 b2 cc2 h0 h1 h2 => impl_bnd d0 d1 x0 x1 b2 cc2 W.heap.size xs2 0 W.heap.size 0 W.heap.size W (by omega) (by omega) hr h0 h1 h2 (Nat.le_refl _) (Nat.le_refl _) (Nat.le_refl _)⟩)
end Go.Proofs.Ytpeojpdgknamgaa.IsBindingW
