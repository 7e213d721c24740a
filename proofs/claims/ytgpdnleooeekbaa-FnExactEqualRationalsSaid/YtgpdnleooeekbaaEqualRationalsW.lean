/- Law FnExactEqualRationals at every argument. -/
import Derived.Test.YtgpdnleooeekbaaEqualRationalsC
import Derived.Test.YtgpdnleooeekbaaEqr
namespace Go.Proofs.Ytgpdnleooeekbaa.EqualRationalsW
open Go.RowKit
open Go.Proofs.Ytgpdnleooeekbaa.Rdr Go.Proofs.Ytgpdnleooeekbaa.Rats Go.Proofs.Ytgpdnleooeekbaa.Eqr
theorem walk (a : Option Addr) (cap : Nat) (x : List RatD) (hn : x.length ≤ 9223372036854775807) (a' : Option Addr) (cap' : Nat) (y : List RatD) (hn' : y.length ≤ 9223372036854775807) (w : World) (r : Els 2 rRat w 0 w.heap.size a x) (r' : Els 2 rRat w 0 w.heap.size a' y) :
    Calls Try.prog 8 #[.slice a x.length cap, .slice a' y.length cap'] w fun e w' => e = .returned (.bool true) ∧ Below w.heap.size w w' :=
  EqualRationalsC.walk a cap x a' cap' y hn hn' w r r' fun ht => ⟨_, fun W b bap d dap h h' => spec_eqr b d bap dap x y 0 _ 0 _ W (by omega) (by omega) h h' (Nat.le_refl _) (Nat.le_refl _), fun W b bap d dap h h' => impl_eqr b d bap dap x y 0 _ 0 _ W (by omega) (by omega) h h' (Nat.le_refl _) (Nat.le_refl _)⟩
end Go.Proofs.Ytgpdnleooeekbaa.EqualRationalsW
