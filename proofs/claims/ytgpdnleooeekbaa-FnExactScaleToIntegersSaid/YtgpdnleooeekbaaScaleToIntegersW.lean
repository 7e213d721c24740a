/- Law FnExactScaleToIntegers at every argument. -/
import Derived.Test.YtgpdnleooeekbaaScaleToIntegersC
import Derived.Test.YtgpdnleooeekbaaScS
namespace Go.Proofs.Ytgpdnleooeekbaa.ScaleToIntegersW
open Go.RowKit
open Go.Proofs.Ytgpdnleooeekbaa.Rdr Go.Proofs.Ytgpdnleooeekbaa.Rats Go.Proofs.Ytgpdnleooeekbaa.ScP Go.Proofs.Ytgpdnleooeekbaa.ScI Go.Proofs.Ytgpdnleooeekbaa.ScS
theorem walk (a : Option Addr) (cap : Nat) (x : List RatD) (hn : x.length ≤ 9223372036854775807) (w : World) (r : Els 2 rRat w 0 w.heap.size a x) :
    Calls Try.prog 7 #[.slice a x.length cap] w fun e w' => e = .returned (.bool true) ∧ Below w.heap.size w w' :=
  ScaleToIntegersC.walk a cap x hn w r fun ht => ⟨outZ x, outD x, Nat.le_trans (outZ_len x) ht, fun W b bap h => spec_scale b bap x 0 _ W ht h (Nat.le_refl _), fun W b bap h => impl_scale b bap x 0 _ W ht h (Nat.le_refl _)⟩
end Go.Proofs.Ytgpdnleooeekbaa.ScaleToIntegersW
