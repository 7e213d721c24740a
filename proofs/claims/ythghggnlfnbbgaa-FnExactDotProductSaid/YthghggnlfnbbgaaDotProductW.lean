/- Law FnExactDotProduct at every argument. -/
import Derived.Test.YthghggnlfnbbgaaDotProductC
import Derived.Test.YthghggnlfnbbgaaDot
namespace Go.Proofs.Ythghggnlfnbbgaa.DotProductW
open Go.RowKit
open Go.Proofs.Ythghggnlfnbbgaa.Rdr Go.Proofs.Ythghggnlfnbbgaa.Rats Go.Proofs.Ythghggnlfnbbgaa.Dot Go.Proofs.Ythghggnlfnbbgaa.SmqI
theorem walk (a : Option Addr) (cap : Nat) (x : List RatD) (hn : x.length ≤ 9223372036854775807) (a' : Option Addr) (cap' : Nat) (y : List RatD) (hn' : y.length ≤ 9223372036854775807) (w : World) (r : Els 2 rRat w 0 w.heap.size a x) (r' : Els 2 rRat w 0 w.heap.size a' y) :
    Calls Try.prog 3 #[.slice a x.length cap, .slice a' y.length cap'] w fun e w' => e = .returned (.bool true) ∧ Below w.heap.size w w' :=
  DotProductC.walk a cap x a' cap' y hn hn' w r r' fun ht => ⟨_, _, _, fun W b bap d dap h h' => spec_dot b d bap dap x y 0 _ 0 _ W (by omega) h h' (Nat.le_refl _) (Nat.le_refl _), fun W b bap d dap h h' => impl_dot b d bap dap x y 0 _ 0 _ W (by omega) h h' (Nat.le_refl _) (Nat.le_refl _)⟩
end Go.Proofs.Ythghggnlfnbbgaa.DotProductW
