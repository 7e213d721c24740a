/- Law FnExactSumRationals at every argument. -/
import Derived.Test.YthghggnlfnbbgabSumRationalsC
import Derived.Test.YthghggnlfnbbgabSmqS
namespace Go.Proofs.Ythghggnlfnbbgab.SumRationalsW
open Go.RowKit
open Go.Proofs.Ythghggnlfnbbgab.Rdr Go.Proofs.Ythghggnlfnbbgab.Rats Go.Proofs.Ythghggnlfnbbgab.Smq Go.Proofs.Ythghggnlfnbbgab.SmqI Go.Proofs.Ythghggnlfnbbgab.SmqS
theorem walk (a : Option Addr) (cap : Nat) (x : List RatD) (hn : x.length ≤ 9223372036854775807) (w : World) (r : Els 2 rRat w 0 w.heap.size a x) :
    Calls Try.prog 3 #[.slice a x.length cap] w fun e w' => e = .returned (.bool true) ∧ Below w.heap.size w w' :=
  SumRationalsC.walk a cap x hn w r fun ht => ⟨_, _, _, fun W b bap h => spec_sum b bap x 0 _ W (by omega) h (Nat.le_refl _), fun W b bap h => impl_sum b bap x 0 _ W (by omega) h (Nat.le_refl _)⟩
end Go.Proofs.Ythghggnlfnbbgab.SumRationalsW
