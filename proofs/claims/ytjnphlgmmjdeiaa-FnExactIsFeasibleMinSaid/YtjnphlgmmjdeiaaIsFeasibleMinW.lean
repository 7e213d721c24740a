/- Law FnExactIsFeasibleMin at every argument. -/
import Derived.Test.YtjnphlgmmjdeiaaIsFeasibleMinC
import Derived.Test.YtjnphlgmmjdeiaaLpS
namespace Go.Proofs.Ytjnphlgmmjdeiaa.IsFeasibleMinW
open Go.RowKit
open Go.Proofs.Ytjnphlgmmjdeiaa.Rdr Go.Proofs.Ytjnphlgmmjdeiaa.Rats Go.Proofs.Ytjnphlgmmjdeiaa.Lp Go.Proofs.Ytjnphlgmmjdeiaa.LpP Go.Proofs.Ytjnphlgmmjdeiaa.LpI Go.Proofs.Ytjnphlgmmjdeiaa.LpS
theorem walk (cs : List Value) (x : LpD) (a : Option Addr) (cap : Nat) (pt : List RatD) (hn : pt.length ≤ 9223372036854775807) (w : World) (r : rLp w 0 w.heap.size cs x) (r' : Els 2 rRat w 0 w.heap.size a pt) :
    Calls Try.prog 8 #[.agg cs.toArray, .slice a pt.length cap] w fun e w' => e = .returned (.bool true) ∧ Below w.heap.size w w' :=
  IsFeasibleMinC.walk cs x a cap pt hn w r r' fun ht => ⟨_, fun W ds b bap h h' => spec_min ds x b bap pt 0 _ 0 _ W (by omega) (by omega) h h' (Nat.le_refl _) (Nat.le_refl _), fun W ds b bap h h' => impl_min ds x b bap pt 0 _ 0 _ W (by omega) (by omega) h h' (Nat.le_refl _) (Nat.le_refl _)⟩
end Go.Proofs.Ytjnphlgmmjdeiaa.IsFeasibleMinW
