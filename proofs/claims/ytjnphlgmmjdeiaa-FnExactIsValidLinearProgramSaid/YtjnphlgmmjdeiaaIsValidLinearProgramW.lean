/- Law FnExactIsValidLinearProgram at every argument. -/
import Derived.Test.YtjnphlgmmjdeiaaIsValidLinearProgramC
import Derived.Test.YtjnphlgmmjdeiaaLpS
namespace Go.Proofs.Ytjnphlgmmjdeiaa.IsValidLinearProgramW
open Go.RowKit
open Go.Proofs.Ytjnphlgmmjdeiaa.Rdr Go.Proofs.Ytjnphlgmmjdeiaa.Rats Go.Proofs.Ytjnphlgmmjdeiaa.Lp Go.Proofs.Ytjnphlgmmjdeiaa.LpP Go.Proofs.Ytjnphlgmmjdeiaa.LpI Go.Proofs.Ytjnphlgmmjdeiaa.LpS
theorem walk (cs : List Value) (x : LpD) (w : World) (r : rLp w 0 w.heap.size cs x) :
    Calls Try.prog 7 #[.agg cs.toArray] w fun e w' => e = .returned (.bool true) ∧ Below w.heap.size w w' :=
  IsValidLinearProgramC.walk cs x w r fun ht => ⟨_, fun W ds h => spec_vlp ds x 0 _ W (by omega) h (Nat.le_refl _), fun W ds h => impl_vlp ds x 0 _ W (by omega) h (Nat.le_refl _)⟩
end Go.Proofs.Ytjnphlgmmjdeiaa.IsValidLinearProgramW
