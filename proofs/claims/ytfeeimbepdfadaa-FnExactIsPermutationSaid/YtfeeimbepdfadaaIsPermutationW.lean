/- The walk of law FnExactIsPermutation, at every argument. -/
import Derived.Test.YtfeeimbepdfadaaIsPermutationC
import Derived.Test.YtfeeimbepdfadaaPermS
import Derived.Test.YtfeeimbepdfadaaSqV
namespace Go.Proofs.Ytfeeimbepdfadaa.IsPermutationW
open Go.RowKit
open Go.Proofs.Ytfeeimbepdfadaa.Num Go.Proofs.Ytfeeimbepdfadaa.IntRow Go.Proofs.Ytfeeimbepdfadaa.PermP Go.Proofs.Ytfeeimbepdfadaa.PermS Go.Proofs.Ytfeeimbepdfadaa.SqV Go.Proofs.Ytfeeimbepdfadaa.IsPermutationC
set_option linter.unusedVariables false

theorem walk (a0 : Option Addr) (n0 cap0 : Nat) (hn0 : n0 ≤ 9223372036854775807) (xs0 : List Int) (hl0 : xs0.length = n0) (w : World) (r0 : Rd w w.heap.size a0 xs0) :
    Calls Try.prog 10 #[.slice a0 n0 cap0] w fun e w' => e = .returned (.bool true) ∧ Below w.heap.size w w' := by
  by_cases hb : 1048576 < n0
  · have hb' : (1048576 : Int) < (n0 : Int) := by omega
    clear r0
    go_enter Try.func10, Try.ntmps10
    go_wp2
    go_ret
    exact ⟨rfl, Below.refl _ _⟩
  · subst hl0
    exact core a0 cap0 xs0 (permOk xs0) w (by omega) r0
      (hid fun W g0 h0 => spec_perm _ _ _ xs0 W (by omega) (Nat.le_refl _) h0 (Nat.le_refl _))
      (hid fun W g0 h0 => impl_perm _ _ _ xs0 W (by omega) h0 (Nat.le_refl _))
end Go.Proofs.Ytfeeimbepdfadaa.IsPermutationW
