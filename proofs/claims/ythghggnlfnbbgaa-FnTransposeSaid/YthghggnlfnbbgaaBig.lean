/- Whether the code is too long (laws.big). -/
import Derived.Test.YthghggnlfnbbgaaCur
import Derived.WalkKit
import Derived.ProofKit
import Derived.OpenShut
namespace Go.Proofs.Ythghggnlfnbbgaa.Big
open Go.ChangeShapes Go.WideShapes Go.ChangeAt Go.RowKit
open Go.Proofs.Ythghggnlfnbbgaa.Num Go.Proofs.Ythghggnlfnbbgaa.Cur
set_option linter.unusedVariables false

theorem big_yes (a : Option Addr) (n cap : Nat) (w : World) (h : 1048576 < n) (h2 : n ≤ 9223372036854775807) :
    Calls Try.prog 34 #[.slice a n cap] w fun e w' => e = .returned (.bool true) ∧ w = w' := by
  have h1 : (1048576 : Int) < (n : Int) := by omega
  go_enter Try.func34, Try.ntmps34
  go_wp2
  go_ret
  exact ⟨rfl, rfl⟩
theorem big_no (a : Option Addr) (n cap : Nat) (w : World) (h : n ≤ 1048576) :
    Calls Try.prog 34 #[.slice a n cap] w fun e w' => e = .returned (.bool false) ∧ w = w' := by
  have h1 : ¬ (1048576 : Int) < (n : Int) := by omega
  go_enter Try.func34, Try.ntmps34
  go_wp2
  go_ret
  exact ⟨rfl, rfl⟩
theorem big_code (sv : Value) (l : List UInt8) (w : World) (c : Nat) (hc : Cur.Code w c sv l) (hl : l.length ≤ 1048576) :
    Calls Try.prog 34 #[sv] w fun e w' => e = .returned (.bool false) ∧ w = w' := by
  rcases hc with ⟨rfl, a, cap, rfl⟩ | ⟨b, off, cap, rfl, _, _⟩
  · exact big_no _ 0 _ _ (by omega)
  · exact big_no _ _ _ _ hl

end Go.Proofs.Ythghggnlfnbbgaa.Big
