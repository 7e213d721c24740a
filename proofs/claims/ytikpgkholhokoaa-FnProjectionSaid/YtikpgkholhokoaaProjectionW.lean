/- The walk of law FnProjection, at every code. -/
import Derived.Test.YtikpgkholhokoaaProjectionC
namespace Go.Proofs.Ytikpgkholhokoaa.ProjectionW
open Go.RowKit
open Go.Proofs.Ytikpgkholhokoaa.Cur
set_option linter.unusedVariables false

theorem walk (w : World) (sv : Value) (l : List UInt8) (hl : l.length ≤ 1048576) (hc : Cur.Code w w.heap.size sv l) :
    Calls Try.prog 3 #[sv] w fun e w' => e = .returned (.bool true) ∧ Below w.heap.size w w' :=
  ProjectionC.core w sv l hl hc
theorem walk_big (w : World) (a : Option Addr) (n cap : Nat) (h : 1048576 < n) (h2 : n ≤ 9223372036854775807) :
    Calls Try.prog 3 #[.slice a n cap] w fun e w' => e = .returned (.bool true) ∧ Below w.heap.size w w' := by
  go_enter Try.func3, Try.ntmps3
  go_wp2_with fail
  refine (Big.big_yes a n cap w h h2).mono ?_
  rintro e w0 ⟨rfl, rfl⟩
  go_wp2
  go_ret
  exact ⟨rfl, Below.refl _ _⟩
end Go.Proofs.Ytikpgkholhokoaa.ProjectionW
