/- Contracts of the program's arithmetic on rationals. -/
import Derived.Test.YtaiimjbdhcjobaaRatLaw
import Derived.Test.YtaiimjbdhcjobaaCells
import Derived.Test.YtaiimjbdhcjobaaAllV
namespace Go.Proofs.Ytaiimjbdhcjobaa.Ops
open Go.ChangeShapes Go.WideShapes Go.ChangeAt Go.RowKit
open Go.Proofs.Ytaiimjbdhcjobaa.Num Go.Proofs.Ytaiimjbdhcjobaa.Rat Go.Proofs.Ytaiimjbdhcjobaa.Gcd Go.Proofs.Ytaiimjbdhcjobaa.Valid Go.Proofs.Ytaiimjbdhcjobaa.New Go.Proofs.Ytaiimjbdhcjobaa.NewSpec Go.Proofs.Ytaiimjbdhcjobaa.RatLaw Go.Proofs.Ytaiimjbdhcjobaa.Cells
set_option linter.unusedVariables false

theorem mul_bd {x v : Int} (h0 : -1000000000 ≤ x) (h1 : x ≤ 1000000000) (h2 : -1000000000 ≤ v) (h3 : v ≤ 1000000000) : -1000000000000000000 ≤ x * v ∧ x * v ≤ 1000000000000000000 := by
  have h : (x * v).natAbs ≤ 1000000000 * 1000000000 := by rw [Int.natAbs_mul]; exact Nat.mul_le_mul (by omega) (by omega)
  omega

theorem valid_yes (x y : Int) (w : World) (h : vr x y = true) : Calls Try.prog 125 #[.agg #[.int .i64 x, .int .i64 y]] w fun e w' => e = .returned (.bool true) ∧ Below w.heap.size w w' := by
  obtain ⟨g0, g1, g2, g3, _⟩ := vr_true h
  have := impl_valid x y w (by omega) (by omega) (by omega) (by omega)
  rw [h] at this; exact this
theorem valid_no (x y : Int) (w : World) (hx : -9223372036854775808 ≤ x ∧ x ≤ 9223372036854775807) (hy : -9223372036854775808 ≤ y ∧ y ≤ 9223372036854775807) (h : vr x y = false) : Calls Try.prog 125 #[.agg #[.int .i64 x, .int .i64 y]] w fun e w' => e = .returned (.bool false) ∧ Below w.heap.size w w' := by
  have := impl_valid x y w hx.1 hx.2 hy.1 hy.2
  rw [h] at this; exact this


end Go.Proofs.Ytaiimjbdhcjobaa.Ops
