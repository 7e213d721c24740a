/- The equality of lists of rationals: the model's function and the program's. -/
import Derived.Test.YthghggnlfnbbgabRats
import Derived.Laws.StructEq
import Derived.BigQuiet
import Derived.Deep.QuietTactic
namespace Go.Proofs.Ythghggnlfnbbgab.Eqr
open Go.RowKit
open Go.Proofs.Ythghggnlfnbbgab.Num Go.Proofs.Ythghggnlfnbbgab.IntRow Go.Proofs.Ythghggnlfnbbgab.Rdr Go.Proofs.Ythghggnlfnbbgab.HasL Go.Proofs.Ythghggnlfnbbgab.Rats
set_option linter.unusedVariables false

set_option maxRecDepth 100000 in
/-- What '==' says of two rationals. -/
@[go_sem] theorem eqRat (a b c d : Int) (w : World) : (Op.equalIn 10000 25 (.agg #[.int .i64 a, .int .i64 b]) (.agg #[.int .i64 c, .int .i64 d])).run Try.prog w = .ok (a == c && b == d) w := by
  have u3 := Try.underlying3
  have a3 := Try.isAgg3
  have z3 := Try.sizeOf3
  have hS : Try.prog.underlying 25 = some (.struct (Try.prog.fieldsOf 25)) := by kernel_rfl
  have hp : Try.prog.stoodInHeld 25 = false := by kernel_rfl
  rw [show (10000 : Nat) = 9999 + 1 from rfl, run_equalIn_agg w 9999 25 _ _ hS hp]
  simp only [Program.fieldsOf, Try.underlying25]
  go_simp
  by_cases h1 : a = c <;> by_cases h2 : b = d <;> simp [h1, h2]
end Go.Proofs.Ythghggnlfnbbgab.Eqr
