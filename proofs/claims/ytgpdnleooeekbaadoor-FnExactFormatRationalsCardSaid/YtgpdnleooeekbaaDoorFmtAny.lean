/- Contracts of the two formats of rationals at every rational. -/
import Derived.Test.YtgpdnleooeekbaaDoorFmtCalls
import Derived.Test.YtgpdnleooeekbaaDoorFmtFrac
import Derived.Test.YtgpdnleooeekbaaDoorReadR
namespace Go.Proofs.YtgpdnleooeekbaaDoor.FmtAny
open Go.RowKit
open Go.Proofs.YtgpdnleooeekbaaDoor.Num Go.Proofs.YtgpdnleooeekbaaDoor.Rat Go.Proofs.YtgpdnleooeekbaaDoor.LaidI Go.Proofs.YtgpdnleooeekbaaDoor.FmtCalls Go.Proofs.YtgpdnleooeekbaaDoor.FmtFrac Go.Proofs.YtgpdnleooeekbaaDoor.ReadR
set_option linter.unusedVariables false

theorem text (x y : Int) : (((⟨(Lib.itoa x).toArray⟩ ++ ⟨#[47]⟩) ++ ⟨(Lib.itoa y).toArray⟩) : ByteArray) = ⟨(Lib.itoa x ++ 47 :: Lib.itoa y).toArray⟩ := by
  rw [show (⟨#[47]⟩ : ByteArray) = ⟨([47] : List UInt8).toArray⟩ from rfl, Dec.str_app, Dec.str_app]
  simp
theorem spec_fmt (x y : Int) (w : World) (hx : -9223372036854775808 ≤ x ∧ x ≤ 9223372036854775807) (hy : -9223372036854775808 ≤ y ∧ y ≤ 9223372036854775807) :
    Calls Tryd.prog 38 #[.agg #[.int .i64 x, .int .i64 y]] w fun e w' => e = .returned (.string ⟨(fmtL x y).toArray⟩) ∧ Below w.heap.size w w' := by
  unfold fmtL
  cases h : vr x y with
  | false => exact spec_fmt_no x y w hx hy h
  | true =>
    rw [if_pos rfl]
    by_cases h1 : y = 1
    · rw [if_pos h1]; exact spec_fmt_one x y w h h1
    · rw [if_neg h1, ← text]; exact spec_fmt_frac x y w h h1
theorem impl_fmt (x y : Int) (w : World) (ht : Pow w) (hx : -9223372036854775808 ≤ x ∧ x ≤ 9223372036854775807) (hy : -9223372036854775808 ≤ y ∧ y ≤ 9223372036854775807) :
    Calls Tryd.prog 10 #[.agg #[.int .i64 x, .int .i64 y]] w fun e w' => e = .returned (.string ⟨(fmtL x y).toArray⟩) ∧ Below w.heap.size w w' := by
  unfold fmtL
  cases h : vr x y with
  | false => exact impl_fmt_no x y w hx hy h
  | true =>
    rw [if_pos rfl]
    by_cases h1 : y = 1
    · rw [if_pos h1]; exact impl_fmt_one x y w ht h h1
    · rw [if_neg h1, ← text]; exact impl_fmt_frac x y w ht h h1
end Go.Proofs.YtgpdnleooeekbaaDoor.FmtAny
