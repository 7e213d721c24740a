/- The laws' own helpers on rationals; tools for calls that return a rational and a bool. -/
import Derived.Test.YtanfakpeongfjaaNew
import Derived.Test.YtanfakpeongfjaaNewSpec
import Derived.Deep.RegionWith
namespace Go.Proofs.Ytanfakpeongfjaa.RatLaw
open Go.ChangeShapes Go.WideShapes Go.ChangeAt Go.RowKit
open Go.Proofs.Ytanfakpeongfjaa.Num Go.Proofs.Ytanfakpeongfjaa.Rat Go.Proofs.Ytanfakpeongfjaa.Gcd Go.Proofs.Ytanfakpeongfjaa.Valid Go.Proofs.Ytanfakpeongfjaa.New
set_option linter.unusedVariables false

/-- The three results of a maker, as the walk has them. -/
def rx (b : Bool) (x : Int) : Int := if b then x else 0
theorem ratEnd_is (b : Bool) (x y : Int) : ratEnd b x y = .returned (.tuple #[.agg #[.int .i64 (rx b x), .int .i64 (rx b y)], .bool b]) := rfl

theorem impl_new (n d : Int) (w : World) (h0 : -9223372036854775808 ≤ n) (h1 : n ≤ 9223372036854775807) (h2 : -9223372036854775808 ≤ d) (h3 : d ≤ 9223372036854775807) :
    Calls Try.prog 48 #[.int .i64 n, .int .i64 d] w fun e w' => e = ratEnd (nok n d) (nx n d) (ny n d) ∧ Below w.heap.size w w' := by
  unfold nok
  cases h : fits n d with
  | false => exact impl_new_no n d w h h0 h1 h2 h3
  | true => exact impl_new_yes n d w h
theorem spec_new (n d : Int) (w : World) (h0 : -9223372036854775808 ≤ n) (h1 : n ≤ 9223372036854775807) (h2 : -9223372036854775808 ≤ d) (h3 : d ≤ 9223372036854775807) :
    Calls Try.prog 49 #[.int .i64 n, .int .i64 d] w fun e w' => e = ratEnd (nok n d) (nx n d) (ny n d) ∧ Below w.heap.size w w' := by
  unfold nok
  cases h : fits n d with
  | false => exact NewSpec.spec_new_no n d w h h0 h1 h2 h3
  | true => exact NewSpec.spec_new_yes n d w h
end Go.Proofs.Ytanfakpeongfjaa.RatLaw
