/- The laws' own helpers on rationals; tools for calls that return a rational and a bool. -/
import Derived.Test.YtaiimjbdhcjobaaNew
import Derived.Test.YtaiimjbdhcjobaaNewSpec
import Derived.Deep.RegionWith
namespace Go.Proofs.Ytaiimjbdhcjobaa.RatLaw
open Go.ChangeShapes Go.WideShapes Go.ChangeAt Go.RowKit
open Go.Proofs.Ytaiimjbdhcjobaa.Num Go.Proofs.Ytaiimjbdhcjobaa.Rat Go.Proofs.Ytaiimjbdhcjobaa.Gcd Go.Proofs.Ytaiimjbdhcjobaa.Valid Go.Proofs.Ytaiimjbdhcjobaa.New
set_option linter.unusedVariables false

theorem to_rat (x y : Int) (w : World) : Calls Try.prog 119 #[.agg #[.int .i64 x, .int .i64 y]] w fun e w' => e = .returned (.agg #[.int .i64 x, .int .i64 y]) ∧ Below w.heap.size w w' := by
  go_enter Try.func119, Try.ntmps119
  go_wp2
  refine bodyPost_ret (v := .agg #[.int .i64 x, .int .i64 y]) (by simp [results, Try.results119, go_sem]) rfl ⟨rfl, ((((Below.refl _ _).alloc (Nat.le_refl _) _).alloc (by simp) _).alloc (by simp; omega) _)⟩

theorem eq_rat (x y u v : Int) (w : World) : Calls Try.prog 43 #[.agg #[.int .i64 x, .int .i64 y], .agg #[.int .i64 u, .int .i64 v]] w fun e w' => e = .returned (.bool (decide (x = u ∧ y = v))) ∧ Below w.heap.size w w' := by
  have hb : Below w.heap.size w ((w.alloc (.cells #[.int .i64 x, .int .i64 y] 30)).alloc (.cells #[.int .i64 u, .int .i64 v] 30)) := ((Below.refl _ _).alloc (Nat.le_refl _) _).alloc (by simp) _
  by_cases h : x = u
  · by_cases h2 : y = v
    · subst h h2
      go_enter Try.func43, Try.ntmps43
      go_wp2
      go_ret
      exact ⟨by simp, hb⟩
    · subst h
      have h3 : (y != v) = true := by simpa using h2
      go_enter Try.func43, Try.ntmps43
      go_wp2
      go_ret
      exact ⟨by simp [h2], hb⟩
  · have h3 : (x != u) = true := by simpa using h
    go_enter Try.func43, Try.ntmps43
    go_wp2
    go_ret
    exact ⟨by simp [h], hb⟩

theorem eq_self (x y : Int) (w : World) : Calls Try.prog 43 #[.agg #[.int .i64 x, .int .i64 y], .agg #[.int .i64 x, .int .i64 y]] w fun e w' => e = .returned (.bool true) ∧ Below w.heap.size w w' := by
  have h := eq_rat x y x y w
  rw [decide_eq_true (show x = x ∧ y = y from ⟨rfl, rfl⟩)] at h
  exact h

/-- The three results of a maker, as the walk has them. -/
def rx (b : Bool) (x : Int) : Int := if b then x else 0
theorem ratEnd_is (b : Bool) (x y : Int) : ratEnd b x y = .returned (.tuple #[.agg #[.int .i64 (rx b x), .int .i64 (rx b y)], .bool b]) := rfl

theorem impl_new (n d : Int) (w : World) (h0 : -9223372036854775808 ≤ n) (h1 : n ≤ 9223372036854775807) (h2 : -9223372036854775808 ≤ d) (h3 : d ≤ 9223372036854775807) :
    Calls Try.prog 133 #[.int .i64 n, .int .i64 d] w fun e w' => e = ratEnd (nok n d) (nx n d) (ny n d) ∧ Below w.heap.size w w' := by
  unfold nok
  cases h : fits n d with
  | false => exact impl_new_no n d w h h0 h1 h2 h3
  | true => exact impl_new_yes n d w h
theorem spec_new (n d : Int) (w : World) (h0 : -9223372036854775808 ≤ n) (h1 : n ≤ 9223372036854775807) (h2 : -9223372036854775808 ≤ d) (h3 : d ≤ 9223372036854775807) :
    Calls Try.prog 141 #[.int .i64 n, .int .i64 d] w fun e w' => e = ratEnd (nok n d) (nx n d) (ny n d) ∧ Below w.heap.size w w' := by
  unfold nok
  cases h : fits n d with
  | false => exact NewSpec.spec_new_no n d w h h0 h1 h2 h3
  | true => exact NewSpec.spec_new_yes n d w h
end Go.Proofs.Ytaiimjbdhcjobaa.RatLaw
