/- Contracts of the two greatest common divisors. -/
import Derived.Test.YtaiimjbdhcjobaaChecked
import Derived.Test.YtaiimjbdhcjobaaRat
import Derived.Test.YtaiimjbdhcjobaaNum
import Derived.WalkKit
import Derived.ProofKit
import Derived.OpenShut
import Derived.IntWalk
import Derived.BigQuiet
import Derived.Deep.QuietTactic
namespace Go.Proofs.Ytaiimjbdhcjobaa.Gcd
open Go.ChangeShapes Go.WideShapes Go.ChangeAt Go.RowKit
open Go.Proofs.Ytaiimjbdhcjobaa.Num Go.Proofs.Ytaiimjbdhcjobaa.Rat
set_option linter.unusedVariables false

theorem below_drewN {B : Nat} {a w : World} (h : Below B a w) (n : Nat) : Below B a (w.drewN n) := ⟨h.os, h.tape, h.output, h.size, h.block⟩

theorem tmod_bd (x y m : Int) (h0 : y ≠ 0) (h1 : -m ≤ y) (h2 : y ≤ m) : -m ≤ x.tmod y ∧ x.tmod y ≤ m := by
  have := tmod_small x y h0
  omega

theorem spec_gcd (a b : Int) (w : World) (ha : -9223372036854775807 ≤ a) (ha2 : a ≤ 9223372036854775807) (hb : -9223372036854775807 ≤ b) (hb2 : b ≤ 9223372036854775807) (h0 : 0 ≤ a) (h1 : 0 ≤ b) :
    Calls Try.prog 145 #[.int .i64 a, .int .i64 b] w fun e w' => e = .returned (.int .i64 (Int.gcd a b : Nat)) ∧ w = w' := by
  go_enter Try.func145, Try.ntmps145
  go_wp2
  go_loop [0, 1] (fun p q => ∃ x y : Int, p = .int .i64 x ∧ q = .int .i64 y ∧ 0 ≤ x ∧ x ≤ 9223372036854775807 ∧ 0 ≤ y ∧ y ≤ 9223372036854775807 ∧ Int.gcd x y = Int.gcd a b) (fun _ q => (intOf q).toNat)
  case atStart => exact ⟨a, b, rfl, rfl, h0, ha2, h1, hb2, rfl⟩
  case round =>
    obtain ⟨x, y, rfl, rfl, hx0, hx1, hy0, hy1, hg⟩ := hrel
    have HG := hid hg
    clear hg
    by_cases hy : y = 0
    · subst hy
      go_wp2
      go_ret
      have e := gcd_zero x
      rw [if_pos hx0, HG.out] at e
      exact ⟨by rw [e]; rfl, rfl⟩
    · have hb := tmod_small x y hy
      have hs := hid (gcd_step x y)
      have hem : x.tmod y = x % y := Int.tmod_eq_emod_of_nonneg hx0
      have hlo : 0 ≤ x % y := Int.emod_nonneg _ hy
      have hhi : x % y < y := Int.emod_lt_of_pos _ (by omega)
      go_wp2
      go_round
      case rel => exact ⟨y, x % y, rfl, rfl, by omega, by omega, by omega, by omega, by rw [← hem, hs.out, HG.out]⟩
      case measure => simp [intOf]; omega

theorem impl_gcd (a b : Int) (w : World) (ha : -9223372036854775807 ≤ a) (ha2 : a ≤ 9223372036854775807) (hb : -9223372036854775807 ≤ b) (hb2 : b ≤ 9223372036854775807) :
    Calls Try.prog 165 #[.int .i64 a, .int .i64 b] w fun e w' => e = .returned (.int .i64 (Int.gcd a b : Nat)) ∧ Below w.heap.size w w' := by
  go_enter Try.func165, Try.ntmps165
  go_wp2
  go_loopw [0, 1] (fun p q wr => ∃ x y : Int, p = .int .i64 x ∧ q = .int .i64 y ∧ -9223372036854775807 ≤ x ∧ x ≤ 9223372036854775807 ∧ -9223372036854775807 ≤ y ∧ y ≤ 9223372036854775807 ∧ Int.gcd x y = Int.gcd a b ∧ Below w.heap.size w wr) (fun _ q _ => (intOf q).natAbs)
  case atStart => exact ⟨a, b, rfl, rfl, ha, ha2, hb, hb2, rfl, Below.refl _ _⟩
  case round =>
    obtain ⟨x, y, rfl, rfl, hx0, hx1, hy0, hy1, hg, hbel⟩ := hrel
    have HG := hid hg
    clear hg
    by_cases hy : y = 0
    · subst hy
      have e := gcd_zero x
      rw [HG.out] at e
      by_cases hx : 0 ≤ x
      · rw [if_pos hx] at e
        have HE := hid e
        clear e
        go_wp2
        go_ret
        exact ⟨by rw [HE.out]; rfl, hbel⟩
      · rw [if_neg hx] at e
        have HE := hid e
        clear e
        go_wp2
        go_ret
        exact ⟨by rw [HE.out]; rfl, hbel⟩
    · have hb := tmod_small x y hy
      have hs := hid (gcd_step x y)
      have hbd := tmod_bd x y 9223372036854775807 hy hy0 hy1
      have hne : (y != 0) = true := by simpa using hy
      go_wp2
      go_quiet (fail)
      go_roundw
      case rel => exact ⟨_, _, _, _, _, _, _, _, ⟨y, x.tmod y, rfl, rfl, by omega, by omega, by omega, by omega, by rw [hs.out, HG.out], below_drewN hbel _⟩, rfl⟩
      case measure => show (x.tmod y).natAbs < y.natAbs; exact hb
end Go.Proofs.Ytaiimjbdhcjobaa.Gcd
