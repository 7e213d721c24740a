/- Contracts of the program's arithmetic on rationals. -/
import Derived.Test.YtgpdnleooeekbaaDoorRatLaw
import Derived.Test.YtgpdnleooeekbaaDoorCells
namespace Go.Proofs.YtgpdnleooeekbaaDoor.Ops
open Go.ChangeShapes Go.WideShapes Go.ChangeAt Go.RowKit
open Go.Proofs.YtgpdnleooeekbaaDoor.Num Go.Proofs.YtgpdnleooeekbaaDoor.Rat Go.Proofs.YtgpdnleooeekbaaDoor.Gcd Go.Proofs.YtgpdnleooeekbaaDoor.Valid Go.Proofs.YtgpdnleooeekbaaDoor.New Go.Proofs.YtgpdnleooeekbaaDoor.NewSpec Go.Proofs.YtgpdnleooeekbaaDoor.RatLaw Go.Proofs.YtgpdnleooeekbaaDoor.Cells
set_option linter.unusedVariables false

theorem mul_bd {x v : Int} (h0 : -1000000000 ≤ x) (h1 : x ≤ 1000000000) (h2 : -1000000000 ≤ v) (h3 : v ≤ 1000000000) : -1000000000000000000 ≤ x * v ∧ x * v ≤ 1000000000000000000 := by
  have h : (x * v).natAbs ≤ 1000000000 * 1000000000 := by rw [Int.natAbs_mul]; exact Nat.mul_le_mul (by omega) (by omega)
  omega

theorem valid_yes (x y : Int) (w : World) (h : vr x y = true) : Calls Tryd.prog 36 #[.agg #[.int .i64 x, .int .i64 y]] w fun e w' => e = .returned (.bool true) ∧ Below w.heap.size w w' := by
  obtain ⟨g0, g1, g2, g3, _⟩ := vr_true h
  have := impl_valid x y w (by omega) (by omega) (by omega) (by omega)
  rw [h] at this; exact this
theorem valid_no (x y : Int) (w : World) (hx : -9223372036854775808 ≤ x ∧ x ≤ 9223372036854775807) (hy : -9223372036854775808 ≤ y ∧ y ≤ 9223372036854775807) (h : vr x y = false) : Calls Tryd.prog 36 #[.agg #[.int .i64 x, .int .i64 y]] w fun e w' => e = .returned (.bool false) ∧ Below w.heap.size w w' := by
  have := impl_valid x y w hx.1 hx.2 hy.1 hy.2
  rw [h] at this; exact this

theorem both_yes (x y u v : Int) (w : World) (h1 : vr x y = true) (h2 : vr u v = true) : Calls Tryd.prog 99 #[.agg #[.int .i64 x, .int .i64 y], .agg #[.int .i64 u, .int .i64 v]] w fun e w' => e = .returned (.bool true) ∧ Below w.heap.size w w' := by
  have V1 := hid fun W => valid_yes x y W h1
  have V2 := hid fun W => valid_yes u v W h2
  clear h1 h2
  have K0 := hid (has2_new (w.alloc (.cells #[.int .i64 x, .int .i64 y] 25)) (.int .i64 u) (.int .i64 v) 25)
  go_enter Tryd.func99, Tryd.ntmps99
  go_wp2_with fail
  refine (V1.out _).mono ?_
  rintro e w1 ⟨rfl, hb1⟩
  obtain ⟨k0, k1, kz, _, _⟩ := K0.out.below hb1
  simp only [World.size_alloc] at k0 k1 kz
  go_wp2_with fail
  refine (V2.out _).mono ?_
  rintro e w2 ⟨rfl, hb2⟩
  go_wp2_with fail
  go_ret
  exact ⟨rfl, (((Below.refl _ _).alloc (Nat.le_refl _) _).alloc (by simp) _).trans ((hb1.trans (hb2.mono hb1.size)).mono (by simp; omega))⟩

theorem both_no (x y u v : Int) (w : World) (hx : -9223372036854775808 ≤ x ∧ x ≤ 9223372036854775807) (hy : -9223372036854775808 ≤ y ∧ y ≤ 9223372036854775807) (hu : -9223372036854775808 ≤ u ∧ u ≤ 9223372036854775807) (hv : -9223372036854775808 ≤ v ∧ v ≤ 9223372036854775807)
    (h : (vr x y && vr u v) = false) : Calls Tryd.prog 99 #[.agg #[.int .i64 x, .int .i64 y], .agg #[.int .i64 u, .int .i64 v]] w fun e w' => e = .returned (.bool false) ∧ Below w.heap.size w w' := by
  cases h1 : vr x y with
  | false =>
    have V1 := hid fun W => valid_no x y W hx hy h1
    clear h1 h
    go_enter Tryd.func99, Tryd.ntmps99
    go_wp2_with fail
    refine (V1.out _).mono ?_
    rintro e w1 ⟨rfl, hb1⟩
    go_wp2_with fail
    go_ret
    exact ⟨rfl, (((Below.refl _ _).alloc (Nat.le_refl _) _).alloc (by simp) _).trans (hb1.mono (by simp; omega))⟩
  | true =>
    have h2 : vr u v = false := by rw [h1] at h; exact h
    have V1 := hid fun W => valid_yes x y W h1
    have V2 := hid fun W => valid_no u v W hu hv h2
    clear h1 h2 h
    have K0 := hid (has2_new (w.alloc (.cells #[.int .i64 x, .int .i64 y] 25)) (.int .i64 u) (.int .i64 v) 25)
    go_enter Tryd.func99, Tryd.ntmps99
    go_wp2_with fail
    refine (V1.out _).mono ?_
    rintro e w1 ⟨rfl, hb1⟩
    obtain ⟨k0, k1, kz, _, _⟩ := K0.out.below hb1
    simp only [World.size_alloc] at k0 k1 kz
    go_wp2_with fail
    refine (V2.out _).mono ?_
    rintro e w2 ⟨rfl, hb2⟩
    go_wp2_with fail
    go_ret
    exact ⟨rfl, (((Below.refl _ _).alloc (Nat.le_refl _) _).alloc (by simp) _).trans ((hb1.trans (hb2.mono hb1.size)).mono (by simp; omega))⟩

end Go.Proofs.YtgpdnleooeekbaaDoor.Ops
