/- Contracts of the two comparisons of rationals. -/
import Derived.Test.YtjnphlgmmjdeiaaOpsSpec
namespace Go.Proofs.Ytjnphlgmmjdeiaa.CmpCalls
open Go.ChangeShapes Go.WideShapes Go.ChangeAt Go.RowKit
open Go.Proofs.Ytjnphlgmmjdeiaa.Num Go.Proofs.Ytjnphlgmmjdeiaa.Rat Go.Proofs.Ytjnphlgmmjdeiaa.Gcd Go.Proofs.Ytjnphlgmmjdeiaa.Valid Go.Proofs.Ytjnphlgmmjdeiaa.New Go.Proofs.Ytjnphlgmmjdeiaa.NewSpec Go.Proofs.Ytjnphlgmmjdeiaa.RatLaw Go.Proofs.Ytjnphlgmmjdeiaa.Cells Go.Proofs.Ytjnphlgmmjdeiaa.Ops Go.Proofs.Ytjnphlgmmjdeiaa.OpsSpec Go.Proofs.Ytjnphlgmmjdeiaa.AllV
set_option linter.unusedVariables false

/-- -1, 0 or 1. -/
def sgn (a b : Int) : Int := if a < b then -1 else if b < a then 1 else 0
theorem sgn_lt {a b : Int} (h : a < b) : sgn a b = -1 := if_pos h
theorem sgn_gt {a b : Int} (h : b < a) : sgn a b = 1 := by unfold sgn; rw [if_neg (by omega), if_pos h]
theorem sgn_eq {a b : Int} (h : a = b) : sgn a b = 0 := by unfold sgn; rw [if_neg (by omega), if_neg (by omega)]

theorem nan_no (x : Int) (w : World) : Calls Try.prog 111 #[.int .i64 x] w fun e w' => e = .returned (.bool false) ∧ w = w' := by
  have h : (x != x) = false := by simp
  go_enter Try.func111, Try.ntmps111
  go_wp2
  go_ret
  exact ⟨by simp, rfl⟩

theorem cmp_any (a b : Int) (w : World) : Calls Try.prog 82 #[.int .i64 a, .int .i64 b] w fun e w' => e = .returned (.int .i64 (sgn a b)) ∧ w = w' := by
  rcases (by omega : a < b ∨ b < a ∨ (a ≤ b ∧ b ≤ a)) with h | h | ⟨h, h2⟩
  · have HS := hid (sgn_lt h)
    go_enter Try.func82, Try.ntmps82
    go_wp2_with (go_at_call 111; (with_reducible refine (nan_no _ _).mono ?_); rintro e w1 ⟨rfl, rfl⟩)
    go_ret
    exact ⟨by rw [HS.out]; rfl, rfl⟩
  · have HS := hid (sgn_gt h)
    go_enter Try.func82, Try.ntmps82
    go_wp2_with (go_at_call 111; (with_reducible refine (nan_no _ _).mono ?_); rintro e w1 ⟨rfl, rfl⟩)
    go_ret
    exact ⟨by rw [HS.out]; rfl, rfl⟩
  · have HS := hid (sgn_eq (show a = b by omega))
    go_enter Try.func82, Try.ntmps82
    go_wp2_with (go_at_call 111; (with_reducible refine (nan_no _ _).mono ?_); rintro e w1 ⟨rfl, rfl⟩)
    go_ret
    exact ⟨by rw [HS.out]; rfl, rfl⟩

theorem impl_cmp_no (x y u v : Int) (w : World) (hx : -9223372036854775808 ≤ x ∧ x ≤ 9223372036854775807) (hy : -9223372036854775808 ≤ y ∧ y ≤ 9223372036854775807) (hu : -9223372036854775808 ≤ u ∧ u ≤ 9223372036854775807) (hv : -9223372036854775808 ≤ v ∧ v ≤ 9223372036854775807) (h : (vr x y && vr u v) = false) :
    Calls Try.prog 28 #[.agg #[.int .i64 x, .int .i64 y], .agg #[.int .i64 u, .int .i64 v]] w fun e w' => e = .returned (.int .i64 0) ∧ Below w.heap.size w w' := by
  have V := hid fun W n hn => two_no x y u v W n hn hx hy hu hv h
  clear h
  go_enter Try.func28, Try.ntmps28
  go_wp2_with fail
  with_reducible refine (V.out _ _ (by simp)).mono ?_
  rintro e w1 ⟨rfl, hb1⟩
  go_wp2_with fail
  go_ret
  exact ⟨rfl, ((((Below.refl _ _).alloc (Nat.le_refl _) _).alloc (by simp) _).alloc (by simp; omega) _).trans (hb1.mono (by simp; omega))⟩

theorem impl_cmp_yes (x y u v : Int) (w : World) (h1 : vr x y = true) (h2 : vr u v = true) :
    Calls Try.prog 28 #[.agg #[.int .i64 x, .int .i64 y], .agg #[.int .i64 u, .int .i64 v]] w fun e w' => e = .returned (.int .i64 (sgn (x * v) (u * y))) ∧ Below w.heap.size w w' := by
  obtain ⟨a0, a1, a2, a3, _⟩ := vr_true h1
  obtain ⟨b0, b1, b2, b3, _⟩ := vr_true h2
  have V := hid fun W n hn => two_yes x y u v W n hn h1 h2
  have m0 := mul_bd (x := x) (v := v) (by omega) (by omega) (by omega) (by omega)
  have m1 := mul_bd (x := u) (v := y) (by omega) (by omega) (by omega) (by omega)
  have C := hid fun W => cmp_any (x * v) (u * y) W
  generalize sgn (x * v) (u * y) = s at C ⊢
  clear h1 h2
  have KA := hid (((has2_new w (.int .i64 x) (.int .i64 y) 35).alloc (.cells #[.int .i64 u, .int .i64 v] 35)).alloc (.cells #[.int .i64 x, .int .i64 y, .int .i64 u, .int .i64 v] 35))
  have kb := has2_new (w.alloc (.cells #[.int .i64 x, .int .i64 y] 35)) (.int .i64 u) (.int .i64 v) 35
  simp only [World.size_alloc] at kb
  have KB := hid (kb.alloc (.cells #[.int .i64 x, .int .i64 y, .int .i64 u, .int .i64 v] 35))
  clear kb
  go_enter Try.func28, Try.ntmps28
  go_wp2_with fail
  with_reducible refine (V.out _ _ (by simp)).mono ?_
  rintro e w1 ⟨rfl, hb1⟩
  obtain ⟨k0, k1, kz, _, _⟩ := KA.out.below hb1
  obtain ⟨l0, l1, lz, _, _⟩ := KB.out.below hb1
  go_wp2_with fail
  refine (C.out _).mono ?_
  rintro e w2 ⟨rfl, rfl⟩
  go_wp2_with fail
  go_ret
  exact ⟨rfl, ((((Below.refl _ _).alloc (Nat.le_refl _) _).alloc (by simp) _).alloc (by simp; omega) _).trans (hb1.mono (by simp; omega))⟩

theorem spec_cmp_no (x y u v : Int) (w : World) (hx : -9223372036854775808 ≤ x ∧ x ≤ 9223372036854775807) (hy : -9223372036854775808 ≤ y ∧ y ≤ 9223372036854775807) (hu : -9223372036854775808 ≤ u ∧ u ≤ 9223372036854775807) (hv : -9223372036854775808 ≤ v ∧ v ≤ 9223372036854775807) (h : (vr x y && vr u v) = false) :
    Calls Try.prog 103 #[.agg #[.int .i64 x, .int .i64 y], .agg #[.int .i64 u, .int .i64 v]] w fun e w' => e = .returned (.int .i64 0) ∧ Below w.heap.size w w' := by
  have KA := hid ((has2_new w (.int .i64 x) (.int .i64 y) 35).alloc (.cells #[.int .i64 u, .int .i64 v] 35))
  have kb := has2_new (w.alloc (.cells #[.int .i64 x, .int .i64 y] 35)) (.int .i64 u) (.int .i64 v) 35
  simp only [World.size_alloc] at kb
  have KB := hid kb
  clear kb
  cases h1 : vr x y with
  | false =>
    have V1 := hid fun W => svalid_no x y W hx hy h1
    clear h1 h
    go_enter Try.func103, Try.ntmps103
    go_wp2_with fail
    refine (V1.out _).mono ?_
    rintro e w1 ⟨rfl, hb1⟩
    go_wp2_with fail
    go_ret
    exact ⟨rfl, (((Below.refl _ _).alloc (Nat.le_refl _) _).alloc (by simp) _).trans (hb1.mono (by simp; omega))⟩
  | true =>
    have h2 : vr u v = false := by rw [h1] at h; exact h
    have V1 := hid fun W => svalid_yes x y W h1
    have V2 := hid fun W => svalid_no u v W hu hv h2
    clear h1 h2 h
    go_enter Try.func103, Try.ntmps103
    go_wp2_with fail
    refine (V1.out _).mono ?_
    rintro e w1 ⟨rfl, hb1⟩
    obtain ⟨l0, l1, lz, _, _⟩ := KB.out.below hb1
    go_wp2_with fail
    refine (V2.out _).mono ?_
    rintro e w2 ⟨rfl, hb2⟩
    go_wp2_with fail
    go_ret
    exact ⟨rfl, (((Below.refl _ _).alloc (Nat.le_refl _) _).alloc (by simp) _).trans ((hb1.trans (hb2.mono hb1.size)).mono (by simp; omega))⟩

theorem spec_cmp_yes (x y u v : Int) (w : World) (h1 : vr x y = true) (h2 : vr u v = true) :
    Calls Try.prog 103 #[.agg #[.int .i64 x, .int .i64 y], .agg #[.int .i64 u, .int .i64 v]] w fun e w' => e = .returned (.int .i64 (sgn (x * v) (u * y))) ∧ Below w.heap.size w w' := by
  obtain ⟨a0, a1, a2, a3, _⟩ := vr_true h1
  obtain ⟨b0, b1, b2, b3, _⟩ := vr_true h2
  have V1 := hid fun W => svalid_yes x y W h1
  have V2 := hid fun W => svalid_yes u v W h2
  have m0 := mul_bd (x := x) (v := v) (by omega) (by omega) (by omega) (by omega)
  have m1 := mul_bd (x := u) (v := y) (by omega) (by omega) (by omega) (by omega)
  clear h1 h2
  have KA := hid ((has2_new w (.int .i64 x) (.int .i64 y) 35).alloc (.cells #[.int .i64 u, .int .i64 v] 35))
  have kb := has2_new (w.alloc (.cells #[.int .i64 x, .int .i64 y] 35)) (.int .i64 u) (.int .i64 v) 35
  simp only [World.size_alloc] at kb
  have KB := hid kb
  clear kb
  rcases (by omega : x * v < u * y ∨ u * y < x * v ∨ (x * v ≤ u * y ∧ u * y ≤ x * v)) with h | h | ⟨h, h2⟩
  · have HS := hid (sgn_lt h)
    go_enter Try.func103, Try.ntmps103
    go_wp2_with fail
    refine (V1.out _).mono ?_
    rintro e w1 ⟨rfl, hb1⟩
    have HA1 := hid (KA.out.below hb1)
    have HB1 := hid (KB.out.below hb1)
    obtain ⟨l0, l1, lz, _, _⟩ := KB.out.below hb1
    go_wp2_with fail
    clear l0 l1
    refine (V2.out _).mono ?_
    rintro e w2 ⟨rfl, hb2⟩
    obtain ⟨k0, k1, kz, _, _⟩ := HA1.out.below hb2
    obtain ⟨l0, l1, lz2, _, _⟩ := HB1.out.below hb2
    go_wp2_with fail
    go_ret
    exact ⟨by rw [HS.out]; rfl, (((Below.refl _ _).alloc (Nat.le_refl _) _).alloc (by simp) _).trans ((hb1.trans (hb2.mono hb1.size)).mono (by simp; omega))⟩
  · have HS := hid (sgn_gt h)
    go_enter Try.func103, Try.ntmps103
    go_wp2_with fail
    refine (V1.out _).mono ?_
    rintro e w1 ⟨rfl, hb1⟩
    have HA1 := hid (KA.out.below hb1)
    have HB1 := hid (KB.out.below hb1)
    obtain ⟨l0, l1, lz, _, _⟩ := KB.out.below hb1
    go_wp2_with fail
    clear l0 l1
    refine (V2.out _).mono ?_
    rintro e w2 ⟨rfl, hb2⟩
    obtain ⟨k0, k1, kz, _, _⟩ := HA1.out.below hb2
    obtain ⟨l0, l1, lz2, _, _⟩ := HB1.out.below hb2
    go_wp2_with fail
    go_ret
    exact ⟨by rw [HS.out]; rfl, (((Below.refl _ _).alloc (Nat.le_refl _) _).alloc (by simp) _).trans ((hb1.trans (hb2.mono hb1.size)).mono (by simp; omega))⟩
  · have HS := hid (sgn_eq (show x * v = u * y by omega))
    go_enter Try.func103, Try.ntmps103
    go_wp2_with fail
    refine (V1.out _).mono ?_
    rintro e w1 ⟨rfl, hb1⟩
    have HA1 := hid (KA.out.below hb1)
    have HB1 := hid (KB.out.below hb1)
    obtain ⟨l0, l1, lz, _, _⟩ := KB.out.below hb1
    go_wp2_with fail
    clear l0 l1
    refine (V2.out _).mono ?_
    rintro e w2 ⟨rfl, hb2⟩
    obtain ⟨k0, k1, kz, _, _⟩ := HA1.out.below hb2
    obtain ⟨l0, l1, lz2, _, _⟩ := HB1.out.below hb2
    go_wp2_with fail
    go_ret
    exact ⟨by rw [HS.out]; rfl, (((Below.refl _ _).alloc (Nat.le_refl _) _).alloc (by simp) _).trans ((hb1.trans (hb2.mono hb1.size)).mono (by simp; omega))⟩
end Go.Proofs.Ytjnphlgmmjdeiaa.CmpCalls
