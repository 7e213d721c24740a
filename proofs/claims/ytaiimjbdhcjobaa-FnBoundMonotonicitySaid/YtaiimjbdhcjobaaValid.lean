/- Contracts of the two tests of validity, and of the small range tests. -/
import Derived.Test.YtaiimjbdhcjobaaGcd
namespace Go.Proofs.Ytaiimjbdhcjobaa.Valid
open Go.ChangeShapes Go.WideShapes Go.ChangeAt Go.RowKit
open Go.Proofs.Ytaiimjbdhcjobaa.Num Go.Proofs.Ytaiimjbdhcjobaa.Rat Go.Proofs.Ytaiimjbdhcjobaa.Gcd
set_option linter.unusedVariables false

def inR (x lo hi : Int) : Bool := decide (lo ≤ x) && decide (x ≤ hi)
theorem inR_true {x lo hi : Int} (h : inR x lo hi = true) : lo ≤ x ∧ x ≤ hi := by simpa [inR] using h
theorem inR_mk {x lo hi : Int} (h : lo ≤ x) (h2 : x ≤ hi) : inR x lo hi = true := by simp [inR, *]
theorem inR_not {x lo hi : Int} (h : x < lo ∨ hi < x) : inR x lo hi = false := by simp [inR]; omega
theorem inR_false {x lo hi : Int} (h : inR x lo hi = false) : x < lo ∨ hi < x := by
  simp [inR] at h; omega

theorem spec_in (x lo hi : Int) (w : World) : Calls Try.prog 76 #[.int .i64 x, .int .i64 lo, .int .i64 hi] w fun e w' => e = .returned (.bool (inR x lo hi)) ∧ w = w' := by
  by_cases h : lo ≤ x
  · by_cases h2 : x ≤ hi
    · have H := hid (inR_mk h h2)
      go_enter Try.func76, Try.ntmps76
      go_wp2
      go_ret
      exact ⟨by rw [H.out]; rfl, rfl⟩
    · have H := hid (inR_not (lo := lo) (Or.inr (Int.not_le.1 h2)))
      go_enter Try.func76, Try.ntmps76
      go_wp2
      go_ret
      exact ⟨by rw [H.out]; rfl, rfl⟩
  · have H := hid (inR_not (hi := hi) (Or.inl (Int.not_le.1 h)))
    go_enter Try.func76, Try.ntmps76
    go_wp2
    go_ret
    exact ⟨by rw [H.out]; rfl, rfl⟩

theorem in_yes (x lo hi : Int) (w : World) (h : inR x lo hi = true) : Calls Try.prog 76 #[.int .i64 x, .int .i64 lo, .int .i64 hi] w fun e w' => e = .returned (.bool true) ∧ w = w' := by
  have := spec_in x lo hi w; rw [h] at this; exact this
theorem in_no (x lo hi : Int) (w : World) (h : inR x lo hi = false) : Calls Try.prog 76 #[.int .i64 x, .int .i64 lo, .int .i64 hi] w fun e w' => e = .returned (.bool false) ∧ w = w' := by
  have := spec_in x lo hi w; rw [h] at this; exact this

theorem vr_no {x y : Int} (h : y < 1 ∨ 1000000000 < y ∨ x < -1000000000 ∨ 1000000000 < x ∨ Int.gcd x y ≠ 1) : vr x y = false := by
  cases hv : vr x y with
  | false => rfl
  | true => have := vr_true hv; omega

theorem impl_valid (x y : Int) (w : World) (h0 : -9223372036854775808 ≤ x) (h1 : x ≤ 9223372036854775807) (h2 : -9223372036854775808 ≤ y) (h3 : y ≤ 9223372036854775807) :
    Calls Try.prog 125 #[.agg #[.int .i64 x, .int .i64 y]] w fun e w' => e = .returned (.bool (vr x y)) ∧ Below w.heap.size w w' := by
  rcases (by omega : y < 1 ∨ (1 ≤ y ∧ 1000000000 < y) ∨ (1 ≤ y ∧ y ≤ 1000000000 ∧ x < -1000000000) ∨ (1 ≤ y ∧ y ≤ 1000000000 ∧ -1000000000 ≤ x ∧ 1000000000 < x) ∨ (1 ≤ y ∧ y ≤ 1000000000 ∧ -1000000000 ≤ x ∧ x ≤ 1000000000)) with g | ⟨g0, g⟩ | ⟨g0, g1, g⟩ | ⟨g0, g1, g2, g⟩ | ⟨g0, g1, g2, g⟩
  · have H := hid (vr_no (x := x) (y := y) (by omega))
    go_enter Try.func125, Try.ntmps125
    go_wp2
    go_ret
    exact ⟨by rw [H.out]; rfl, (Below.refl _ _).alloc (Nat.le_refl _) _⟩
  · have H := hid (vr_no (x := x) (y := y) (by omega))
    go_enter Try.func125, Try.ntmps125
    go_wp2
    go_ret
    exact ⟨by rw [H.out]; rfl, (Below.refl _ _).alloc (Nat.le_refl _) _⟩
  · have H := hid (vr_no (x := x) (y := y) (by omega))
    go_enter Try.func125, Try.ntmps125
    go_wp2
    go_ret
    exact ⟨by rw [H.out]; rfl, (Below.refl _ _).alloc (Nat.le_refl _) _⟩
  · have H := hid (vr_no (x := x) (y := y) (by omega))
    go_enter Try.func125, Try.ntmps125
    go_wp2
    go_ret
    exact ⟨by rw [H.out]; rfl, (Below.refl _ _).alloc (Nat.le_refl _) _⟩
  · by_cases hg : Int.gcd x y = 1
    · have H := hid (vr_mk (x := x) (y := y) (by omega) (by omega) (by omega) (by omega) hg)
      have HG := hid hg
      clear hg
      go_enter Try.func125, Try.ntmps125
      go_wp2_with fail
      refine (impl_gcd x y _ (by omega) (by omega) (by omega) (by omega)).mono ?_
      rintro e w1 ⟨rfl, hb⟩
      rw [HG.out]
      go_wp2_with fail
      go_ret
      exact ⟨by rw [H.out]; rfl, ((Below.refl _ _).alloc (Nat.le_refl _) _).trans (hb.mono (by simp))⟩
    · have H := hid (vr_no (x := x) (y := y) (by omega))
      have hg' : (((Int.gcd x y : Nat) : Int) == 1) = false := by simp; omega
      go_enter Try.func125, Try.ntmps125
      go_wp2_with fail
      refine (impl_gcd x y _ (by omega) (by omega) (by omega) (by omega)).mono ?_
      rintro e w1 ⟨rfl, hb⟩
      go_wp2_with fail
      go_ret
      exact ⟨by rw [H.out]; rfl, ((Below.refl _ _).alloc (Nat.le_refl _) _).trans (hb.mono (by simp))⟩

theorem spec_valid (x y : Int) (w : World) (h0 : -9223372036854775808 ≤ x) (h1 : x ≤ 9223372036854775807) (h2 : -9223372036854775808 ≤ y) (h3 : y ≤ 9223372036854775807) :
    Calls Try.prog 126 #[.agg #[.int .i64 x, .int .i64 y]] w fun e w' => e = .returned (.bool (vr x y)) ∧ Below w.heap.size w w' := by
  by_cases g1 : inR y 1 1000000000 = true
  · have G1 := inR_true g1
    have H1 := hid g1
    clear g1
    by_cases g2 : inR x (-1000000000) 1000000000 = true
    · have G2 := inR_true g2
      have H2 := hid g2
      clear g2
      have HV := hid (show vr x y = (((Int.gcd x y : Nat) : Int) == 1) from by
        by_cases hg : Int.gcd x y = 1
        · rw [vr_mk (by omega) (by omega) (by omega) (by omega) hg, hg]; rfl
        · rw [vr_no (by omega)]; symm; simp; omega)
      by_cases hx : 0 ≤ x
      · go_enter Try.func126, Try.ntmps126
        go_wp2_with fail
        refine (in_yes _ _ _ _ H1.out).mono ?_
        rintro e w1 ⟨rfl, rfl⟩
        go_wp2_with fail
        refine (in_yes _ _ _ _ H2.out).mono ?_
        rintro e w1 ⟨rfl, rfl⟩
        go_wp2_with fail
        refine (spec_gcd x y _ (by omega) (by omega) (by omega) (by omega) (by omega) (by omega)).mono ?_
        rintro e w1 ⟨rfl, rfl⟩
        go_wp2_with fail
        go_ret
        exact ⟨by rw [HV.out]; rfl, (Below.refl _ _).alloc (Nat.le_refl _) _⟩
      · go_enter Try.func126, Try.ntmps126
        go_wp2_with fail
        refine (in_yes _ _ _ _ H1.out).mono ?_
        rintro e w1 ⟨rfl, rfl⟩
        go_wp2_with fail
        refine (in_yes _ _ _ _ H2.out).mono ?_
        rintro e w1 ⟨rfl, rfl⟩
        go_wp2_with fail
        refine (spec_gcd (-x) y _ (by omega) (by omega) (by omega) (by omega) (by omega) (by omega)).mono ?_
        rintro e w1 ⟨rfl, rfl⟩
        go_wp2_with fail
        go_ret
        exact ⟨by rw [HV.out]; rfl, (Below.refl _ _).alloc (Nat.le_refl _) _⟩
    · have H2 := hid (show inR x (-1000000000) 1000000000 = false by simpa using g2)
      have H := hid (vr_no (x := x) (y := y) (by have := inR_false H2.out; omega))
      clear g2
      go_enter Try.func126, Try.ntmps126
      go_wp2_with fail
      refine (in_yes _ _ _ _ H1.out).mono ?_
      rintro e w1 ⟨rfl, rfl⟩
      go_wp2_with fail
      refine (in_no _ _ _ _ H2.out).mono ?_
      rintro e w1 ⟨rfl, rfl⟩
      go_wp2_with fail
      go_ret
      exact ⟨by rw [H.out]; rfl, (Below.refl _ _).alloc (Nat.le_refl _) _⟩
  · have H1 := hid (show inR y 1 1000000000 = false by simpa using g1)
    have H := hid (vr_no (x := x) (y := y) (by have := inR_false H1.out; omega))
    clear g1
    go_enter Try.func126, Try.ntmps126
    go_wp2_with fail
    refine (in_no _ _ _ _ H1.out).mono ?_
    rintro e w1 ⟨rfl, rfl⟩
    go_wp2_with fail
    go_ret
    exact ⟨by rw [H.out]; rfl, (Below.refl _ _).alloc (Nat.le_refl _) _⟩

end Go.Proofs.Ytaiimjbdhcjobaa.Valid
