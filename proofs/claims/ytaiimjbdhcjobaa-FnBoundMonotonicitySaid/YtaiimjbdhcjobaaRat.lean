/- Plain lemmas on rationals for chapter 2 (no program in sight). -/
import Derived.WalkKit
import Derived.Below
import Derived.IntWalk
namespace Go.Proofs.Ytaiimjbdhcjobaa.Rat

theorem gcd_step (x y : Int) : Int.gcd y (x.tmod y) = Int.gcd x y := by
  show y.natAbs.gcd (x.tmod y).natAbs = x.natAbs.gcd y.natAbs
  rw [Int.natAbs_tmod, Nat.gcd_comm x.natAbs, Nat.gcd_rec y.natAbs x.natAbs, Nat.gcd_comm]

theorem tmod_small (x y : Int) (h : y ≠ 0) : (x.tmod y).natAbs < y.natAbs := by
  rw [Int.natAbs_tmod]; exact Nat.mod_lt _ (by omega)

theorem gcd_zero (x : Int) : ((Int.gcd x 0 : Nat) : Int) = if 0 ≤ x then x else -x := by
  show ((x.natAbs.gcd 0 : Nat) : Int) = _
  rw [Nat.gcd_zero_right]; split <;> omega

theorem gcd_le (x y : Int) (h : y ≠ 0) : 1 ≤ ((Int.gcd x y : Nat) : Int) ∧ ((Int.gcd x y : Nat) : Int) ≤ y.natAbs := by
  have h1 : 0 < Int.gcd x y := Int.gcd_pos_of_ne_zero_right _ h
  have h2 : Int.gcd x y ≤ y.natAbs := Nat.le_of_dvd (by omega) (Nat.gcd_dvd_right _ _)
  omega

/-- A rational in its normal form. -/
def vr (x y : Int) : Bool := decide (1 ≤ y) && (decide (y ≤ 1000000000) && (decide (-1000000000 ≤ x) && (decide (x ≤ 1000000000) && decide (Int.gcd x y = 1))))

theorem vr_true {x y : Int} (h : vr x y = true) : 1 ≤ y ∧ y ≤ 1000000000 ∧ -1000000000 ≤ x ∧ x ≤ 1000000000 ∧ Int.gcd x y = 1 := by
  simpa [vr] using h
theorem vr_mk {x y : Int} (h1 : 1 ≤ y) (h2 : y ≤ 1000000000) (h3 : -1000000000 ≤ x) (h4 : x ≤ 1000000000) (h5 : Int.gcd x y = 1) : vr x y = true := by
  simp [vr, *]
theorem vr_iff {x y : Int} : vr x y = true ↔ (1 ≤ y ∧ y ≤ 1000000000 ∧ -1000000000 ≤ x ∧ x ≤ 1000000000 ∧ Int.gcd x y = 1) :=
  ⟨vr_true, fun h => vr_mk h.1 h.2.1 h.2.2.1 h.2.2.2.1 h.2.2.2.2⟩

/-- The signed divisor: the greatest common divisor with the sign of d. -/
def gd (n d : Int) : Int := if d < 0 then -((Int.gcd n d : Nat) : Int) else ((Int.gcd n d : Nat) : Int)
def nx (n d : Int) : Int := n.tdiv (gd n d)
def ny (n d : Int) : Int := d.tdiv (gd n d)
/-- May n and d be brought to their normal form? -/
def fits (n d : Int) : Bool := decide (d ≠ 0) && (decide (-4000000000000000000 ≤ n) && (decide (n ≤ 4000000000000000000) && (decide (-4000000000000000000 ≤ d) && decide (d ≤ 4000000000000000000))))
def nok (n d : Int) : Bool := fits n d && vr (nx n d) (ny n d)

theorem fits_true {n d : Int} (h : fits n d = true) : d ≠ 0 ∧ -4000000000000000000 ≤ n ∧ n ≤ 4000000000000000000 ∧ -4000000000000000000 ≤ d ∧ d ≤ 4000000000000000000 := by
  simpa [fits] using h
theorem fits_mk {n d : Int} (h0 : d ≠ 0) (h1 : -4000000000000000000 ≤ n) (h2 : n ≤ 4000000000000000000) (h3 : -4000000000000000000 ≤ d) (h4 : d ≤ 4000000000000000000) : fits n d = true := by
  simp [fits, *]
theorem fits_false {n d : Int} (h : fits n d = false) : d = 0 ∨ n < -4000000000000000000 ∨ 4000000000000000000 < n ∨ d < -4000000000000000000 ∨ 4000000000000000000 < d := by
  by_cases h0 : d ≠ 0 ∧ -4000000000000000000 ≤ n ∧ n ≤ 4000000000000000000 ∧ -4000000000000000000 ≤ d ∧ d ≤ 4000000000000000000
  · rw [fits_mk h0.1 h0.2.1 h0.2.2.1 h0.2.2.2.1 h0.2.2.2.2] at h; cases h
  · omega

theorem gd_ne {n d : Int} (h : d ≠ 0) : gd n d ≠ 0 := by
  have := gcd_le n d h
  unfold gd; split <;> omega
theorem gd_dvd_left (n d : Int) : gd n d ∣ n := by
  unfold gd; split
  · exact Int.neg_dvd.2 (Int.gcd_dvd_left _ _)
  · exact Int.gcd_dvd_left _ _
theorem gd_dvd_right (n d : Int) : gd n d ∣ d := by
  unfold gd; split
  · exact Int.neg_dvd.2 (Int.gcd_dvd_right _ _)
  · exact Int.gcd_dvd_right _ _
theorem nx_mul (n d : Int) : nx n d * gd n d = n := Int.tdiv_mul_cancel (gd_dvd_left n d)
theorem ny_mul (n d : Int) : ny n d * gd n d = d := Int.tdiv_mul_cancel (gd_dvd_right n d)

theorem ny_pos {n d : Int} (h : d ≠ 0) : 1 ≤ ny n d := by
  have h1 := ny_mul n d
  have h2 := gcd_le n d h
  rcases Int.lt_or_lt_of_ne h with h3 | h3
  · have e : gd n d = -((Int.gcd n d : Nat) : Int) := by unfold gd; rw [if_pos h3]
    rw [e] at h1
    apply Classical.byContradiction; intro hc
    have : 0 ≤ ny n d * -((Int.gcd n d : Nat) : Int) := Int.mul_nonneg_of_nonpos_of_nonpos (by omega) (by omega)
    omega
  · have e : gd n d = ((Int.gcd n d : Nat) : Int) := by unfold gd; rw [if_neg (by omega)]
    rw [e] at h1
    apply Classical.byContradiction; intro hc
    have : ny n d * ((Int.gcd n d : Nat) : Int) ≤ 0 := Int.mul_nonpos_of_nonpos_of_nonneg (by omega) (by omega)
    omega

theorem gd_natAbs (n d : Int) : (gd n d).natAbs = Int.gcd n d := by
  unfold gd; split <;> omega

theorem ncop {n d : Int} (h : d ≠ 0) : Int.gcd (nx n d) (ny n d) = 1 := by
  have hx := nx_mul n d
  have hy := ny_mul n d
  have hg := gcd_le n d h
  have e : Int.gcd (nx n d) (ny n d) * Int.gcd n d = Int.gcd n d := by
    rw [← gd_natAbs n d]
    show (nx n d).natAbs.gcd (ny n d).natAbs * _ = _
    rw [← Nat.gcd_mul_right, ← Int.natAbs_mul, ← Int.natAbs_mul, hx, hy, gd_natAbs]
    rfl
  have h0 : 0 < Int.gcd n d := by omega
  exact Nat.eq_of_mul_eq_mul_right h0 (by omega)

theorem dvd_cop {k m n : Int} (h : k ∣ m * n) (hc : Int.gcd m k = 1) : k ∣ n := by
  rw [← Int.natAbs_dvd_natAbs] at h ⊢
  rw [Int.natAbs_mul] at h
  exact Nat.Coprime.dvd_of_dvd_mul_left (by rw [Nat.coprime_comm]; exact hc) h

/-- The normal form is the only one: a/b = n/d with b > 0 in lowest terms. -/
theorem nuniq {n d a b : Int} (hd : d ≠ 0) (hb : 1 ≤ b) (hg : Int.gcd a b = 1) (h : a * d = n * b) : nx n d = a ∧ ny n d = b := by
  have hx := nx_mul n d
  have hy := ny_mul n d
  have hn := gd_ne (n := n) hd
  have hc := ncop (n := n) hd
  have hp := ny_pos (n := n) hd
  have e : a * ny n d = nx n d * b := by
    apply Int.eq_of_mul_eq_mul_right hn
    calc a * ny n d * gd n d = a * (ny n d * gd n d) := by rw [Int.mul_assoc]
      _ = n * b := by rw [hy, h]
      _ = nx n d * gd n d * b := by rw [hx]
      _ = nx n d * b * gd n d := by rw [Int.mul_assoc, Int.mul_comm (gd n d), ← Int.mul_assoc]
  have d1 : ny n d ∣ b := by
    have : ny n d ∣ nx n d * b := ⟨a, by rw [← e, Int.mul_comm]⟩
    exact dvd_cop this hc
  have d2 : b ∣ ny n d := by
    have : b ∣ a * ny n d := ⟨nx n d, by rw [e, Int.mul_comm]⟩
    exact dvd_cop this hg
  have e2 : ny n d = b := Int.dvd_antisymm (by omega) (by omega) d1 d2
  refine ⟨?_, e2⟩
  rw [e2] at e
  exact (Int.eq_of_mul_eq_mul_right (by omega) e).symm

theorem nself {a b : Int} (hb : 1 ≤ b) (hg : Int.gcd a b = 1) : nx a b = a ∧ ny a b = b :=
  nuniq (by omega) hb hg rfl

end Go.Proofs.Ytaiimjbdhcjobaa.Rat
