/- Weights brought to a common denominator (no program in sight). -/
import Derived.Test.YtaiimjbdhcjobaaWgt
namespace Go.Proofs.Ytaiimjbdhcjobaa.ScP
open Go.RowKit
open Go.Proofs.Ytaiimjbdhcjobaa.Rat Go.Proofs.Ytaiimjbdhcjobaa.Rats Go.Proofs.Ytaiimjbdhcjobaa.Wgt
set_option linter.unusedVariables false

/-- The least common multiple of two numbers from 1 on. -/
def lc (d y : Int) : Int := d / ((Int.gcd d y : Nat) : Int) * y
theorem quo_in {d y : Int} (h1 : 1 ≤ d) (h2 : d ≤ 1000) (h3 : 1 ≤ y) : 1 ≤ ((Int.gcd d y : Nat) : Int) ∧ 1 ≤ d / ((Int.gcd d y : Nat) : Int) ∧ d / ((Int.gcd d y : Nat) : Int) ≤ 1000 := by
  have hg : 0 < Int.gcd d y := Int.gcd_pos_of_ne_zero_left _ (by omega)
  have hl : Int.gcd d y ≤ d.natAbs := Nat.le_of_dvd (by omega) (Nat.gcd_dvd_left _ _)
  refine ⟨by omega, ?_, ?_⟩
  · exact (Int.le_ediv_iff_mul_le (by omega)).2 (by omega)
  · exact Int.le_trans (Int.ediv_le_self _ (by omega)) h2
theorem mul_in {q y : Int} {m : Int} (h1 : 1 ≤ q) (h2 : q ≤ 1000) (h3 : 1 ≤ y) (h4 : y ≤ 1000000000) : 1 ≤ q * y ∧ q * y ≤ 1000000000000 := by
  have e1 : 1 * 1 ≤ q * y := Int.mul_le_mul h1 h3 (by omega) (by omega)
  have e2 : q * y ≤ 1000 * 1000000000 := Int.mul_le_mul h2 h4 (by omega) (by omega)
  omega
theorem lc_in {d y : Int} (h1 : 1 ≤ d) (h2 : d ≤ 1000) (h3 : 1 ≤ y) (h4 : y ≤ 1000000000) : 1 ≤ lc d y ∧ lc d y ≤ 1000000000000 := by
  obtain ⟨_, a, b⟩ := quo_in h1 h2 h3
  exact mul_in (m := 0) a b h3 h4
theorem lc_right (d y : Int) : y ∣ lc d y := ⟨_, Int.mul_comm _ _⟩
theorem lc_left (d y : Int) : d ∣ lc d y := by
  have hg : ((Int.gcd d y : Nat) : Int) ∣ d := Int.gcd_dvd_left _ _
  obtain ⟨z, hz⟩ : ((Int.gcd d y : Nat) : Int) ∣ y := Int.gcd_dvd_right _ _
  refine ⟨z, ?_⟩
  unfold lc
  generalize ((Int.gcd d y : Nat) : Int) = g at hg hz
  rw [hz, ← Int.mul_assoc, Int.ediv_mul_cancel hg]
/-- The common denominator of the first k weights. -/
def sc (xs : List RatD) : Nat → Option Int
  | 0 => some 1
  | k + 1 => (sc xs k).bind fun d => if (wt (xs.getD k (0, 0)) && decide (lc d (xs.getD k (0, 0)).2 ≤ 1000)) = true then some (lc d (xs.getD k (0, 0)).2) else none
theorem sc_none {xs : List RatD} {k n : Nat} (h : sc xs k = none) (hk : k ≤ n) : sc xs n = none := by
  induction n with
  | zero => have e : k = 0 := by omega
            subst e; exact h
  | succ n ih =>
    by_cases e : k = n + 1
    · subst e; exact h
    · rw [sc, ih (by omega)]; rfl
theorem sc_step {xs : List RatD} {k : Nat} {d : Int} (h : sc xs k = some d) (hk : k < xs.length) : sc xs (k + 1) = if (wt xs[k] && decide (lc d xs[k].2 ≤ 1000)) = true then some (lc d xs[k].2) else none := by
  rw [sc, h, List.getD_eq_getElem?_getD, List.getElem?_eq_getElem hk]; rfl
theorem sc_w {xs : List RatD} {k : Nat} {d : Int} (h : sc xs k = some d) (hk : k < xs.length) (e : wt xs[k] = false) : sc xs (k + 1) = none := by
  rw [sc_step h hk, e, Bool.false_and]; rfl
theorem sc_big {xs : List RatD} {k : Nat} {d : Int} (h : sc xs k = some d) (hk : k < xs.length) (e : 1000 < lc d xs[k].2) : sc xs (k + 1) = none := by
  rw [sc_step h hk, decide_eq_false (show ¬ lc d xs[k].2 ≤ 1000 by omega), Bool.and_false]; rfl
theorem sc_yes {xs : List RatD} {k : Nat} {d : Int} (h : sc xs k = some d) (hk : k < xs.length) (e : wt xs[k] = true) (e2 : lc d xs[k].2 ≤ 1000) : sc xs (k + 1) = some (lc d xs[k].2) := by
  rw [sc_step h hk, e, decide_eq_true e2]; rfl
theorem sc_back {xs : List RatD} {k : Nat} {d' : Int} (hk : k < xs.length) (h : sc xs (k + 1) = some d') : ∃ d, sc xs k = some d ∧ wt xs[k] = true ∧ lc d xs[k].2 ≤ 1000 ∧ d' = lc d xs[k].2 := by
  cases hd : sc xs k with
  | none => rw [sc, hd] at h; cases h
  | some d =>
    rw [sc_step hd hk] at h
    split at h
    · rename_i hc
      rw [Bool.and_eq_true, decide_eq_true_eq] at hc
      injection h with h
      exact ⟨d, rfl, hc.1, hc.2, h.symm⟩
    · cases h
theorem sc_in {xs : List RatD} (k : Nat) (hk : k ≤ xs.length) {d : Int} (h : sc xs k = some d) : 1 ≤ d ∧ d ≤ 1000 := by
  induction k generalizing d with
  | zero => rw [sc] at h; injection h with h; omega
  | succ k ih =>
    obtain ⟨d0, h0, hw, hl, rfl⟩ := sc_back (show k < xs.length by omega) h
    obtain ⟨a, b⟩ := ih (by omega) h0
    have hv := vr_true (wt_vr hw).1
    exact ⟨(lc_in a b hv.1 hv.2.1).1, hl⟩
theorem sc_all {xs : List RatD} (k : Nat) (hk : k ≤ xs.length) {d : Int} (h : sc xs k = some d) : ∀ j (hj : j < xs.length), j < k → wt xs[j] = true ∧ xs[j].2 ∣ d := by
  induction k generalizing d with
  | zero => intro j _ h2; omega
  | succ k ih =>
    obtain ⟨d0, h0, hw, hl, rfl⟩ := sc_back (show k < xs.length by omega) h
    intro j hj hjk
    by_cases e : j = k
    · subst e; exact ⟨hw, lc_right _ _⟩
    · obtain ⟨a, b⟩ := ih (by omega) h0 j hj (by omega)
      exact ⟨a, Int.dvd_trans b (lc_left _ _)⟩
def zs (xs : List RatD) (d : Int) : List Int := xs.map fun p => p.1 * (d / p.2)
theorem zs_len (xs : List RatD) (d : Int) : (zs xs d).length = xs.length := by simp [zs]
theorem zs_at (xs : List RatD) (d : Int) (k : Nat) (h : k < (zs xs d).length) (h2 : k < xs.length) : (zs xs d)[k] = xs[k].1 * (d / xs[k].2) := by simp [zs]
theorem zs_in {p : RatD} {d : Int} (h : wt p = true) (h1 : 1 ≤ d) (h2 : d ≤ 1000) : 0 ≤ d / p.2 ∧ d / p.2 ≤ 1000 ∧ 0 ≤ p.1 * (d / p.2) ∧ p.1 * (d / p.2) ≤ 1000000000000 := by
  obtain ⟨hv, h0⟩ := wt_vr h
  have hr := vr_true hv
  have q0 : 0 ≤ d / p.2 := Int.ediv_nonneg (by omega) (by omega)
  have q1 : d / p.2 ≤ 1000 := Int.le_trans (Int.ediv_le_self _ (by omega)) h2
  have e1 : 0 ≤ p.1 * (d / p.2) := Int.mul_nonneg h0 q0
  have e2 : p.1 * (d / p.2) ≤ 1000000000 * 1000 := Int.mul_le_mul (by omega) q1 q0 (by omega)
  omega
/-- What the call gives: the numbers, the denominator. -/
def outZ (xs : List RatD) : List Int := match sc xs xs.length with
  | some d => zs xs d
  | none => []
def outD (xs : List RatD) : Int := (sc xs xs.length).getD 0
theorem out_no {xs : List RatD} (h : sc xs xs.length = none) : outZ xs = [] ∧ outD xs = 0 := by unfold outZ outD; rw [h]; exact ⟨rfl, rfl⟩
theorem out_yes {xs : List RatD} {d : Int} (h : sc xs xs.length = some d) : outZ xs = zs xs d ∧ outD xs = d := by unfold outZ outD; rw [h]; exact ⟨rfl, rfl⟩
theorem outZ_len (xs : List RatD) : (outZ xs).length ≤ xs.length := by
  unfold outZ
  split
  · rw [zs_len]; exact Nat.le_refl _
  · simp
end Go.Proofs.Ytaiimjbdhcjobaa.ScP
