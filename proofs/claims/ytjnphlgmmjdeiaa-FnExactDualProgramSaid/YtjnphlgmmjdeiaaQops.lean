/- Products, differences and quotients of two rationals, as options: the program's and the model's functions. -/
import Derived.Test.YtjnphlgmmjdeiaaSmqA
import Derived.Test.YtjnphlgmmjdeiaaSubSpec
namespace Go.Proofs.Ytjnphlgmmjdeiaa.Qops
open Go.RowKit
open Go.Proofs.Ytjnphlgmmjdeiaa.Num Go.Proofs.Ytjnphlgmmjdeiaa.IntRow Go.Proofs.Ytjnphlgmmjdeiaa.Rdr Go.Proofs.Ytjnphlgmmjdeiaa.HasL Go.Proofs.Ytjnphlgmmjdeiaa.Rat Go.Proofs.Ytjnphlgmmjdeiaa.RatLaw Go.Proofs.Ytjnphlgmmjdeiaa.Rats Go.Proofs.Ytjnphlgmmjdeiaa.Smq Go.Proofs.Ytjnphlgmmjdeiaa.SmqI Go.Proofs.Ytjnphlgmmjdeiaa.Keep Go.Proofs.Ytjnphlgmmjdeiaa.Kept Go.Proofs.Ytjnphlgmmjdeiaa.OpsImpl Go.Proofs.Ytjnphlgmmjdeiaa.OpsSpec Go.Proofs.Ytjnphlgmmjdeiaa.SubSpec
set_option linter.unusedVariables false

/-- A quotient, brought to its normal form where that may be. -/
def nrm (n d : Int) : Option RatD := if nok n d = true then some (nx n d, ny n d) else none
theorem nrm_vr {n d : Int} {r : RatD} (h : nrm n d = some r) : vr r.1 r.2 = true := by
  unfold nrm at h
  split at h
  · rename_i h2
    injection h with h
    subst h
    unfold nok at h2
    rw [Bool.and_eq_true] at h2
    exact h2.2
  · cases h
theorem vr_ib {p : RatD} (h : vr p.1 p.2 = true) : Ib p.1 ∧ Ib p.2 := by
  obtain ⟨g0, g1, g2, g3, _⟩ := vr_true h
  exact ⟨⟨by omega, by omega⟩, ⟨by omega, by omega⟩⟩
theorem opt_ib {o : Option RatD} (h : ∀ r, o = some r → vr r.1 r.2 = true) : Ib (fstQ o) ∧ Ib (sndQ o) := by
  cases o with
  | none => exact ⟨⟨by decide, by decide⟩, ⟨by decide, by decide⟩⟩
  | some r => exact vr_ib (h r rfl)
theorem addQ_bad (p : RatD) : addQ p (0, 0) = none := by
  have : vr 0 0 = false := by decide
  unfold addQ
  rw [if_neg (by simp [this])]

def mulQ (p q : RatD) : Option RatD := if (vr p.1 p.2 && vr q.1 q.2) = true then nrm (p.1 * q.1) (p.2 * q.2) else none
theorem mulQ_vr {p q r : RatD} (h : mulQ p q = some r) : vr r.1 r.2 = true := by
  unfold mulQ at h
  split at h
  · exact nrm_vr h
  · cases h
theorem mulQ_args {p q r : RatD} (h : mulQ p q = some r) : vr p.1 p.2 = true ∧ vr q.1 q.2 = true := by
  unfold mulQ at h
  split at h
  · rename_i h2
    rwa [Bool.and_eq_true] at h2
  · cases h
theorem mulQ_ib (p q : RatD) : Ib (fstQ (mulQ p q)) ∧ Ib (sndQ (mulQ p q)) := opt_ib fun r h => mulQ_vr h
theorem impl_mulQ (p q : RatD) (w : World) (p1 : Ib p.1) (p2 : Ib p.2) (h1 : Ib q.1) (h2 : Ib q.2) : Calls Try.prog 78 #[.agg #[.int .i64 p.1, .int .i64 p.2], .agg #[.int .i64 q.1, .int .i64 q.2]] w fun e w' => e = endQ (mulQ p q) ∧ Below w.heap.size w w' := by
  cases hv : (vr p.1 p.2 && vr q.1 q.2) with
  | true =>
    have hv' := hv
    rw [Bool.and_eq_true] at hv'
    refine (impl_mul_yes p.1 p.2 q.1 q.2 w hv'.1 hv'.2).mono ?_
    rintro e w' ⟨he, hw⟩
    refine ⟨he.trans ?_, hw⟩
    unfold mulQ nrm
    rw [hv, if_pos rfl]
    cases hn : nok (p.1 * q.1) (p.2 * q.2) with
    | true => rw [if_pos rfl]; rfl
    | false => rw [if_neg (by decide)]; rfl
  | false =>
    refine (impl_mul_no p.1 p.2 q.1 q.2 w p1 p2 h1 h2 hv).mono ?_
    rintro e w' ⟨he, hw⟩
    refine ⟨he.trans ?_, hw⟩
    unfold mulQ
    rw [hv, if_neg (by decide)]
    rfl
theorem spec_mulQ (p q : RatD) (w : World) (p1 : Ib p.1) (p2 : Ib p.2) (h1 : Ib q.1) (h2 : Ib q.2) : Calls Try.prog 97 #[.agg #[.int .i64 p.1, .int .i64 p.2], .agg #[.int .i64 q.1, .int .i64 q.2]] w fun e w' => e = endQ (mulQ p q) ∧ Below w.heap.size w w' := by
  cases hv : (vr p.1 p.2 && vr q.1 q.2) with
  | true =>
    have hv' := hv
    rw [Bool.and_eq_true] at hv'
    refine (spec_mul_yes p.1 p.2 q.1 q.2 w hv'.1 hv'.2).mono ?_
    rintro e w' ⟨he, hw⟩
    refine ⟨he.trans ?_, hw⟩
    unfold mulQ nrm
    rw [hv, if_pos rfl]
    cases hn : nok (p.1 * q.1) (p.2 * q.2) with
    | true => rw [if_pos rfl]; rfl
    | false => rw [if_neg (by decide)]; rfl
  | false =>
    refine (spec_mul_no p.1 p.2 q.1 q.2 w p1 p2 h1 h2 hv).mono ?_
    rintro e w' ⟨he, hw⟩
    refine ⟨he.trans ?_, hw⟩
    unfold mulQ
    rw [hv, if_neg (by decide)]
    rfl
def subQ (p q : RatD) : Option RatD := if (vr p.1 p.2 && vr q.1 q.2) = true then nrm (p.1 * q.2 - q.1 * p.2) (p.2 * q.2) else none
theorem subQ_vr {p q r : RatD} (h : subQ p q = some r) : vr r.1 r.2 = true := by
  unfold subQ at h
  split at h
  · exact nrm_vr h
  · cases h
theorem subQ_args {p q r : RatD} (h : subQ p q = some r) : vr p.1 p.2 = true ∧ vr q.1 q.2 = true := by
  unfold subQ at h
  split at h
  · rename_i h2
    rwa [Bool.and_eq_true] at h2
  · cases h
theorem subQ_ib (p q : RatD) : Ib (fstQ (subQ p q)) ∧ Ib (sndQ (subQ p q)) := opt_ib fun r h => subQ_vr h
theorem impl_subQ (p q : RatD) (w : World) (p1 : Ib p.1) (p2 : Ib p.2) (h1 : Ib q.1) (h2 : Ib q.2) : Calls Try.prog 120 #[.agg #[.int .i64 p.1, .int .i64 p.2], .agg #[.int .i64 q.1, .int .i64 q.2]] w fun e w' => e = endQ (subQ p q) ∧ Below w.heap.size w w' := by
  cases hv : (vr p.1 p.2 && vr q.1 q.2) with
  | true =>
    have hv' := hv
    rw [Bool.and_eq_true] at hv'
    refine (impl_sub_yes p.1 p.2 q.1 q.2 w hv'.1 hv'.2).mono ?_
    rintro e w' ⟨he, hw⟩
    refine ⟨he.trans ?_, hw⟩
    unfold subQ nrm
    rw [hv, if_pos rfl]
    cases hn : nok (p.1 * q.2 - q.1 * p.2) (p.2 * q.2) with
    | true => rw [if_pos rfl]; rfl
    | false => rw [if_neg (by decide)]; rfl
  | false =>
    refine (impl_sub_no p.1 p.2 q.1 q.2 w p1 p2 h1 h2 hv).mono ?_
    rintro e w' ⟨he, hw⟩
    refine ⟨he.trans ?_, hw⟩
    unfold subQ
    rw [hv, if_neg (by decide)]
    rfl
theorem spec_subQ (p q : RatD) (w : World) (p1 : Ib p.1) (p2 : Ib p.2) (h1 : Ib q.1) (h2 : Ib q.2) : Calls Try.prog 98 #[.agg #[.int .i64 p.1, .int .i64 p.2], .agg #[.int .i64 q.1, .int .i64 q.2]] w fun e w' => e = endQ (subQ p q) ∧ Below w.heap.size w w' := by
  cases hv : (vr p.1 p.2 && vr q.1 q.2) with
  | true =>
    have hv' := hv
    rw [Bool.and_eq_true] at hv'
    refine (spec_sub_yes p.1 p.2 q.1 q.2 w hv'.1 hv'.2).mono ?_
    rintro e w' ⟨he, hw⟩
    refine ⟨he.trans ?_, hw⟩
    unfold subQ nrm
    rw [hv, if_pos rfl]
    cases hn : nok (p.1 * q.2 - q.1 * p.2) (p.2 * q.2) with
    | true => rw [if_pos rfl]; rfl
    | false => rw [if_neg (by decide)]; rfl
  | false =>
    refine (spec_sub_no p.1 p.2 q.1 q.2 w p1 p2 h1 h2 hv).mono ?_
    rintro e w' ⟨he, hw⟩
    refine ⟨he.trans ?_, hw⟩
    unfold subQ
    rw [hv, if_neg (by decide)]
    rfl
def divQ (p q : RatD) : Option RatD := if (vr p.1 p.2 && vr q.1 q.2) = true then nrm (p.1 * q.2) (p.2 * q.1) else none
theorem divQ_vr {p q r : RatD} (h : divQ p q = some r) : vr r.1 r.2 = true := by
  unfold divQ at h
  split at h
  · exact nrm_vr h
  · cases h
theorem divQ_args {p q r : RatD} (h : divQ p q = some r) : vr p.1 p.2 = true ∧ vr q.1 q.2 = true := by
  unfold divQ at h
  split at h
  · rename_i h2
    rwa [Bool.and_eq_true] at h2
  · cases h
theorem divQ_ib (p q : RatD) : Ib (fstQ (divQ p q)) ∧ Ib (sndQ (divQ p q)) := opt_ib fun r h => divQ_vr h
theorem impl_divQ (p q : RatD) (w : World) (p1 : Ib p.1) (p2 : Ib p.2) (h1 : Ib q.1) (h2 : Ib q.2) : Calls Try.prog 95 #[.agg #[.int .i64 p.1, .int .i64 p.2], .agg #[.int .i64 q.1, .int .i64 q.2]] w fun e w' => e = endQ (divQ p q) ∧ Below w.heap.size w w' := by
  cases hv : (vr p.1 p.2 && vr q.1 q.2) with
  | true =>
    have hv' := hv
    rw [Bool.and_eq_true] at hv'
    refine (impl_div_yes p.1 p.2 q.1 q.2 w hv'.1 hv'.2).mono ?_
    rintro e w' ⟨he, hw⟩
    refine ⟨he.trans ?_, hw⟩
    unfold divQ nrm
    rw [hv, if_pos rfl]
    cases hn : nok (p.1 * q.2) (p.2 * q.1) with
    | true => rw [if_pos rfl]; rfl
    | false => rw [if_neg (by decide)]; rfl
  | false =>
    refine (impl_div_no p.1 p.2 q.1 q.2 w p1 p2 h1 h2 hv).mono ?_
    rintro e w' ⟨he, hw⟩
    refine ⟨he.trans ?_, hw⟩
    unfold divQ
    rw [hv, if_neg (by decide)]
    rfl
theorem spec_divQ (p q : RatD) (w : World) (p1 : Ib p.1) (p2 : Ib p.2) (h1 : Ib q.1) (h2 : Ib q.2) : Calls Try.prog 66 #[.agg #[.int .i64 p.1, .int .i64 p.2], .agg #[.int .i64 q.1, .int .i64 q.2]] w fun e w' => e = endQ (divQ p q) ∧ Below w.heap.size w w' := by
  cases hv : (vr p.1 p.2 && vr q.1 q.2) with
  | true =>
    have hv' := hv
    rw [Bool.and_eq_true] at hv'
    refine (spec_div_yes p.1 p.2 q.1 q.2 w hv'.1 hv'.2).mono ?_
    rintro e w' ⟨he, hw⟩
    refine ⟨he.trans ?_, hw⟩
    unfold divQ nrm
    rw [hv, if_pos rfl]
    cases hn : nok (p.1 * q.2) (p.2 * q.1) with
    | true => rw [if_pos rfl]; rfl
    | false => rw [if_neg (by decide)]; rfl
  | false =>
    refine (spec_div_no p.1 p.2 q.1 q.2 w p1 p2 h1 h2 hv).mono ?_
    rintro e w' ⟨he, hw⟩
    refine ⟨he.trans ?_, hw⟩
    unfold divQ
    rw [hv, if_neg (by decide)]
    rfl
end Go.Proofs.Ytjnphlgmmjdeiaa.Qops
