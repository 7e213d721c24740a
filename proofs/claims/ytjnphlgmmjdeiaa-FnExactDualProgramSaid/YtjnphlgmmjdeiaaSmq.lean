/- Sums of rationals (no program in sight). -/
import Derived.Test.YtjnphlgmmjdeiaaRats
namespace Go.Proofs.Ytjnphlgmmjdeiaa.Smq
open Go.RowKit
open Go.Proofs.Ytjnphlgmmjdeiaa.Rat Go.Proofs.Ytjnphlgmmjdeiaa.Rats
set_option linter.unusedVariables false

/-- The sum of two rationals, where both are valid and the sum may be brought to its normal form. -/
def addQ (p q : RatD) : Option RatD := if (vr p.1 p.2 && vr q.1 q.2) = true then (if nok (p.1 * q.2 + q.1 * p.2) (p.2 * q.2) = true then some (nx (p.1 * q.2 + q.1 * p.2) (p.2 * q.2), ny (p.1 * q.2 + q.1 * p.2) (p.2 * q.2)) else none) else none
/-- The sum of the first k. -/
def sm (xs : List RatD) : Nat → Option RatD
  | 0 => some (0, 1)
  | k + 1 => (sm xs k).bind fun p => addQ p (xs.getD k (0, 0))
theorem sm_none {xs : List RatD} {k n : Nat} (h : sm xs k = none) (hk : k ≤ n) : sm xs n = none := by
  induction n with
  | zero => have e : k = 0 := by omega
            subst e; exact h
  | succ n ih =>
    by_cases e : k = n + 1
    · subst e; exact h
    · rw [sm, ih (by omega)]; rfl
theorem sm_step {xs : List RatD} {k : Nat} {p : RatD} (h : sm xs k = some p) (hk : k < xs.length) : sm xs (k + 1) = addQ p xs[k] := by
  rw [sm, h, List.getD_eq_getElem?_getD, List.getElem?_eq_getElem hk]; rfl
theorem vr_one : vr 0 1 = true := by decide
theorem addQ_vr {p q r : RatD} (h : addQ p q = some r) : vr r.1 r.2 = true := by
  unfold addQ at h
  split at h
  · split at h
    · rename_i h2
      injection h with h
      subst h
      unfold nok at h2
      rw [Bool.and_eq_true] at h2
      exact h2.2
    · cases h
  · cases h
theorem sm_vr {xs : List RatD} {k : Nat} {p : RatD} (h : sm xs k = some p) : vr p.1 p.2 = true := by
  cases k with
  | zero => rw [sm] at h; injection h with h; subst h; exact vr_one
  | succ k =>
    rw [sm] at h
    cases hq : sm xs k with
    | none => rw [hq] at h; cases h
    | some q => rw [hq] at h; exact addQ_vr h
def sumQ (xs : List RatD) : Option RatD := sm xs xs.length
theorem sumQ_vr {xs : List RatD} {p : RatD} (h : sumQ xs = some p) : vr p.1 p.2 = true := sm_vr h
/-- The three results. -/
def okQ (o : Option RatD) : Bool := o.isSome
def fstQ (o : Option RatD) : Int := (o.getD (0, 0)).1
def sndQ (o : Option RatD) : Int := (o.getD (0, 0)).2
end Go.Proofs.Ytjnphlgmmjdeiaa.Smq
