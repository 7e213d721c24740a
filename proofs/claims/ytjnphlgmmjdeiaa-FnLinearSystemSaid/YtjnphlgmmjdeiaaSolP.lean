/- Gauss-Jordan elimination on lists of rows of rationals (no program in sight). -/
import Derived.Test.YtjnphlgmmjdeiaaLinP
namespace Go.Proofs.Ytjnphlgmmjdeiaa.SolP
open Go.RowKit
open Go.Proofs.Ytjnphlgmmjdeiaa.Rat Go.Proofs.Ytjnphlgmmjdeiaa.Rats Go.Proofs.Ytjnphlgmmjdeiaa.RatOwn Go.Proofs.Ytjnphlgmmjdeiaa.Smq Go.Proofs.Ytjnphlgmmjdeiaa.Qops Go.Proofs.Ytjnphlgmmjdeiaa.LinP
set_option linter.unusedVariables false

/-- The first k elements of r from column p on are lessened by f times those of q. -/
def ro (r q : List RatD) (f : RatD) (p : Nat) : Nat → Option (List RatD)
  | 0 => some r
  | k + 1 => (ro r q f p k).bind fun l => (mulQ f (q.getD (p + k) (0, 0))).bind fun pr => (subQ (r.getD (p + k) (0, 0)) pr).map fun d => l.set (p + k) d
theorem ro_none {r q : List RatD} {f : RatD} {p k n : Nat} (h : ro r q f p k = none) (hk : k ≤ n) : ro r q f p n = none := by
  induction n with
  | zero => have e : k = 0 := by omega
            subst e; exact h
  | succ n ih =>
    by_cases e : k = n + 1
    · subst e; exact h
    · rw [ro, ih (by omega)]; rfl
theorem ro_len {r q l : List RatD} {f : RatD} {p k : Nat} (h : ro r q f p k = some l) : l.length = r.length := by
  induction k generalizing l with
  | zero => rw [ro] at h; injection h with h; subst h; rfl
  | succ k ih =>
    rw [ro] at h
    cases h1 : ro r q f p k with
    | none => rw [h1] at h; cases h
    | some l1 =>
      rw [h1, Option.bind_some] at h
      cases h2 : mulQ f (q.getD (p + k) (0, 0)) with
      | none => rw [h2] at h; cases h
      | some pr =>
        rw [h2, Option.bind_some] at h
        cases h3 : subQ (r.getD (p + k) (0, 0)) pr with
        | none => rw [h3] at h; cases h
        | some d =>
          rw [h3] at h
          injection h with h
          subst h
          rw [List.length_set, ih h1]
/-- What lies at column p + k and behind is as it was. -/
theorem ro_rest {r q l : List RatD} {f : RatD} {p k : Nat} (h : ro r q f p k = some l) (j : Nat) (hj : p + k ≤ j ∨ j < p) : l[j]? = r[j]? := by
  induction k generalizing l with
  | zero => rw [ro] at h; injection h with h; subst h; rfl
  | succ k ih =>
    rw [ro] at h
    cases h1 : ro r q f p k with
    | none => rw [h1] at h; cases h
    | some l1 =>
      rw [h1, Option.bind_some] at h
      cases h2 : mulQ f (q.getD (p + k) (0, 0)) with
      | none => rw [h2] at h; cases h
      | some pr =>
        rw [h2, Option.bind_some] at h
        cases h3 : subQ (r.getD (p + k) (0, 0)) pr with
        | none => rw [h3] at h; cases h
        | some d =>
          rw [h3] at h
          injection h with h
          subst h
          rw [List.getElem?_set_ne (by omega), ih h1 (by omega)]
theorem ro_iba {r q l : List RatD} {f : RatD} {p k : Nat} (hr : IbA r) (h : ro r q f p k = some l) : IbA l := by
  induction k generalizing l with
  | zero => rw [ro] at h; injection h with h; subst h; exact hr
  | succ k ih =>
    rw [ro] at h
    cases h1 : ro r q f p k with
    | none => rw [h1] at h; cases h
    | some l1 =>
      rw [h1, Option.bind_some] at h
      cases h2 : mulQ f (q.getD (p + k) (0, 0)) with
      | none => rw [h2] at h; cases h
      | some pr =>
        rw [h2, Option.bind_some] at h
        cases h3 : subQ (r.getD (p + k) (0, 0)) pr with
        | none => rw [h3] at h; cases h
        | some d =>
          rw [h3] at h
          injection h with h
          subst h
          exact iba_set (ih h1) (vr_ib (subQ_vr h3)) _
/-- What the two calls of a round give. -/
theorem ro_round {r q l : List RatD} {f : RatD} {p k : Nat} (h : ro r q f p k = some l) (hr : p + k < r.length) (hq : p + k < q.length) :
    (okQ (mulQ f q[p + k]) = true → okQ (subQ r[p + k] (fstQ (mulQ f q[p + k]), sndQ (mulQ f q[p + k]))) = true → ro r q f p (k + 1) = some (l.set (p + k) (fstQ (subQ r[p + k] (fstQ (mulQ f q[p + k]), sndQ (mulQ f q[p + k]))), sndQ (subQ r[p + k] (fstQ (mulQ f q[p + k]), sndQ (mulQ f q[p + k])))))) ∧
    (okQ (mulQ f q[p + k]) = false → ro r q f p (k + 1) = none) ∧ (okQ (mulQ f q[p + k]) = true → okQ (subQ r[p + k] (fstQ (mulQ f q[p + k]), sndQ (mulQ f q[p + k]))) = false → ro r q f p (k + 1) = none) := by
  rw [ro, h, Option.bind_some, List.getD_eq_getElem?_getD, List.getElem?_eq_getElem hq, List.getD_eq_getElem?_getD, List.getElem?_eq_getElem hr, Option.getD_some, Option.getD_some]
  cases h2 : mulQ f q[p + k] with
  | none => exact ⟨fun h => (by cases h), fun _ => rfl, fun h => (by cases h)⟩
  | some pr =>
    rw [Option.bind_some]
    have e : (fstQ (some pr), sndQ (some pr)) = pr := rfl
    rw [e]
    cases h3 : subQ r[p + k] pr with
    | none => exact ⟨fun _ h => (by cases h), fun h => (by cases h), fun _ _ => rfl⟩
    | some d => exact ⟨fun _ _ => rfl, fun h => (by cases h), fun _ h => (by cases h)⟩
/-- A whole row: n columns from p on. -/
def rowOp (r q : List RatD) (p n : Nat) : Option (List RatD) := (divQ (r.getD p (0, 0)) (q.getD p (0, 0))).bind fun f => ro r q f p n
/-- The first i rows are cleared in column p. -/
def clr (m : List (List RatD)) (p n : Nat) : Nat → Option (List (List RatD))
  | 0 => some m
  | i + 1 => (clr m p n i).bind fun m' => if i = p ∨ ((m'.getD i []).getD p (0, 0)).1 = 0 then some m' else (rowOp (m'.getD i []) (m'.getD p []) p n).map fun r => m'.set i r
/-- The first row from k on, within fuel c, whose element in column p is not zero. -/
def piv (m : List (List RatD)) (p : Nat) : Nat → Nat → Option Nat
  | 0, _ => none
  | c + 1, k => if ((m.getD k []).getD p (0, 0)).1 = 0 then piv m p c (k + 1) else some k
def swp (m : List (List RatD)) (p k : Nat) : List (List RatD) := (m.set p (m.getD k [])).set k (m.getD p [])
/-- The first p columns are done; N rows of N + 1. -/
def gj (m : List (List RatD)) (N : Nat) : Nat → Option (List (List RatD))
  | 0 => some m
  | p + 1 => (gj m N p).bind fun m' => (piv m' p (N - p) p).bind fun k => clr (swp m' p k) p (N + 1 - p) N
/-- The first i quotients by the diagonal. -/
def quo (m : List (List RatD)) (N : Nat) : Nat → Option (List RatD)
  | 0 => some []
  | i + 1 => (quo m N i).bind fun o => (divQ ((m.getD i []).getD N (0, 0)) ((m.getD i []).getD i (0, 0))).map fun d => o ++ [d]
/-- The rows with their right sides. -/
def aug (a : List (List RatD)) (b : List RatD) : List (List RatD) := (List.range a.length).map fun i => a.getD i [] ++ [b.getD i (0, 0)]
def sysOk (a : List (List RatD)) (b : List RatD) : Bool := decide (b.length ≤ 6) && decide (a.length = b.length) && okM a b.length && b.all fun p => vr p.1 p.2
def solQ (a : List (List RatD)) (b : List RatD) : Option (List RatD) := if sysOk a b = true then (gj (aug a b) b.length b.length).bind fun m => quo m b.length b.length else none
end Go.Proofs.Ytjnphlgmmjdeiaa.SolP
