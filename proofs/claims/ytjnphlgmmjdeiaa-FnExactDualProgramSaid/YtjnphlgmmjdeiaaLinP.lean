/- Products of vectors, products of matrices and vectors, transposed matrices (no program in sight). -/
import Derived.Test.YtjnphlgmmjdeiaaQops
import Derived.Test.YtjnphlgmmjdeiaaRatOwn
namespace Go.Proofs.Ytjnphlgmmjdeiaa.LinP
open Go.RowKit
open Go.Proofs.Ytjnphlgmmjdeiaa.Rat Go.Proofs.Ytjnphlgmmjdeiaa.Rats Go.Proofs.Ytjnphlgmmjdeiaa.RatOwn Go.Proofs.Ytjnphlgmmjdeiaa.Smq Go.Proofs.Ytjnphlgmmjdeiaa.Qops
set_option linter.unusedVariables false

/-- The sum of the first k products. -/
def dt (xs ys : List RatD) : Nat → Option RatD
  | 0 => some (0, 1)
  | k + 1 => (dt xs ys k).bind fun p => (mulQ (xs.getD k (0, 0)) (ys.getD k (0, 0))).bind fun q => addQ p q
theorem dt_none {xs ys : List RatD} {k n : Nat} (h : dt xs ys k = none) (hk : k ≤ n) : dt xs ys n = none := by
  induction n with
  | zero => have e : k = 0 := by omega
            subst e; exact h
  | succ n ih =>
    by_cases e : k = n + 1
    · subst e; exact h
    · rw [dt, ih (by omega)]; rfl
theorem dt_step {xs ys : List RatD} {k : Nat} {p : RatD} (h : dt xs ys k = some p) (hk : k < xs.length) (hk2 : k < ys.length) : dt xs ys (k + 1) = (mulQ xs[k] ys[k]).bind fun q => addQ p q := by
  rw [dt, h, List.getD_eq_getElem?_getD, List.getElem?_eq_getElem hk, List.getD_eq_getElem?_getD, List.getElem?_eq_getElem hk2]; rfl
theorem dt_vr {xs ys : List RatD} {k : Nat} {p : RatD} (h : dt xs ys k = some p) : vr p.1 p.2 = true := by
  cases k with
  | zero => rw [dt] at h; injection h with h; subst h; exact vr_one
  | succ k =>
    rw [dt] at h
    cases hq : dt xs ys k with
    | none => rw [hq] at h; cases h
    | some q =>
      rw [hq] at h
      cases hm : mulQ (xs.getD k (0, 0)) (ys.getD k (0, 0)) with
      | none => rw [Option.bind_some, hm] at h; cases h
      | some r => rw [Option.bind_some, hm] at h; exact addQ_vr h
/-- What the two calls of a round give. -/
theorem dt_round {xs ys : List RatD} {k : Nat} {p : RatD} (h : dt xs ys k = some p) (hk : k < xs.length) (hk2 : k < ys.length) :
    (okQ (mulQ xs[k] ys[k]) = true → dt xs ys (k + 1) = addQ p (fstQ (mulQ xs[k] ys[k]), sndQ (mulQ xs[k] ys[k]))) ∧ (okQ (mulQ xs[k] ys[k]) = false → dt xs ys (k + 1) = none) := by
  rw [dt_step h hk hk2]
  cases mulQ xs[k] ys[k] with
  | none => exact ⟨fun h => (by cases h), fun _ => rfl⟩
  | some r => exact ⟨fun _ => rfl, fun h => (by cases h)⟩
def dotQ (xs ys : List RatD) : Option RatD := if xs.length = ys.length then dt xs ys xs.length else none
theorem dotQ_vr {xs ys : List RatD} {p : RatD} (h : dotQ xs ys = some p) : vr p.1 p.2 = true := by
  unfold dotQ at h
  split at h
  · exact dt_vr h
  · cases h
theorem dotQ_ib (xs ys : List RatD) : Ib (fstQ (dotQ xs ys)) ∧ Ib (sndQ (dotQ xs ys)) := opt_ib fun r h => dotQ_vr h

/-- The products of the first k rows. -/
def mv (xss : List (List RatD)) (v : List RatD) : Nat → Option (List RatD)
  | 0 => some []
  | k + 1 => (mv xss v k).bind fun o => (dotQ (xss.getD k []) v).map fun r => o ++ [r]
theorem mv_none {xss : List (List RatD)} {v : List RatD} {k n : Nat} (h : mv xss v k = none) (hk : k ≤ n) : mv xss v n = none := by
  induction n with
  | zero => have e : k = 0 := by omega
            subst e; exact h
  | succ n ih =>
    by_cases e : k = n + 1
    · subst e; exact h
    · rw [mv, ih (by omega)]; rfl
theorem mv_step {xss : List (List RatD)} {v : List RatD} {k : Nat} {o : List RatD} (h : mv xss v k = some o) (hk : k < xss.length) :
    (okQ (dotQ xss[k] v) = true → mv xss v (k + 1) = some (o ++ [(fstQ (dotQ xss[k] v), sndQ (dotQ xss[k] v))])) ∧ (okQ (dotQ xss[k] v) = false → mv xss v (k + 1) = none) := by
  rw [mv, h, List.getD_eq_getElem?_getD, List.getElem?_eq_getElem hk, Option.bind_some, Option.getD_some]
  cases dotQ xss[k] v with
  | none => exact ⟨fun h => (by cases h), fun _ => rfl⟩
  | some r => exact ⟨fun _ => rfl, fun h => (by cases h)⟩
theorem mv_len {xss : List (List RatD)} {v : List RatD} {k : Nat} {o : List RatD} (h : mv xss v k = some o) : o.length = k := by
  induction k generalizing o with
  | zero => rw [mv] at h; injection h with h; subst h; rfl
  | succ k ih =>
    rw [mv] at h
    cases hq : mv xss v k with
    | none => rw [hq] at h; cases h
    | some q =>
      rw [hq, Option.bind_some] at h
      cases hd : dotQ (xss.getD k []) v with
      | none => rw [hd] at h; cases h
      | some r =>
        rw [hd] at h
        injection h with h
        subst h
        simp [ih hq]
theorem mv_iba {xss : List (List RatD)} {v : List RatD} {k : Nat} {o : List RatD} (h : mv xss v k = some o) : IbA o := by
  induction k generalizing o with
  | zero => rw [mv] at h; injection h with h; subst h; exact iba_nil
  | succ k ih =>
    rw [mv] at h
    cases hq : mv xss v k with
    | none => rw [hq] at h; cases h
    | some q =>
      rw [hq, Option.bind_some] at h
      cases hd : dotQ (xss.getD k []) v with
      | none => rw [hd] at h; cases h
      | some r =>
        rw [hd] at h
        injection h with h
        subst h
        exact iba_snoc (ih hq) (vr_ib (dotQ_vr hd))
def mvQ (xss : List (List RatD)) (v : List RatD) : Option (List RatD) := mv xss v xss.length
/-- The list and the flag that two functions of a list give. -/
def lstO (o : Option (List RatD)) : List RatD := o.getD []
def okO (o : Option (List RatD)) : Bool := o.isSome
theorem mvQ_len (xss : List (List RatD)) (v : List RatD) : (lstO (mvQ xss v)).length ≤ xss.length := by
  unfold lstO
  cases h : mvQ xss v with
  | none => exact Nat.zero_le _
  | some o => rw [Option.getD_some, mv_len h]; exact Nat.le_refl _

/-- Column k of a matrix; all its columns. -/
def colQ (xss : List (List RatD)) (k : Nat) : List RatD := xss.map fun r => r.getD k (0, 0)
theorem colQ_len (xss : List (List RatD)) (k : Nat) : (colQ xss k).length = xss.length := by simp [colQ]
theorem colQ_at (xss : List (List RatD)) (k i : Nat) (hi : i < xss.length) (hk : k < xss[i].length) (h : i < (colQ xss k).length) : (colQ xss k)[i] = xss[i][k] := by
  simp only [colQ, List.getElem_map]
  rw [List.getD_eq_getElem?_getD, List.getElem?_eq_getElem hk]; rfl
def colsQ (xss : List (List RatD)) (m : Nat) : List (List RatD) := (List.range m).map (colQ xss)
theorem colsQ_len (xss : List (List RatD)) (m : Nat) : (colsQ xss m).length = m := by simp [colsQ]
theorem colsQ_at (xss : List (List RatD)) (m k : Nat) (h : k < (colsQ xss m).length) : (colsQ xss m)[k] = colQ xss k := by simp [colsQ]
theorem colsQ_snoc (xss : List (List RatD)) (m : Nat) : colsQ xss (m + 1) = colsQ xss m ++ [colQ xss m] := by simp [colsQ, List.range_succ]
/-- Each row has m elements, all valid. -/
def okM (xss : List (List RatD)) (m : Nat) : Bool := xss.all fun r => decide (r.length = m) && r.all fun p => vr p.1 p.2
theorem okM_at {xss : List (List RatD)} {m : Nat} (h : okM xss m = true) (j : Nat) (hj : j < xss.length) : xss[j].length = m ∧ ∀ p ∈ xss[j], vr p.1 p.2 = true := by
  have := List.all_eq_true.1 h xss[j] (List.getElem_mem _)
  rw [Bool.and_eq_true, decide_eq_true_iff, List.all_eq_true] at this
  exact this
theorem okM_yes {xss : List (List RatD)} {m : Nat} (h : ∀ j (hj : j < xss.length), xss[j].length = m ∧ ∀ p ∈ xss[j], vr p.1 p.2 = true) : okM xss m = true := List.all_eq_true.2 fun r hr => by
  obtain ⟨j, hj, rfl⟩ := List.getElem_of_mem hr
  rw [Bool.and_eq_true, decide_eq_true_iff, List.all_eq_true]
  exact h j hj
theorem okM_no {xss : List (List RatD)} {m : Nat} (j : Nat) (hj : j < xss.length) (h : xss[j].length ≠ m ∨ ∃ p ∈ xss[j], vr p.1 p.2 = false) : okM xss m = false := by
  cases hb : okM xss m with
  | false => rfl
  | true =>
    obtain ⟨h1, h2⟩ := okM_at hb j hj
    rcases h with h | ⟨p, hp, hv⟩
    · exact absurd h1 h
    · rw [h2 p hp] at hv; cases hv
def trOk (xss : List (List RatD)) : Bool := match xss with
  | [] => false
  | r :: _ => okM xss r.length
def trV (xss : List (List RatD)) : List (List RatD) := match xss with
  | [] => []
  | r :: _ => if okM xss r.length = true then colsQ xss r.length else []
end Go.Proofs.Ytjnphlgmmjdeiaa.LinP
