/- The product of two vectors does not depend on their order; transposing twice restores a matrix (no program in sight). -/
import Derived.Test.YthghggnlfnbbgaaMtr
namespace Go.Proofs.Ythghggnlfnbbgaa.TrP
open Go.RowKit
open Go.Proofs.Ythghggnlfnbbgaa.Rat Go.Proofs.Ythghggnlfnbbgaa.Rats Go.Proofs.Ythghggnlfnbbgaa.RatOwn Go.Proofs.Ythghggnlfnbbgaa.RatsSS Go.Proofs.Ythghggnlfnbbgaa.Smq Go.Proofs.Ythghggnlfnbbgaa.Qops Go.Proofs.Ythghggnlfnbbgaa.LinP Go.Proofs.Ythghggnlfnbbgaa.Mtr
set_option linter.unusedVariables false

theorem mulQ_comm (p q : RatD) : mulQ p q = mulQ q p := by
  unfold mulQ
  rw [Bool.and_comm, Int.mul_comm p.1, Int.mul_comm p.2]
theorem dt_comm (xs ys : List RatD) (k : Nat) : dt xs ys k = dt ys xs k := by
  induction k with
  | zero => rfl
  | succ k ih => rw [dt, dt, ih, mulQ_comm]
theorem dotQ_comm (xs ys : List RatD) : dotQ xs ys = dotQ ys xs := by
  unfold dotQ
  by_cases h : xs.length = ys.length
  · rw [if_pos h, if_pos h.symm, dt_comm, h]
  · rw [if_neg h, if_neg (fun e => h e.symm)]
theorem tr_pos {xss : MatD} (h : trOk xss = true) : 0 < xss.length ∧ ∀ hp : 0 < xss.length, okM xss xss[0].length = true ∧ trV xss = colsQ xss xss[0].length := by
  have h0 : 0 < xss.length := by
    cases xss with
    | nil => cases h
    | cons r rs => simp
  refine ⟨h0, fun hp => ?_⟩
  cases hv : okM xss xss[0].length with
  | false => rw [(tr_no hp hv).1] at h; cases h
  | true => exact ⟨rfl, (tr_yes hp hv).2⟩
theorem cols_ok {xss : MatD} {m : Nat} (h : okM xss m = true) : okM (colsQ xss m) xss.length = true := okM_yes (fun j hj => by
  have hj' : j < m := by rw [colsQ_len] at hj; exact hj
  rw [colsQ_at]
  refine ⟨colQ_len xss j, fun p hp => ?_⟩
  obtain ⟨i, hi, rfl⟩ := List.getElem_of_mem hp
  have hi' : i < xss.length := by rw [colQ_len] at hi; exact hi
  have h1 := okM_at h i hi'
  rw [colQ_at xss j i hi' (by rw [h1.1]; exact hj') hi]
  exact h1.2 _ (List.getElem_mem _))
theorem cols_cols {xss : MatD} {m : Nat} (h : okM xss m = true) : colsQ (colsQ xss m) xss.length = xss := by
  refine List.ext_getElem (colsQ_len _ _) (fun i hi hi2 => ?_)
  rw [colsQ_at]
  have h1 := okM_at h i hi2
  refine List.ext_getElem (by rw [colQ_len, colsQ_len, h1.1]) (fun k hk hk2 => ?_)
  have hkm : k < m := by rw [← h1.1]; exact hk2
  have hkc : k < (colsQ xss m).length := by rw [colsQ_len]; exact hkm
  have hil : i < (colsQ xss m)[k].length := by rw [colsQ_at, colQ_len]; exact hi2
  rw [colQ_at (colsQ xss m) i k hkc hil hk]
  have e : (colsQ xss m)[k] = colQ xss k := colsQ_at xss m k hkc
  have h2 : i < (colQ xss k).length := by rw [colQ_len]; exact hi2
  have h3 := colQ_at xss k i hi2 hk2 h2
  rw [← h3]
  simp only [e]
theorem tr_tr {xss : MatD} (h : trOk xss = true) (hp : 0 < xss.length) (hm : 0 < xss[0].length) : trOk (trV xss) = true ∧ trV (trV xss) = xss ∧ (trV xss).length = xss[0].length := by
  obtain ⟨h1, h2⟩ := (tr_pos h).2 hp
  have hl : (trV xss).length = xss[0].length := by rw [h2, colsQ_len]
  have hp2 : 0 < (trV xss).length := by rw [hl]; exact hm
  have hr : (trV xss)[0].length = xss.length := by
    have e : (trV xss)[0] = (colsQ xss xss[0].length)[0]'(by rw [colsQ_len]; exact hm) := by simp only [h2]
    rw [e, colsQ_at, colQ_len]
  have hok : okM (trV xss) (trV xss)[0].length = true := by rw [hr, h2]; exact cols_ok h1
  obtain ⟨h3, h4⟩ := tr_yes hp2 hok
  refine ⟨h3, ?_, hl⟩
  rw [h4, hr, h2]
  exact cols_cols h1
theorem tr_rows {xss : MatD} (hn : xss.length ≤ 8) (hr : ∀ j (hj : j < xss.length), xss[j].length ≤ 9) : (trV xss).length ≤ 9 ∧ ∀ j (hj : j < (trV xss).length), (trV xss)[j].length ≤ 8 := by
  by_cases h0 : xss.length = 0
  · rw [(tr_nil h0).2]; exact ⟨by simp, fun j hj => by simp at hj⟩
  · have hp : 0 < xss.length := by omega
    cases hv : okM xss xss[0].length with
    | false => rw [(tr_no hp hv).2]; exact ⟨by simp, fun j hj => by simp at hj⟩
    | true =>
      have h2 := (tr_yes hp hv).2
      rw [h2]
      refine ⟨by rw [colsQ_len]; exact hr 0 hp, fun j hj => ?_⟩
      rw [colsQ_at, colQ_len]
      exact hn
end Go.Proofs.Ythghggnlfnbbgaa.TrP
