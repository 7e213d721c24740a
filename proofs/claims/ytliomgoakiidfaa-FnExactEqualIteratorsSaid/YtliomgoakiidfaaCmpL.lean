/- The order of rows, plain (no program in sight). -/
import Derived.WalkKit
namespace Go.Proofs.Ytliomgoakiidfaa.CmpL
set_option linter.unusedVariables false

/-- The order of two ints, and of two rows: value by value, a proper prefix first. -/
def ord (x y : Int) : Int := if x < y then -1 else if y < x then 1 else 0
def cmpL : List Int → List Int → Int
  | [], [] => 0
  | [], _ :: _ => -1
  | _ :: _, [] => 1
  | x :: xs, y :: ys => if x < y then -1 else if y < x then 1 else cmpL xs ys
theorem cmpL_lt (x y : Int) (xs ys : List Int) (h : x < y) : cmpL (x :: xs) (y :: ys) = -1 := by simp [cmpL, h]
theorem cmpL_gt (x y : Int) (xs ys : List Int) (h : y < x) : cmpL (x :: xs) (y :: ys) = 1 := by
  simp only [cmpL]
  rw [if_neg (by omega), if_pos h]
theorem cmpL_eq (x y : Int) (xs ys : List Int) (h : x = y) : cmpL (x :: xs) (y :: ys) = cmpL xs ys := by
  simp only [cmpL]
  rw [if_neg (by omega), if_neg (by omega)]
/-- What the rows' first k values leave to decide. -/
def CLeft (xs ys : List Int) (k : Nat) : Prop := cmpL xs ys = cmpL (xs.drop k) (ys.drop k)
theorem CLeft.zero (xs ys : List Int) : CLeft xs ys 0 := rfl
theorem CLeft.lt {xs ys : List Int} {k : Nat} (h : CLeft xs ys k) (h1 : k < xs.length) (h2 : k < ys.length) (hc : xs[k] < ys[k]) : cmpL xs ys = -1 := by
  rw [h, List.drop_eq_getElem_cons h1, List.drop_eq_getElem_cons h2, cmpL_lt _ _ _ _ hc]
theorem CLeft.gt {xs ys : List Int} {k : Nat} (h : CLeft xs ys k) (h1 : k < xs.length) (h2 : k < ys.length) (hc : ys[k] < xs[k]) : cmpL xs ys = 1 := by
  rw [h, List.drop_eq_getElem_cons h1, List.drop_eq_getElem_cons h2, cmpL_gt _ _ _ _ hc]
theorem CLeft.step {xs ys : List Int} {k : Nat} (h : CLeft xs ys k) (h1 : k < xs.length) (h2 : k < ys.length) (hc : xs[k] = ys[k]) : CLeft xs ys (k + 1) := by
  unfold CLeft at h ⊢
  rw [h, List.drop_eq_getElem_cons h1, List.drop_eq_getElem_cons h2, cmpL_eq _ _ _ _ hc]
theorem drop_end {xs : List Int} {k : Nat} (h : xs.length ≤ k) : xs.drop k = [] := List.drop_eq_nil_of_le h
theorem CLeft.short {xs ys : List Int} {k : Nat} (h : CLeft xs ys k) (h1 : xs.length ≤ k) (h2 : k < ys.length) : cmpL xs ys = -1 := by
  rw [h, drop_end h1, List.drop_eq_getElem_cons h2]
  rfl
theorem CLeft.long {xs ys : List Int} {k : Nat} (h : CLeft xs ys k) (h1 : k < xs.length) (h2 : ys.length ≤ k) : cmpL xs ys = 1 := by
  rw [h, drop_end h2, List.drop_eq_getElem_cons h1]
  rfl
theorem CLeft.same {xs ys : List Int} {k : Nat} (h : CLeft xs ys k) (h1 : xs.length ≤ k) (h2 : ys.length ≤ k) : cmpL xs ys = 0 := by
  rw [h, drop_end h1, drop_end h2]
  rfl

theorem cmpL_anti : ∀ xs ys : List Int, cmpL ys xs = - cmpL xs ys
  | [], [] => rfl
  | [], _ :: _ => rfl
  | _ :: _, [] => rfl
  | x :: xs, y :: ys => by
    simp only [cmpL]
    by_cases h1 : x < y
    · rw [if_neg (show ¬ y < x by omega), if_pos h1, if_pos h1]; rfl
    · by_cases h2 : y < x
      · rw [if_pos h2, if_neg h1, if_pos h2]
      · rw [if_neg h2, if_neg h1, if_neg h1, if_neg h2]; exact cmpL_anti xs ys
theorem cmpL_three : ∀ xs ys : List Int, cmpL xs ys = -1 ∨ cmpL xs ys = 0 ∨ cmpL xs ys = 1
  | [], [] => .inr (.inl rfl)
  | [], _ :: _ => .inl rfl
  | _ :: _, [] => .inr (.inr rfl)
  | x :: xs, y :: ys => by
    simp only [cmpL]
    by_cases h1 : x < y
    · rw [if_pos h1]; exact .inl rfl
    · rw [if_neg h1]
      by_cases h2 : y < x
      · rw [if_pos h2]; exact .inr (.inr rfl)
      · rw [if_neg h2]; exact cmpL_three xs ys
end Go.Proofs.Ytliomgoakiidfaa.CmpL
