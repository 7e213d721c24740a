/- Names of variables, and the tests of ints in a range: the model's and the program's. -/
import Derived.Test.YtikpgkholhokoaaProg
import Derived.Test.YtikpgkholhokoaaNum
import Derived.Lib.Hide
namespace Go.Proofs.Ytikpgkholhokoaa.VarName
open Go.RowKit
open Go.Proofs.Ytikpgkholhokoaa.Num
set_option linter.unusedVariables false

/-- The name of a variable. -/
def vname (v : Int) : ByteArray := if 0 ≤ v ∧ v ≤ 4 then ⟨#[[88, 89, 90, 85, 86].getD v.toNat 0]⟩ else ⟨#[]⟩
theorem vname_no {v : Int} (h : v < 0 ∨ 4 < v) : vname v = ⟨#[]⟩ := if_neg (by omega)
/-- spec.l1In at any three ints; impl.isVariable. -/
def inR (v lo hi : Int) : Bool := decide (lo ≤ v) && decide (v ≤ hi)
def isv (v n : Int) : Bool := decide (0 ≤ v) && decide (v < n)
theorem inR_isv (v n : Int) : inR v 0 (n - 1) = isv v n := by
  unfold inR isv
  congr 1
  rw [decide_eq_decide]
  omega
theorem inR_yes {v lo hi : Int} (h1 : lo ≤ v) (h2 : v ≤ hi) : inR v lo hi = true := by simp [inR, h1, h2]
theorem inR_no {v lo hi : Int} (h : v < lo ∨ hi < v) : inR v lo hi = false := by simp [inR]; omega
theorem isv_yes {v n : Int} (h1 : 0 ≤ v) (h2 : v < n) : isv v n = true := by simp [isv, h1, h2]
theorem isv_no {v n : Int} (h : v < 0 ∨ n ≤ v) : isv v n = false := by simp [isv]; omega
theorem isv_iff {v n : Int} : isv v n = true ↔ 0 ≤ v ∧ v < n := by simp [isv]

theorem in_any (v lo hi : Int) (w : World) : Calls Try.prog 27 #[.int .i64 v, .int .i64 lo, .int .i64 hi] w fun e w' => e = .returned (.bool (inR v lo hi)) ∧ w = w' := by
  by_cases h : lo ≤ v
  · by_cases h2 : v ≤ hi
    · have H := hid (inR_yes h h2)
      go_enter Try.func27, Try.ntmps27
      go_wp2
      go_ret
      exact ⟨by rw [H.out]; rfl, rfl⟩
    · have H := hid (inR_no (v := v) (lo := lo) (hi := hi) (.inr (by omega)))
      go_enter Try.func27, Try.ntmps27
      go_wp2
      go_ret
      exact ⟨by rw [H.out]; rfl, rfl⟩
  · have H := hid (inR_no (v := v) (lo := lo) (hi := hi) (.inl (by omega)))
    go_enter Try.func27, Try.ntmps27
    go_wp2
    go_ret
    exact ⟨by rw [H.out]; rfl, rfl⟩
theorem in_is (v lo hi : Int) (b : Bool) (w : World) (h : inR v lo hi = b) : Calls Try.prog 27 #[.int .i64 v, .int .i64 lo, .int .i64 hi] w fun e w' => e = .returned (.bool b) ∧ w = w' := h ▸ in_any v lo hi w
end Go.Proofs.Ytikpgkholhokoaa.VarName
