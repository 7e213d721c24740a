/- Law FnExactDualProgram at every argument. -/
import Derived.Test.YtjnphlgmmjdeiaaDualProgramC
import Derived.Test.YtjnphlgmmjdeiaaDualS
namespace Go.Proofs.Ytjnphlgmmjdeiaa.DualProgramW
open Go.RowKit
open Go.Proofs.Ytjnphlgmmjdeiaa.Rdr Go.Proofs.Ytjnphlgmmjdeiaa.Rats Go.Proofs.Ytjnphlgmmjdeiaa.RatsSS Go.Proofs.Ytjnphlgmmjdeiaa.LinP Go.Proofs.Ytjnphlgmmjdeiaa.Mtr Go.Proofs.Ytjnphlgmmjdeiaa.Lp Go.Proofs.Ytjnphlgmmjdeiaa.LpP Go.Proofs.Ytjnphlgmmjdeiaa.LpO Go.Proofs.Ytjnphlgmmjdeiaa.DualI Go.Proofs.Ytjnphlgmmjdeiaa.DualS
theorem sumf_all (xss : MatD) (c : Nat) (h : ∀ (j : Nat) (hj : j < xss.length), xss[j].length = c) : ∀ k, k ≤ xss.length → sumf List.length xss k = k * c := by
  intro k
  induction k with
  | zero => intro _; rw [sumf_zero, Nat.zero_mul]
  | succ k ih =>
    intro hk
    rw [sumf_step _ _ _ (by omega), ih (by omega), h k (by omega), Nat.succ_mul]
theorem dual_size (x : LpD) : szLp (dualD x) ≤ 1048576 := by
  cases h : okLp x with
  | false => rw [dual_no h]; decide
  | true =>
    rw [dual_yes h]
    obtain ⟨h1, h2, h3, h4, _⟩ := okLp_at h
    have h0 : 0 < x.1.length := by omega
    have e := (okM_at h4 0 h0).1
    have ht := (tr_yes h0 (by rw [e]; exact h4)).2
    have h5 := sumf_all (colsQ x.1 x.1[0].length) x.1.length (fun j hj => by rw [colsQ_at, colQ_len]) (colsQ x.1 x.1[0].length).length (Nat.le_refl _)
    have hl := colsQ_len x.1 x.1[0].length
    have hA : x.2.2.length * x.1.length ≤ 5 * 5 := Nat.mul_le_mul h1.2 (by omega)
    unfold szLp szM tots
    dsimp only
    rw [ht, h5, hl, e]
    omega
theorem walk (cs : List Value) (x : LpD) (w : World) (r : rLp w 0 w.heap.size cs x) :
    Calls Try.prog 12 #[.agg cs.toArray] w fun e w' => e = .returned (.bool true) ∧ Below w.heap.size w w' :=
  DualProgramC.walk cs x w r fun ht => ⟨dualD x, okLp x, dual_size x, fun W ds h => spec_dual ds x 0 _ W (by omega) h (Nat.le_refl _), fun W ds h => impl_dual ds x 0 _ W (by omega) h (Nat.le_refl _)⟩
end Go.Proofs.Ytjnphlgmmjdeiaa.DualProgramW
