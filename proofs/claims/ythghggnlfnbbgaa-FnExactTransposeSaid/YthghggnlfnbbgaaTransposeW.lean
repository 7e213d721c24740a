/- Law FnExactTranspose at every argument. -/
import Derived.Test.YthghggnlfnbbgaaTransposeC
import Derived.Test.YthghggnlfnbbgaaMtr
import Derived.Test.YthghggnlfnbbgaaMatrixVectorProductW
namespace Go.Proofs.Ythghggnlfnbbgaa.TransposeW
open Go.RowKit
open Go.Proofs.Ythghggnlfnbbgaa.Num Go.Proofs.Ythghggnlfnbbgaa.Rdr Go.Proofs.Ythghggnlfnbbgaa.Rats Go.Proofs.Ythghggnlfnbbgaa.GridQ Go.Proofs.Ythghggnlfnbbgaa.RatsSS Go.Proofs.Ythghggnlfnbbgaa.LinP Go.Proofs.Ythghggnlfnbbgaa.Mtr Go.Proofs.Ythghggnlfnbbgaa.MatrixVectorProductW
theorem sumf_const {α : Type} (f : α → Nat) (xs : List α) (c : Nat) (h : ∀ j (hj : j < xs.length), f xs[j] = c) (k : Nat) (hk : k ≤ xs.length) : sumf f xs k = k * c := by
  induction k with
  | zero => simp [sumf]
  | succ k ih => rw [sumf_step f xs k (by omega), ih (by omega), h k (by omega), Nat.succ_mul]
theorem tr_size {xss : MatD} (h : szM xss ≤ 1048576) : (trV xss).length ≤ 1048576 ∧ wM (trV xss) ≤ 1048576 := by
  by_cases h0 : xss.length = 0
  · rw [(tr_nil h0).2]; exact ⟨by simp, by simp [wM, sumf]⟩
  · have hp : 0 < xss.length := by omega
    cases hv : okM xss xss[0].length with
    | false => rw [(tr_no hp hv).2]; exact ⟨by simp, by simp [wM, sumf]⟩
    | true =>
      rw [(tr_yes hp hv).2]
      have h1 := sumf_const List.length xss xss[0].length (fun j hj => (okM_at hv j hj).1) xss.length (Nat.le_refl _)
      have h2 := sumf_const List.length (colsQ xss xss[0].length) xss.length (fun j hj => by rw [colsQ_at, colQ_len]) (colsQ xss xss[0].length).length (Nat.le_refl _)
      have hl := colsQ_len xss xss[0].length
      unfold szM tots at h
      unfold wM
      rw [h2, hl]
      rw [h1] at h
      have h3 : xss[0].length * 1 ≤ xss[0].length * xss.length := Nat.mul_le_mul_left _ hp
      rw [Nat.mul_comm] at h
      constructor
      · omega
      · omega
theorem walk (a : Option Addr) (cap : Nat) (x : MatD) (hn : x.length ≤ 9223372036854775807) (w : World) (r : Els 1 rRow2 w 0 w.heap.size a x) :
    Calls Try.prog 5 #[.slice a x.length cap] w fun e w' => e = .returned (.bool true) ∧ Below w.heap.size w w' :=
  TransposeC.walk a cap x hn w r fun ht => by
    have hb := rows_le (show szM x ≤ 1048576 by omega)
    have hs := tr_size (show szM x ≤ 1048576 by omega)
    exact ⟨trV x, trOk x, hs, fun W b bap h _ => spec_tr b bap x 0 _ W hb.1 (hid hb.2) h (Nat.le_refl _), fun W b bap h _ => impl_tr b bap x 0 _ W hb.1 (hid hb.2) h (Nat.le_refl _)⟩
end Go.Proofs.Ythghggnlfnbbgaa.TransposeW
