/- Law FnExactMatrixVectorProduct at every argument. -/
import Derived.Test.YthghggnlfnbbgaaMatrixVectorProductC
import Derived.Test.YthghggnlfnbbgaaMvp
namespace Go.Proofs.Ythghggnlfnbbgaa.MatrixVectorProductW
open Go.RowKit
open Go.Proofs.Ythghggnlfnbbgaa.Num Go.Proofs.Ythghggnlfnbbgaa.Rdr Go.Proofs.Ythghggnlfnbbgaa.Rats Go.Proofs.Ythghggnlfnbbgaa.GridQ Go.Proofs.Ythghggnlfnbbgaa.RatsSS Go.Proofs.Ythghggnlfnbbgaa.LinP Go.Proofs.Ythghggnlfnbbgaa.Mvp
theorem rows_le {xss : MatD} (h : szM xss ≤ 1048576) : xss.length ≤ 1048576 ∧ ∀ j (hj : j < xss.length), xss[j].length ≤ 1048576 := by
  refine ⟨by have := tots_len List.length xss; unfold szM at h; omega, fun j hj => ?_⟩
  have := elem_le List.length xss j hj
  unfold szM at h
  omega
theorem walk (a : Option Addr) (cap : Nat) (x : MatD) (hn : x.length ≤ 9223372036854775807) (a' : Option Addr) (cap' : Nat) (y : List RatD) (hn' : y.length ≤ 9223372036854775807) (w : World) (r : Els 1 rRow2 w 0 w.heap.size a x) (r' : Els 2 rRat w 0 w.heap.size a' y) :
    Calls Try.prog 4 #[.slice a x.length cap, .slice a' y.length cap'] w fun e w' => e = .returned (.bool true) ∧ Below w.heap.size w w' :=
  MatrixVectorProductC.walk a cap x a' cap' y hn hn' w r r' fun ht => by
    have hb := rows_le (show szM x ≤ 1048576 by omega)
    have hl := mvQ_len x y
    exact ⟨lstO (mvQ x y), okO (mvQ x y), by omega, fun W b bap d dap h _ h' _ => spec_mv b d bap dap x y 0 _ 0 _ W hb.1 (hid hb.2) h h' (Nat.le_refl _) (Nat.le_refl _), fun W b bap d dap h _ h' _ => impl_mv b d bap dap x y 0 _ 0 _ W hb.1 (hid hb.2) h h' (Nat.le_refl _) (Nat.le_refl _)⟩
end Go.Proofs.Ythghggnlfnbbgaa.MatrixVectorProductW
