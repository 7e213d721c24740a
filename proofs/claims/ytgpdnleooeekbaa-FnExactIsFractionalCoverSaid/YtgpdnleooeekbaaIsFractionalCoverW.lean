/- Law FnExactIsFractionalCover at every argument. -/
import Derived.Test.YtgpdnleooeekbaaIsFractionalCoverC
import Derived.Test.YtgpdnleooeekbaaCovS
namespace Go.Proofs.Ytgpdnleooeekbaa.IsFractionalCoverW
open Go.RowKit
open Go.Proofs.Ytgpdnleooeekbaa.Rdr Go.Proofs.Ytgpdnleooeekbaa.Dat Go.Proofs.Ytgpdnleooeekbaa.Rats Go.Proofs.Ytgpdnleooeekbaa.CovP Go.Proofs.Ytgpdnleooeekbaa.CovI Go.Proofs.Ytgpdnleooeekbaa.CovS
theorem walk (cs : List Value) (x : QueryD) (a : Option Addr) (cap : Nat) (ws : List RatD) (hn : ws.length ≤ 9223372036854775807) (w : World) (r : rQuery w 0 w.heap.size cs x) (r' : Els 2 rRat w 0 w.heap.size a ws) :
    Calls Try.prog 6 #[.agg cs.toArray, .slice a ws.length cap] w fun e w' => e = .returned (.bool true) ∧ Below w.heap.size w w' :=
  IsFractionalCoverC.walk cs x a cap ws hn w r r' fun ht => ⟨_, fun W ds b bap h h' => spec_cover ds x b bap ws 0 _ 0 _ W (by omega) (by omega) h h' (Nat.le_refl _) (Nat.le_refl _), fun W ds b bap h h' => impl_cover ds x b bap ws 0 _ 0 _ W (by omega) (by omega) h h' (Nat.le_refl _) (Nat.le_refl _)⟩
end Go.Proofs.Ytgpdnleooeekbaa.IsFractionalCoverW
