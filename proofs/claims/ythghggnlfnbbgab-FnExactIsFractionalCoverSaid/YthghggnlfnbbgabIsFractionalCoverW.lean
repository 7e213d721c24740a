/- Law FnExactIsFractionalCover at every argument. -/
import Derived.Test.YthghggnlfnbbgabIsFractionalCoverC
import Derived.Test.YthghggnlfnbbgabCovS
namespace Go.Proofs.Ythghggnlfnbbgab.IsFractionalCoverW
open Go.RowKit
open Go.Proofs.Ythghggnlfnbbgab.Rdr Go.Proofs.Ythghggnlfnbbgab.Dat Go.Proofs.Ythghggnlfnbbgab.Rats Go.Proofs.Ythghggnlfnbbgab.CovP Go.Proofs.Ythghggnlfnbbgab.CovI Go.Proofs.Ythghggnlfnbbgab.CovS
theorem walk (cs : List Value) (x : QueryD) (a : Option Addr) (cap : Nat) (ws : List RatD) (hn : ws.length ≤ 9223372036854775807) (w : World) (r : rQuery w 0 w.heap.size cs x) (r' : Els 2 rRat w 0 w.heap.size a ws) :
    Calls Try.prog 4 #[.agg cs.toArray, .slice a ws.length cap] w fun e w' => e = .returned (.bool true) ∧ Below w.heap.size w w' :=
  IsFractionalCoverC.walk cs x a cap ws hn w r r' fun ht => ⟨_, fun W ds b bap h h' => spec_cover ds x b bap ws 0 _ 0 _ W (by omega) (by omega) h h' (Nat.le_refl _) (Nat.le_refl _), fun W ds b bap h h' => impl_cover ds x b bap ws 0 _ 0 _ W (by omega) (by omega) h h' (Nat.le_refl _) (Nat.le_refl _)⟩
end Go.Proofs.Ythghggnlfnbbgab.IsFractionalCoverW
