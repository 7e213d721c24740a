/- Law FnExactIsFractionalPacking at every argument. -/
import Derived.Test.YthghggnlfnbbgabDoorIsFractionalPackingC
import Derived.Test.YthghggnlfnbbgabDoorPakS
import Derived.Test.YthghggnlfnbbgabDoorPakI
namespace Go.Proofs.YthghggnlfnbbgabDoor.IsFractionalPackingW
open Go.RowKit
open Go.Proofs.YthghggnlfnbbgabDoor.Rdr Go.Proofs.YthghggnlfnbbgabDoor.Dat Go.Proofs.YthghggnlfnbbgabDoor.Rats Go.Proofs.YthghggnlfnbbgabDoor.SetI Go.Proofs.YthghggnlfnbbgabDoor.PakP Go.Proofs.YthghggnlfnbbgabDoor.PakI Go.Proofs.YthghggnlfnbbgabDoor.PakS
theorem walk (cs : List Value) (x : QueryD) (a : Option Addr) (cap : Nat) (ws : List RatD) (hn : ws.length ≤ 9223372036854775807) (w : World) (hT : Tab w) (r : rQuery w 0 w.heap.size cs x) (r' : Els 2 rRat w 0 w.heap.size a ws) :
    Calls Tryd.prog 3 #[.agg cs.toArray, .slice a ws.length cap] w fun e w' => e = .returned (.bool true) ∧ Below w.heap.size w w' :=
  IsFractionalPackingC.walk cs x a cap ws hn w r r' fun ht => ⟨_, fun W ds b bap h h' hb => spec_pack ds x b bap ws 0 _ 0 _ W (by omega) (by omega) h h' (Nat.le_refl _) (Nat.le_refl _), fun W ds b bap h h' hb => impl_pack ds x b bap ws 0 _ 0 _ W (by omega) (by omega) h h' (Nat.le_refl _) (Nat.le_refl _) (hT.below hb)⟩
end Go.Proofs.YthghggnlfnbbgabDoor.IsFractionalPackingW
