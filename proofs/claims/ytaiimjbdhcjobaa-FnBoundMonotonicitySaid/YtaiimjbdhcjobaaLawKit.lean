/- Readers carried over what a law does (no program in sight). -/
import Derived.Test.YtaiimjbdhcjobaaRdr
import Derived.Test.YtaiimjbdhcjobaaHasL
import Derived.Test.YtaiimjbdhcjobaaKept
namespace Go.Proofs.Ytaiimjbdhcjobaa.LawKit
open Go.RowKit
open Go.Proofs.Ytaiimjbdhcjobaa.IntRow Go.Proofs.Ytaiimjbdhcjobaa.Rdr Go.Proofs.Ytaiimjbdhcjobaa.HasL Go.Proofs.Ytaiimjbdhcjobaa.Keep
set_option linter.unusedVariables false

theorem gd_kp {α : Type} {R : Reader α} (g : Gd R) {w w' : World} {lo hi n : Nat} {cs : List Value} {x : α} (h : R w lo hi cs x) (k : Kp w n w') (hh : hi ≤ w.heap.size) : R w' lo hi cs x := g.keep h (sm_below k.bel hh)
end Go.Proofs.Ytaiimjbdhcjobaa.LawKit
namespace Go.Proofs.Ytaiimjbdhcjobaa.Rdr
open Go.RowKit
theorem Gd.grown {α : Type} {R : Reader α} (g : Gd R) {w w' : World} {cs : List Value} {x : α} (h : R w 0 w.heap.size cs x) (hb : Below w.heap.size w w') : R w' 0 w'.heap.size cs x := g.up (g.keep h (sm_below hb (Nat.le_refl _))) (Nat.le_refl _) hb.size
theorem Gd.drew {α : Type} {R : Reader α} (g : Gd R) {w : World} {lo hi : Nat} {cs : List Value} {x : α} (h : R w lo hi cs x) : R w.drew lo hi cs x := g.keep h (fun _ _ _ => rfl)
theorem Gd.grown_drew {α : Type} {R : Reader α} (g : Gd R) {w w' : World} {cs : List Value} {x : α} (h : R w 0 w.heap.size cs x) (hb : Below w.drew.heap.size w.drew w') : R w' 0 w'.heap.size cs x := g.up (g.keep (g.drew h) (sm_below hb (Nat.le_refl _))) (Nat.le_refl _) hb.size
end Go.Proofs.Ytaiimjbdhcjobaa.Rdr
