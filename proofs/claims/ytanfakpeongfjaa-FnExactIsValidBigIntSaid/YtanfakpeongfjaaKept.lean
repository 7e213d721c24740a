/- What a world grown out of another still reads (no program in sight). -/
import Derived.Test.YtanfakpeongfjaaKeep
import Derived.Test.YtanfakpeongfjaaIntRow
namespace Go.Proofs.Ytanfakpeongfjaa.Kept
open Go.RowKit Go.Proofs.Ytanfakpeongfjaa.Keep Go.Proofs.Ytanfakpeongfjaa.IntRow
theorem rd_kp {w w' : World} {B n : Nat} {a : Option Addr} {xs : List Int} (h : Rd w B a xs) (k : Kp w n w') (hB : B ≤ w.heap.size) : Rd w' B a xs := h.below (k.bel.mono hB)
theorem kp_le {w w' : World} {B n : Nat} (k : Kp w n w') (hB : B ≤ w.heap.size) : B ≤ w'.heap.size := by have := k.sz; omega
end Go.Proofs.Ytanfakpeongfjaa.Kept
