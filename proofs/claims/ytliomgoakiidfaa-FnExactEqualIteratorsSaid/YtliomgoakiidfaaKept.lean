/- What a world grown out of another still reads (no program in sight). -/
import Derived.Test.YtliomgoakiidfaaKeep
import Derived.Test.YtliomgoakiidfaaIntRow
namespace Go.Proofs.Ytliomgoakiidfaa.Kept
open Go.RowKit Go.Proofs.Ytliomgoakiidfaa.Keep Go.Proofs.Ytliomgoakiidfaa.IntRow
theorem rd_kp {w w' : World} {B n : Nat} {a : Option Addr} {xs : List Int} (h : Rd w B a xs) (k : Kp w n w') (hB : B ≤ w.heap.size) : Rd w' B a xs := h.below (k.bel.mono hB)
theorem kp_le {w w' : World} {B n : Nat} (k : Kp w n w') (hB : B ≤ w.heap.size) : B ≤ w'.heap.size := by have := k.sz; omega
theorem one_kept {w w1 : World} {x : Value} {t : TypeId} (hb : Below (w.alloc (.cells #[x] t)).heap.size (w.alloc (.cells #[x] t)) w1) : One w1 w.heap.size x := (one_new w x t).below' hb
theorem one_kept_drew {w w1 : World} {x : Value} {t : TypeId} (hb : Below (w.alloc (.cells #[x] t)).drew.heap.size (w.alloc (.cells #[x] t)).drew w1) : One w1 w.heap.size x := (one_new w x t).drew.below' hb
theorem cell_set1 {w1 : World} {b c o : Nat} {x u : Value} (hc : w1.cell? ⟨b, o, none⟩ = some x) (hne : b < c) : (w1.setCell ⟨c, 0, none⟩ u).cell? ⟨b, o, none⟩ = some x := by
  rw [World.cell?_setCell_other _ _ _ _ (fun e => by have e2 : c = b := congrArg Addr.block e; omega), hc]
theorem Kp.set1 {w w1 : World} {n b : Nat} (h : Kp w n w1) (hb : w.heap.size ≤ b) (u : Value) : Kp w n (w1.setCell ⟨b, 0, none⟩ u) :=
  ⟨Nat.le_trans h.sz (by simp), h.bel.setCell (by exact hb) u⟩
theorem at_below' {w w' : World} {g : Nat} {e : TypeId} {cap : Nat} {xs : List Int} (h : At w g e cap xs) (hb : Below w.heap.size w w') : At w' g e cap xs := h.below hb h.lt
end Go.Proofs.Ytliomgoakiidfaa.Kept
