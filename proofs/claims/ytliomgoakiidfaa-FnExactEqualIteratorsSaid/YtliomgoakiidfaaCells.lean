/- A block of two cells, carried over calls (no program in sight). -/
import Derived.WalkKit
import Derived.Below
namespace Go.Proofs.Ytliomgoakiidfaa.Cells
open Go.RowKit

/-- Block b of the world holds x and y, and may be written. -/
def Has2 (w : World) (b : Nat) (x y : Value) : Prop := w.cell? ⟨b, 0, none⟩ = some x ∧ w.cell? ⟨b, 1, none⟩ = some y ∧ b < w.heap.size ∧ w.frozen? ⟨b, 0, none⟩ = false ∧ w.frozen? ⟨b, 1, none⟩ = false

theorem has2_new (w : World) (x y : Value) (t : TypeId) : Has2 (w.alloc (.cells #[x, y] t)) w.heap.size x y := ⟨by simp, by simp, by simp, by simp, by simp⟩
theorem Has2.below {w w' : World} {b : Nat} {x y : Value} (h : Has2 w b x y) (hb : Below w.heap.size w w') : Has2 w' b x y :=
  ⟨(hb.cell (p := ⟨b, 0, none⟩) h.2.2.1).trans h.1, (hb.cell (p := ⟨b, 1, none⟩) h.2.2.1).trans h.2.1, Nat.lt_of_lt_of_le h.2.2.1 hb.size, (hb.frozen (p := ⟨b, 0, none⟩) h.2.2.1).trans h.2.2.2.1, (hb.frozen (p := ⟨b, 1, none⟩) h.2.2.1).trans h.2.2.2.2⟩
theorem Has2.alloc {w : World} {b : Nat} {x y : Value} (h : Has2 w b x y) (o : Obj) : Has2 (w.alloc o) b x y :=
  h.below ((Below.refl _ _).alloc (Nat.le_refl _) o)
theorem Has2.drew {w : World} {b : Nat} {x y : Value} (h : Has2 w b x y) : Has2 w.drew b x y := h.below (Below.refl _ _).drew
theorem Has2.set {w : World} {b : Nat} {x y u v : Value} (h : Has2 w b x y) : ((w.setCell ⟨b, 0, none⟩ u).setCell ⟨b, 1, none⟩ v).cell? ⟨b, 0, none⟩ = some u ∧ ((w.setCell ⟨b, 0, none⟩ u).setCell ⟨b, 1, none⟩ v).cell? ⟨b, 1, none⟩ = some v := by
  obtain ⟨h0, h1, hz⟩ := h
  have h1' : (w.setCell ⟨b, 0, none⟩ u).cell? ⟨b, 1, none⟩ = some y := by rw [World.cell?_setCell_other _ _ _ _ (by simp), h1]
  have h0' : (w.setCell ⟨b, 0, none⟩ u).cell? ⟨b, 0, none⟩ = some u := World.cell?_setCell_same _ _ _ h0
  refine ⟨?_, World.cell?_setCell_same _ _ _ h1'⟩
  rw [World.cell?_setCell_other _ _ _ _ (by simp), h0']
theorem set_size (w : World) (b : Nat) (u v : Value) : w.heap.size ≤ ((w.setCell ⟨b, 0, none⟩ u).setCell ⟨b, 1, none⟩ v).heap.size :=
  (((Below.refl 0 w).setCell (p := ⟨b, 0, none⟩) (Nat.zero_le _) u).setCell (p := ⟨b, 1, none⟩) (Nat.zero_le _) v).size
theorem Has2.set_alloc {w : World} {b : Nat} {x y u v : Value} (h : Has2 w b x y) (o : Obj) : (((w.setCell ⟨b, 0, none⟩ u).setCell ⟨b, 1, none⟩ v).alloc o).cell? ⟨b, 0, none⟩ = some u ∧ (((w.setCell ⟨b, 0, none⟩ u).setCell ⟨b, 1, none⟩ v).alloc o).cell? ⟨b, 1, none⟩ = some v := by
  have hz := set_size w b u v
  have h1 := h.2.2.1
  exact ⟨(World.cell?_alloc_lt _ _ _ (by show b < _; omega)).trans h.set.1, (World.cell?_alloc_lt _ _ _ (by show b < _; omega)).trans h.set.2⟩
end Go.Proofs.Ytliomgoakiidfaa.Cells
