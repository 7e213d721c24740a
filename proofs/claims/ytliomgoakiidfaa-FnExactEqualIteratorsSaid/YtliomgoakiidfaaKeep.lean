/- Worlds grown out of a world: what a region of calls keeps (no program in sight). -/
import Derived.Test.YtliomgoakiidfaaCells
namespace Go.Proofs.Ytliomgoakiidfaa.Keep
open Go.RowKit Go.Proofs.Ytliomgoakiidfaa.Cells

/-- w' has grown out of w by n blocks or more, and what w held is as it was. -/
structure Kp (w : World) (n : Nat) (w' : World) : Prop where
  sz : w.heap.size + n ≤ w'.heap.size
  bel : Below w.heap.size w w'
theorem Kp.call {w w1 w2 : World} {n : Nat} (h : Kp w n w1) (hb : Below w1.heap.size w1 w2) : Kp w n w2 :=
  ⟨Nat.le_trans h.sz hb.size, h.bel.trans (hb.mono (Nat.le_trans (Nat.le_add_right _ _) h.sz))⟩
theorem Kp.alloc {w w1 : World} {n : Nat} (h : Kp w n w1) (o : Obj) : Kp w n (w1.alloc o) := h.call ((Below.refl _ _).alloc (Nat.le_refl _) o)
theorem Kp.drew {w w1 : World} {n : Nat} (h : Kp w n w1) : Kp w n w1.drew := h.call (Below.refl _ _).drew
theorem Kp.cell {w w1 w2 : World} {n b o : Nat} {x : Value} (h : Kp w n w1) (hb : Below w1.heap.size w1 w2) (hn : b < w.heap.size + n) (hc : w1.cell? ⟨b, o, none⟩ = some x) : w2.cell? ⟨b, o, none⟩ = some x :=
  (hb.cell (p := ⟨b, o, none⟩) (by have := h.sz; show b < _; omega)).trans hc
theorem Kp.cell_alloc {w w1 : World} {n b o : Nat} {x : Value} (h : Kp w n w1) (ob : Obj) (hn : b < w.heap.size + n) (hc : w1.cell? ⟨b, o, none⟩ = some x) : (w1.alloc ob).cell? ⟨b, o, none⟩ = some x :=
  h.cell ((Below.refl _ _).alloc (Nat.le_refl _) ob) hn hc
theorem Kp.realloc {w w1 : World} {n : Nat} {o : Obj} (h : Kp w (n + 1) (w1.alloc o)) (p : Obj) : Kp w (n + 1) (w1.alloc p) := by
  have hz := h.sz
  have e1 : (w1.alloc o).heap.size = w1.heap.size + 1 := World.size_alloc ..
  have e2 : (w1.alloc p).heap.size = w1.heap.size + 1 := World.size_alloc ..
  refine ⟨by omega, h.bel.os, h.bel.tape, h.bel.output, by omega, fun k hk => ?_⟩
  rw [← h.bel.block k hk, Below.heap_alloc w1 p k (by omega), Below.heap_alloc w1 o k (by omega)]
theorem cell_realloc {w1 : World} {b o : Nat} {x : Value} {ob : Obj} (hz : b < w1.heap.size) (hc : (w1.alloc ob).cell? ⟨b, o, none⟩ = some x) (p : Obj) : (w1.alloc p).cell? ⟨b, o, none⟩ = some x :=
  (World.cell?_alloc_lt w1 p _ (by exact hz)).trans ((World.cell?_alloc_lt w1 ob _ (by exact hz)).symm.trans hc)
theorem new2_kept {w w1 : World} {x y : Value} {t : TypeId} (hb : Below (w.alloc (.cells #[x, y] t)).heap.size (w.alloc (.cells #[x, y] t)) w1) : Has2 w1 w.heap.size x y :=
  (has2_new w x y t).below hb
theorem Kp.set {w w1 : World} {n b : Nat} (h : Kp w n w1) (hb : w.heap.size ≤ b) (u v : Value) : Kp w n ((w1.setCell ⟨b, 0, none⟩ u).setCell ⟨b, 1, none⟩ v) :=
  ⟨Nat.le_trans h.sz (set_size w1 b u v), (h.bel.setCell (by exact hb) u).setCell (by exact hb) v⟩
theorem cell_set {w1 : World} {b c o : Nat} {x u v : Value} (hc : w1.cell? ⟨b, o, none⟩ = some x) (hne : b < c) : ((w1.setCell ⟨c, 0, none⟩ u).setCell ⟨c, 1, none⟩ v).cell? ⟨b, o, none⟩ = some x := by
  have h : ∀ k, (⟨c, k, none⟩ : Addr) ≠ ⟨b, o, none⟩ := fun k e => by have e2 : c = b := congrArg Addr.block e; omega
  rw [World.cell?_setCell_other _ _ _ _ (h 1), World.cell?_setCell_other _ _ _ _ (h 0), hc]
theorem kp_two (w : World) (o p : Obj) : Kp w 2 ((w.alloc o).alloc p).drew := ⟨by show _ ≤ ((w.alloc o).alloc p).heap.size; simp, (((Below.refl _ _).alloc (Nat.le_refl _) _).alloc (by simp) _).drew⟩
theorem Kp.alloc_drew {w w1 : World} {n : Nat} (h : Kp w n w1.drew) (o : Obj) : Kp w n (w1.alloc o).drew := ⟨(h.alloc o).sz, (h.alloc o).bel.os, (h.alloc o).bel.tape, (h.alloc o).bel.output, (h.alloc o).bel.size, (h.alloc o).bel.block⟩
theorem Kp.cell_alloc_drew {w w1 : World} {n b o : Nat} {x : Value} (h : Kp w n w1.drew) (ob : Obj) (hn : b < w.heap.size + n) (hc : w1.drew.cell? ⟨b, o, none⟩ = some x) : (w1.alloc ob).drew.cell? ⟨b, o, none⟩ = some x :=
  h.cell_alloc ob hn hc
theorem new2_kept_drew {w w1 : World} {x y : Value} {t : TypeId} (hb : Below (w.alloc (.cells #[x, y] t)).drew.heap.size (w.alloc (.cells #[x, y] t)).drew w1) : Has2 w1 w.heap.size x y :=
  (has2_new w x y t).drew.below hb
theorem Kp.reall {w w1 : World} {n : Nat} {o : Obj} (h : Kp w n (w1.alloc o)) (hz : w.heap.size ≤ w1.heap.size) (p : Obj) : Kp w n (w1.alloc p) := by
  have hs := h.sz
  have e1 : (w1.alloc o).heap.size = w1.heap.size + 1 := World.size_alloc ..
  have e2 : (w1.alloc p).heap.size = w1.heap.size + 1 := World.size_alloc ..
  refine ⟨by omega, h.bel.os, h.bel.tape, h.bel.output, by omega, fun k hk => ?_⟩
  rw [← h.bel.block k hk, Below.heap_alloc w1 p k (by omega), Below.heap_alloc w1 o k (by omega)]
theorem has2_set {w : World} {b : Nat} {x y u v : Value} (h : Has2 w b x y) : Has2 ((w.setCell ⟨b, 0, none⟩ u).setCell ⟨b, 1, none⟩ v) b u v := by
  have hz := set_size w b u v
  obtain ⟨h0, h1, h2, h3, h4⟩ := h
  refine ⟨(Has2.set ⟨h0, h1, h2, h3, h4⟩).1, (Has2.set ⟨h0, h1, h2, h3, h4⟩).2, by omega, ?_, ?_⟩
  · rw [World.frozen?_setCell, World.frozen?_setCell, h3]
  · rw [World.frozen?_setCell, World.frozen?_setCell, h4]
theorem cell_drew {w1 : World} {a : Addr} {x : Value} (hc : w1.cell? a = some x) : w1.drew.cell? a = some x := hc
theorem kp_refl (w : World) : Kp w 0 w := ⟨Nat.le_refl _, Below.refl _ _⟩
theorem Kp.trans {w w1 w2 : World} {n : Nat} (h : Kp w n w1) (k : Kp w1 0 w2) : Kp w n w2 := h.call k.bel
/-- What a call with two struct arguments of two ints finds in its own two boxes. -/
theorem two_boxes (w : World) (x y u v : Value) (t t' : TypeId) :
    ((w.alloc (.cells #[x, y] t)).alloc (.cells #[u, v] t')).drew.cell? ⟨w.heap.size, 0, none⟩ = some x ∧ ((w.alloc (.cells #[x, y] t)).alloc (.cells #[u, v] t')).drew.cell? ⟨w.heap.size, 1, none⟩ = some y ∧
    ((w.alloc (.cells #[x, y] t)).alloc (.cells #[u, v] t')).drew.cell? ⟨w.heap.size + 1, 0, none⟩ = some u ∧ ((w.alloc (.cells #[x, y] t)).alloc (.cells #[u, v] t')).drew.cell? ⟨w.heap.size + 1, 1, none⟩ = some v ∧
    Kp w 2 ((w.alloc (.cells #[x, y] t)).alloc (.cells #[u, v] t')).drew := by
  have a := ((has2_new w x y t).alloc (.cells #[u, v] t')).drew
  have b := (has2_new (w.alloc (.cells #[x, y] t)) u v t').drew
  simp only [World.size_alloc] at b
  exact ⟨a.1, a.2.1, b.1, b.2.1, kp_two _ _ _⟩
end Go.Proofs.Ytliomgoakiidfaa.Keep
