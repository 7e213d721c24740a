/- A block of some cells, carried over calls; a row of k cells each, made (no program in sight). -/
import Derived.WalkKit
import Derived.Below
import Derived.Laws.AppendOwn
import Derived.Laws.MakeOwn
import Derived.Laws.OwnMore
import Derived.OwnWalk
namespace Go.Proofs.Ytliomgoakiidfaa.HasL
open Go.RowKit
set_option linter.unusedVariables false

/-- Block b of the world holds the cells vs first, and may be written. -/
def HasL (w : World) (b : Nat) (vs : List Value) : Prop := b < w.heap.size ∧ ∀ i (h : i < vs.length), w.cell? ⟨b, i, none⟩ = some vs[i] ∧ w.frozen? ⟨b, i, none⟩ = false
theorem hasl_new (w : World) (vs : List Value) (t : TypeId) : HasL (w.alloc (.cells vs.toArray t)) w.heap.size vs := by
  have hg := heap_alloc_new w (.cells vs.toArray t)
  refine ⟨by simp, fun i hi => ⟨?_, frozen_of_row _ _ i _ t hg⟩⟩
  rw [cell_of_row _ _ i _ t (0, 0) hg]
  simp [List.getElem?_eq_getElem hi]
theorem HasL.below {w w' : World} {b : Nat} {vs : List Value} (h : HasL w b vs) (hb : Below w.heap.size w w') : HasL w' b vs :=
  ⟨Nat.lt_of_lt_of_le h.1 hb.size, fun i hi => ⟨(hb.cell (p := ⟨b, i, none⟩) h.1).trans (h.2 i hi).1, (hb.frozen (p := ⟨b, i, none⟩) h.1).trans (h.2 i hi).2⟩⟩
theorem HasL.under {w w' : World} {b B : Nat} {vs : List Value} (h : HasL w b vs) (hb : Below B w w') (hB : b < B) : HasL w' b vs :=
  ⟨Nat.lt_of_lt_of_le h.1 hb.size, fun i hi => ⟨(hb.cell (p := ⟨b, i, none⟩) hB).trans (h.2 i hi).1, (hb.frozen (p := ⟨b, i, none⟩) hB).trans (h.2 i hi).2⟩⟩
theorem HasL.alloc {w : World} {b : Nat} {vs : List Value} (h : HasL w b vs) (o : Obj) : HasL (w.alloc o) b vs := h.below ((Below.refl _ _).alloc (Nat.le_refl _) o)
theorem HasL.drew {w : World} {b : Nat} {vs : List Value} (h : HasL w b vs) : HasL w.drew b vs := h.below (Below.refl _ _).drew
theorem HasL.put {w : World} {b : Nat} {vs : List Value} (h : HasL w b vs) (j : Nat) (u : Value) : HasL (w.setCell ⟨b, j, none⟩ u) b (vs.set j u) := by
  refine ⟨by simpa using h.1, fun i hi => ⟨?_, ?_⟩⟩
  · rw [List.length_set] at hi
    by_cases e : j = i
    · subst e
      rw [World.cell?_setCell_same _ _ _ (h.2 j hi).1]
      simp
    · rw [World.cell?_setCell_other _ _ _ _ (fun e2 => by (simp at e2); try omega), (h.2 i hi).1]
      simp [List.getElem_set_ne e]
  · rw [World.frozen?_setCell]
    exact (h.2 i (by simpa using hi)).2
theorem HasL.far {w : World} {b c o : Nat} {vs : List Value} (h : HasL w b vs) (hne : b ≠ c) (u : Value) : HasL (w.setCell ⟨c, o, none⟩ u) b vs :=
  ⟨by simpa using h.1, fun i hi => ⟨by rw [World.cell?_setCell_other _ _ _ _ (fun e => hne (congrArg Addr.block e).symm)]; exact (h.2 i hi).1, by rw [World.frozen?_setCell]; exact (h.2 i hi).2⟩⟩
theorem HasL.one {w : World} {b : Nat} {x : Value} (h : HasL w b [x]) : w.cell? ⟨b, 0, none⟩ = some x ∧ w.frozen? ⟨b, 0, none⟩ = false ∧ b < w.heap.size := ⟨(h.2 0 (by simp)).1, (h.2 0 (by simp)).2, h.1⟩
theorem HasL.two {w : World} {b : Nat} {x y : Value} (h : HasL w b [x, y]) : w.cell? ⟨b, 0, none⟩ = some x ∧ w.cell? ⟨b, 1, none⟩ = some y ∧ w.frozen? ⟨b, 0, none⟩ = false ∧ w.frozen? ⟨b, 1, none⟩ = false ∧ b < w.heap.size :=
  ⟨(h.2 0 (by simp)).1, (h.2 1 (by simp)).1, (h.2 0 (by simp)).2, (h.2 1 (by simp)).2, h.1⟩
theorem HasL.three {w : World} {b : Nat} {x y z : Value} (h : HasL w b [x, y, z]) : w.cell? ⟨b, 0, none⟩ = some x ∧ w.cell? ⟨b, 1, none⟩ = some y ∧ w.cell? ⟨b, 2, none⟩ = some z ∧ w.frozen? ⟨b, 0, none⟩ = false ∧ w.frozen? ⟨b, 1, none⟩ = false ∧ w.frozen? ⟨b, 2, none⟩ = false ∧ b < w.heap.size :=
  ⟨(h.2 0 (by simp)).1, (h.2 1 (by simp)).1, (h.2 2 (by simp)).1, (h.2 0 (by simp)).2, (h.2 1 (by simp)).2, (h.2 2 (by simp)).2, h.1⟩

section
variable {P : Program}
/-- 'make([]T, n)', T of k cells: a new block. -/
theorem make_k (w : World) (t e : TypeId) (i : TypeInfo) (z : Value) (k m : Nat) (ht : P.underlying t = some (.slice e)) (hi : P.info? e = some i) (hz : i.zero = some z) (hsize : i.size = k) (hby : i.bytes = m) (hm : m ≤ 1000)
    (n : Nat) (hn : n ≤ 1048576) :
    (Instr.makeSlice t (.int .i64 (n : Int)) (.int .i64 (n : Int))).run P w = .ok (.slice (some ⟨w.heap.size, 0, none⟩) n n) (w.alloc (.cells (madeCells z.cells (n * k)) e)) := by
  have hb : (i.bytes : Int) * (n : Int) ≤ 281474976710656 := by
    rw [hby]
    have : (m : Int) * (n : Int) ≤ 1000 * 1048576 := Int.mul_le_mul (by omega) (by omega) (by omega) (by omega)
    omega
  rw [run_make w t e i z ht hi hz .i64 .i64 n n (by omega) (by omega) hb (by omega), hsize]
  simp only [Int.toNat_natCast]
theorem own_k (w : World) (e : TypeId) (cs : Array Value) (k n : Nat) (hn : n ≤ 1048576) : (w.alloc (.cells (madeCells cs (n * k)) e)).ownsRow w.heap.size e k (.slice (some ⟨w.heap.size, 0, none⟩) n n) n (madeCells cs (n * k)).toList :=
  World.ownsRow_lit (size := k) (e := e) (base := w.heap.size) w (madeCells cs (n * k)) n (Nat.le_refl _) (by unfold maxLen; omega) (by simp [madeCells])
end
/-- A row of k cells each, grown out of a world. -/
theorem ownk_below {w w' : World} {g B k n : Nat} {e : TypeId} {v : Value} {cs : List Value} (h : w.ownsRow g e k v n cs) (hb : Below B w w') (hB : ∀ q, v.ownBlock = some q → q < B) : w'.ownsRow g e k v n cs := by
  refine ⟨h.1, ?_⟩
  rcases h.2 with hn | ⟨g', cap, cur, rfl, hg, hh, r⟩
  · exact .inl hn
  · exact .inr ⟨g', cap, cur, rfl, hg, (hb.block g' (hB g' rfl)).trans hh, r⟩
theorem ownk_cell {w : World} {g k n : Nat} {e : TypeId} {cs : List Value} (h : w.ownsRow g e k (.slice (some ⟨g, 0, none⟩) n n) n cs) (j i : Nat) (hj : j < n) (hi : i < k) : ∃ u, w.cell? ⟨g, j * k + i, none⟩ = some u := by
  have hle : j * k + k ≤ n * k := by
    have := Nat.mul_le_mul_right k (show j + 1 ≤ n by omega)
    rw [Nat.succ_mul] at this
    exact this
  have hl := h.1
  rw [World.ownsRow.cellAt h _ (by omega), List.getElem?_eq_getElem (by omega)]
  exact ⟨_, rfl⟩
end Go.Proofs.Ytliomgoakiidfaa.HasL
