/- Arguments '[][]int' and a struct of an int and a '[][]int', opened. -/
import Derived.Test.YtfeeimbepdfadaaGrid
import Derived.ProofKit
import Derived.OpenShut
import Derived.Lib.SmallJoins
import Derived.Deep.Matrix
namespace Go.Proofs.Ytfeeimbepdfadaa.RelArg
open Go.Deep Go.Joins Go.ChangeShapes Go.WideShapes Go.ChangeAt Go.RowKit
open Go.Proofs.Ytfeeimbepdfadaa.IntRow Go.Proofs.Ytfeeimbepdfadaa.Grid
section
variable {H : Type} {enc : TypeId × Value → H} {P : Program}

theorem lt_of_cell {w : World} {b o : Nat} {v : Value} (h : w.cell? ⟨b, o, none⟩ = some v) : b < w.heap.size := by
  rcases Nat.lt_or_ge b w.heap.size with h1 | h1
  · exact h1
  · simp [World.cell?, Array.getElem?_eq_none h1] at h

theorem slices_at {w : World} {a : Addr} {A : Nat → Option Addr} {L C : Nat → Nat} {n : Nat} (h : ∀ i, i < n → w.cell? (a.add i) = some (.slice (A i) (L i) (C i))) (hp : 0 < n) :
    ∃ b off, a = ⟨b, off, none⟩ ∧ ∀ j, j < n → w.cell? ⟨b, off + j, none⟩ = some (.slice (A j) (L j) (C j)) := by
  obtain ⟨b, off, spot⟩ := a
  have hspot : spot = none := by simpa [Addr.add] using World.cell?_spot (h 0 hp)
  subst hspot
  exact ⟨b, off, rfl, fun j hj => by rw [← Go.WideShapes.add_plain]; exact h j hj⟩

theorem grid_of {W : World} {base : Nat} {t e q : TypeId} {fuel : Nat} {cs : List Value} {x : DataW H × List MemPlace} (ht : P.underlying t = some (.slice e)) (he : P.underlying e = some (.slice q)) (hq : P.underlying q = some (.int .i64))
    (ce : P.cellsOf e = 1) (cq : P.cellsOf q = 1) (h : DataW.trod enc P W base (fun _ => true) true fuel t cs = some x) :
    ∃ (a : Option Addr) (n cap : Nat), cs = [.slice a n cap] ∧ n ≤ 9223372036854775807 ∧ ∃ xss : List (List Int), xss.length = n ∧ (∀ j (h : j < xss.length), xss[j].length ≤ 9223372036854775807) ∧ GRd W W.heap.size a xss := by
  rcases open_int_rows (k := .i64) ht he hq ce cq h with ⟨rfl, _⟩ | ⟨a, len, cap, A, L, C, Z, rfl, _, hl, hm, _, hr⟩
  · exact ⟨none, 0, 0, rfl, by omega, [], rfl, fun j hj => by simp at hj, GRd.nil _ _ _⟩
  · unfold maxLen at hm
    refine ⟨_, _, _, rfl, by omega, (List.range len).map fun r => (Z r).take (L r), by simp, ?_, fun hp => ?_⟩
    · intro j hj
      have hj' : j < len := by simpa using hj
      obtain ⟨_, h1, h2, h3, _⟩ := hr j (by omega)
      unfold maxLen at h2
      simp only [List.getElem_map, List.getElem_range, List.length_take]
      omega
    · have hp' : 0 < len := by simpa using hp
      obtain ⟨b, off, rfl, hat⟩ := slices_at (n := cap) (fun i hi => (hr i hi).1) (by omega)
      refine ⟨b, off, rfl, lt_of_cell (hat 0 (by omega)), fun j hj => ?_⟩
      have hj' : j < len := by simpa using hj
      obtain ⟨_, h1, h2, h3, _, h5, h6⟩ := hr j (by omega)
      refine ⟨A j, C j, ?_, fun hp2 => ?_⟩
      · rw [hat j (by omega)]
        simp only [List.getElem_map, List.getElem_range, List.length_take]
        rw [h3, Nat.min_eq_left h1]
      · simp only [List.getElem_map, List.getElem_range, List.length_take] at hp2
        have hl0 : 0 < C j := by omega
        obtain ⟨a', ha'⟩ : ∃ a', A j = some a' := by
          cases hA : A j with
          | none => have := h5 hA; omega
          | some a' => exact ⟨a', rfl⟩
        obtain ⟨_, hc⟩ := h6 a' ha'
        rw [ha']
        obtain ⟨b', off', rfl, hat'⟩ := ints_at (zs := Z j) (fun i hi => hc i (by omega)) (by omega)
        refine ⟨b', off', rfl, lt_of_cell (hat' 0 (by omega)), fun i hi => ?_⟩
        have hi' : i < (Z j).length := by simp only [List.getElem_map, List.getElem_range, List.length_take] at hi; omega
        rw [hat' i hi']
        simp only [List.getElem_map, List.getElem_range, List.getElem_take]
        rw [List.getD_eq_getElem?_getD, List.getElem?_eq_getElem hi']
        rfl

theorem open_grid {W : World} {base : Nat} {t e q : TypeId} {v : Value} {d : DataW H} {p : List MemPlace} (ht : P.underlying t = some (.slice e)) (he : P.underlying e = some (.slice q)) (hq : P.underlying q = some (.int .i64))
    (ce : P.cellsOf e = 1) (cq : P.cellsOf q = 1) (hv : Value.okWide P W .any base t v) (h : DataW.Trod enc P W 0 (fun _ => true) true t v d p) :
    ∃ (a : Option Addr) (n cap : Nat), v = .slice a n cap ∧ n ≤ 9223372036854775807 ∧ ∃ xss : List (List Int), xss.length = n ∧ (∀ j (h : j < xss.length), xss[j].length ≤ 9223372036854775807) ∧ GRd W W.heap.size a xss := by
  obtain ⟨a0, len, cap, rfl⟩ := okWide_slice ht hv
  obtain ⟨fuel, hf⟩ := h
  obtain ⟨a, n, cap', hcs, hn, hx⟩ := grid_of ht he hq ce cq hf
  simp [Value.cells] at hcs
  obtain ⟨rfl, rfl, rfl⟩ := hcs
  exact ⟨_, _, _, rfl, hn, hx⟩

theorem open_rel {W : World} {t e q : TypeId} {f0 f1 : Field} {v : Value} {d : DataW H} {p : List MemPlace} (ht : P.underlying t = some (.struct #[f0, f1])) (hone : oneCellFields P #[f0, f1] = true) (hC : P.cellsOf t = 2)
    (h0 : P.underlying f0.type = some (.int .i64)) (h1 : P.underlying f1.type = some (.slice e)) (he : P.underlying e = some (.slice q)) (hq : P.underlying q = some (.int .i64)) (ce : P.cellsOf e = 1) (cq : P.cellsOf q = 1)
    (hv : Value.okWide P W .any 0 t v) (h : DataW.Trod enc P W 0 (fun _ => true) true t v d p) :
    ∃ (m : Int) (a : Option Addr) (n cap : Nat), v = .agg #[.int .i64 m, .slice a n cap] ∧ (-9223372036854775808 ≤ m ∧ m ≤ 9223372036854775807) ∧ n ≤ 9223372036854775807 ∧ ∃ xss : List (List Int), xss.length = n ∧ (∀ j (h : j < xss.length), xss[j].length ≤ 9223372036854775807) ∧ GRd W W.heap.size a xss := by
  obtain ⟨v0, v1, y0, y1, n, rfl, _, _, k0, k1⟩ := open_agg2 ht hone hC hv h
  obtain ⟨x, e0, _, w0⟩ := DataW.trod_int h0 k0
  simp only [List.cons.injEq, and_true] at e0
  subst e0
  obtain ⟨a, m, cap', hcs, hn, hx⟩ := grid_of h1 he hq ce cq k1
  simp only [List.cons.injEq, and_true] at hcs
  subst hcs
  exact ⟨x, a, m, cap', rfl, bounds_i64 w0, hn, hx⟩
end
end Go.Proofs.Ytfeeimbepdfadaa.RelArg
