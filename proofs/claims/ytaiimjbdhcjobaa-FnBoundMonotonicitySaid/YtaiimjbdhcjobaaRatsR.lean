/- Slices of rationals: readers (no program in sight). -/
import Derived.Test.YtaiimjbdhcjobaaRdr
import Derived.Test.YtaiimjbdhcjobaaHasL
import Derived.Test.YtaiimjbdhcjobaaLawKit
namespace Go.Proofs.Ytaiimjbdhcjobaa.Rats
open Go.Deep Go.Joins Go.ChangeShapes Go.WideShapes Go.ChangeAt Go.RowKit
open Go.Proofs.Ytaiimjbdhcjobaa.IntRow Go.Proofs.Ytaiimjbdhcjobaa.Rdr Go.Proofs.Ytaiimjbdhcjobaa.HasL
set_option linter.unusedVariables false

abbrev RatD := Int × Int
def Ib (z : Int) : Prop := -9223372036854775808 ≤ z ∧ z ≤ 9223372036854775807
def rI64 : Reader Int := fun _ _ _ cs z => cs = [.int .i64 z] ∧ Ib z
def rRat : Reader RatD := rTwo rI64 rI64
theorem good_i64 : Gd rI64 := ⟨fun h _ => h, fun h _ _ => h⟩
theorem good_rat : Gd rRat := good_two good_i64 good_i64
theorem rat_open {w : World} {lo hi : Nat} {cs : List Value} {x : RatD} (h : rRat w lo hi cs x) : cs = [.int .i64 x.1, .int .i64 x.2] ∧ Ib x.1 ∧ Ib x.2 := by
  obtain ⟨c, d, rfl, ⟨rfl, h1⟩, ⟨rfl, h2⟩⟩ := h
  exact ⟨rfl, h1, h2⟩
theorem rat_mk {w : World} {lo hi : Nat} {x : RatD} (h1 : Ib x.1) (h2 : Ib x.2) : rRat w lo hi [.int .i64 x.1, .int .i64 x.2] x := ⟨[_], [_], rfl, ⟨rfl, h1⟩, ⟨rfl, h2⟩⟩
theorem rats_at {w : World} {lo hi : Nat} {a : Option Addr} {xs : List RatD} (h : Els 2 rRat w lo hi a xs) (j : Nat) (hj : j < xs.length) : ∃ b off, a = some ⟨b, off, none⟩ ∧ lo ≤ b ∧ b < hi ∧ w.cell? ⟨b, off + j * 2, none⟩ = some (.int .i64 xs[j].1) ∧ w.cell? ⟨b, off + j * 2 + 1, none⟩ = some (.int .i64 xs[j].2) := by
  obtain ⟨b, off, e, h1, h2, hc⟩ := h (by omega)
  obtain ⟨cs, hl, h3, h4⟩ := hc j hj
  obtain ⟨rfl, _⟩ := rat_open h4
  exact ⟨b, off, e, h1, h2, by simpa using h3 0 (by simp), by simpa using h3 1 (by simp)⟩
theorem rats_bd {w : World} {lo hi : Nat} {a : Option Addr} {xs : List RatD} (h : Els 2 rRat w lo hi a xs) (j : Nat) (hj : j < xs.length) : Ib xs[j].1 ∧ Ib xs[j].2 := by
  obtain ⟨b, off, e, h1, h2, hc⟩ := h (by omega)
  obtain ⟨cs, hl, h3, h4⟩ := hc j hj
  exact (rat_open h4).2

theorem els_grown {w w' : World} {a : Option Addr} {xs : List RatD} (h : Els 2 rRat w 0 w.heap.size a xs) (hb : Below w.heap.size w w') : Els 2 rRat w' 0 w'.heap.size a xs := (h.keep good_rat (sm_below hb (Nat.le_refl _))).up good_rat (Nat.le_refl _) hb.size

/-- Two rationals in a new block. -/
theorem els_two (w : World) (x y u v : Int) (t : TypeId) (hx : Ib x) (hy : Ib y) (hu : Ib u) (hv : Ib v) : Els 2 rRat (w.alloc (.cells #[.int .i64 x, .int .i64 y, .int .i64 u, .int .i64 v] t)) 0 (w.alloc (.cells #[.int .i64 x, .int .i64 y, .int .i64 u, .int .i64 v] t)).heap.size (some ⟨w.heap.size, 0, none⟩) [(x, y), (u, v)] := fun _ => by
  have hh := hasl_new w [.int .i64 x, .int .i64 y, .int .i64 u, .int .i64 v] t
  refine ⟨w.heap.size, 0, rfl, Nat.zero_le _, by simp, fun j hj => ?_⟩
  match j, hj with
  | 0, _ => exact ⟨[.int .i64 x, .int .i64 y], rfl, fun i hi => by
      match i, hi with
      | 0, _ => exact (hh.2 0 (by simp)).1
      | 1, _ => exact (hh.2 1 (by simp)).1, rat_mk (x := (x, y)) hx hy⟩
  | 1, _ => exact ⟨[.int .i64 u, .int .i64 v], rfl, fun i hi => by
      match i, hi with
      | 0, _ => exact (hh.2 2 (by simp)).1
      | 1, _ => exact (hh.2 3 (by simp)).1, rat_mk (x := (u, v)) hu hv⟩
end Go.Proofs.Ytaiimjbdhcjobaa.Rats
