/- The data of relations, tables, databases, atoms and queries, read (no program in sight). -/
import Derived.Test.YtaiimjbdhcjobaaRdr
namespace Go.Proofs.Ytaiimjbdhcjobaa.Dat
open Go.RowKit
open Go.Proofs.Ytaiimjbdhcjobaa.IntRow Go.Proofs.Ytaiimjbdhcjobaa.Grid Go.Proofs.Ytaiimjbdhcjobaa.Rdr
set_option linter.unusedVariables false

abbrev AtomD := ByteArray × List Int
abbrev RelD := Int × List (List Int)
abbrev TableD := ByteArray × RelD
abbrev QueryD := Int × (List AtomD × List Int)
def rRow : Reader (List Int) := rSl 1 rInt
def rGrid : Reader (List (List Int)) := rSl 1 (rSl 1 rInt)
def rAtom : Reader AtomD := rTwo rStr rRow
def rRel : Reader RelD := rTwo rInt rGrid
def rTable : Reader TableD := rTwo rStr rRel
def rQuery : Reader QueryD := rTwo rInt (rTwo (rSl 2 rAtom) rRow)
def rDb : Reader (List TableD) := rSl 3 rTable
theorem good_row : Gd rRow := good_sl good_int
theorem good_grid : Gd rGrid := good_sl (good_sl good_int)
theorem good_atom : Gd rAtom := good_two good_str good_row
theorem good_rel : Gd rRel := good_two good_int good_grid
theorem good_table : Gd rTable := good_two good_str good_rel
theorem good_query : Gd rQuery := good_two good_int (good_two (good_sl good_atom) good_row)
theorem good_db : Gd rDb := good_sl good_table

theorem atom_open {w : World} {lo hi : Nat} {cs : List Value} {x : AtomD} (h : rAtom w lo hi cs x) : ∃ a cap, cs = [.string x.1, .slice a x.2.length cap] ∧ x.1.size ≤ 9223372036854775807 ∧ x.2.length ≤ 9223372036854775807 ∧ Els 1 rInt w lo hi a x.2 := by
  obtain ⟨c, d, rfl, ⟨rfl, h1⟩, h2, a, cap, rfl, _, h3⟩ := h
  exact ⟨a, cap, rfl, h1, h2, h3⟩
theorem atom_mk {w : World} {lo hi : Nat} {a : Option Addr} {cap : Nat} {x : AtomD} (h1 : x.1.size ≤ 9223372036854775807) (h2 : x.2.length ≤ 9223372036854775807) (h : Els 1 rInt w lo hi a x.2) (hc : x.2.length ≤ cap := by first | exact Nat.le_refl _ | omega) : rAtom w lo hi [.string x.1, .slice a x.2.length cap] x :=
  ⟨[_], [_], rfl, ⟨rfl, h1⟩, h2, a, cap, rfl, hc, h⟩
theorem rel_open {w : World} {lo hi : Nat} {cs : List Value} {x : RelD} (h : rRel w lo hi cs x) : ∃ a cap, cs = [.int .i64 x.1, .slice a x.2.length cap] ∧ x.2.length ≤ 9223372036854775807 ∧ Els 1 (rSl 1 rInt) w lo hi a x.2 := by
  obtain ⟨c, d, rfl, hc, h2, a, cap, rfl, _, h3⟩ := h
  have e : c = [.int .i64 x.1] := hc
  subst e
  exact ⟨a, cap, rfl, h2, h3⟩
theorem rel_mk {w : World} {lo hi : Nat} {a : Option Addr} {cap : Nat} {x : RelD} (h2 : x.2.length ≤ 9223372036854775807) (h : Els 1 (rSl 1 rInt) w lo hi a x.2) (hc : x.2.length ≤ cap := by first | exact Nat.le_refl _ | omega) : rRel w lo hi [.int .i64 x.1, .slice a x.2.length cap] x :=
  ⟨[_], [_], rfl, rfl, h2, a, cap, rfl, hc, h⟩
theorem table_open {w : World} {lo hi : Nat} {cs : List Value} {x : TableD} (h : rTable w lo hi cs x) : ∃ a cap, cs = [.string x.1, .int .i64 x.2.1, .slice a x.2.2.length cap] ∧ x.1.size ≤ 9223372036854775807 ∧ x.2.2.length ≤ 9223372036854775807 ∧ Els 1 (rSl 1 rInt) w lo hi a x.2.2 := by
  obtain ⟨c, d, rfl, ⟨rfl, h1⟩, hr⟩ := h
  obtain ⟨a, cap, rfl, h2, h3⟩ := rel_open hr
  exact ⟨a, cap, rfl, h1, h2, h3⟩
theorem table_mk {w : World} {lo hi : Nat} {a : Option Addr} {cap : Nat} {x : TableD} (h1 : x.1.size ≤ 9223372036854775807) (h2 : x.2.2.length ≤ 9223372036854775807) (h : Els 1 (rSl 1 rInt) w lo hi a x.2.2) (hc : x.2.2.length ≤ cap := by first | exact Nat.le_refl _ | omega) : rTable w lo hi [.string x.1, .int .i64 x.2.1, .slice a x.2.2.length cap] x :=
  ⟨[_], [_, _], rfl, ⟨rfl, h1⟩, rel_mk h2 h hc⟩
theorem query_open {w : World} {lo hi : Nat} {cs : List Value} {x : QueryD} (h : rQuery w lo hi cs x) : ∃ a cap o capo, cs = [.int .i64 x.1, .slice a x.2.1.length cap, .slice o x.2.2.length capo] ∧ x.2.1.length ≤ 9223372036854775807 ∧ x.2.2.length ≤ 9223372036854775807 ∧ Els 2 rAtom w lo hi a x.2.1 ∧ Els 1 rInt w lo hi o x.2.2 := by
  obtain ⟨c, d, rfl, hc, c1, d1, rfl, ⟨h1, a, cap, rfl, _, h2⟩, h3, o, capo, rfl, _, h4⟩ := h
  have e : c = [.int .i64 x.1] := hc
  subst e
  exact ⟨a, cap, o, capo, rfl, h1, h3, h2, h4⟩
theorem query_mk {w : World} {lo hi : Nat} {a o : Option Addr} {cap capo : Nat} {x : QueryD} (h1 : x.2.1.length ≤ 9223372036854775807) (h3 : x.2.2.length ≤ 9223372036854775807) (h2 : Els 2 rAtom w lo hi a x.2.1) (h4 : Els 1 rInt w lo hi o x.2.2) (hc : x.2.1.length ≤ cap := by first | exact Nat.le_refl _ | omega) (hc2 : x.2.2.length ≤ capo := by first | exact Nat.le_refl _ | omega) : rQuery w lo hi [.int .i64 x.1, .slice a x.2.1.length cap, .slice o x.2.2.length capo] x :=
  ⟨[_], [_, _], rfl, rfl, [_], [_], rfl, ⟨h1, a, cap, rfl, hc, h2⟩, h3, o, capo, rfl, hc2, h4⟩
theorem db_open {w : World} {lo hi : Nat} {cs : List Value} {x : List TableD} (h : rDb w lo hi cs x) : ∃ a cap, cs = [.slice a x.length cap] ∧ x.length ≤ 9223372036854775807 ∧ Els 3 rTable w lo hi a x := by
  obtain ⟨h1, a, cap, rfl, _, h2⟩ := h
  exact ⟨a, cap, rfl, h1, h2⟩
theorem db_mk {w : World} {lo hi : Nat} {a : Option Addr} {cap : Nat} {x : List TableD} (h1 : x.length ≤ 9223372036854775807) (h2 : Els 3 rTable w lo hi a x) (hc : x.length ≤ cap := by first | exact Nat.le_refl _ | omega) : rDb w lo hi [.slice a x.length cap] x := ⟨h1, a, cap, rfl, hc, h2⟩

theorem query_cap {w : World} {lo hi n1 cap n2 capo : Nat} {a o : Option Addr} {z : Value} {x : QueryD} (h : rQuery w lo hi [z, .slice a n1 cap, .slice o n2 capo] x) : x.2.1.length ≤ cap ∧ x.2.2.length ≤ capo := by
  obtain ⟨c, d, e, hc, c1, d1, rfl, ⟨_, a', cap', rfl, h1, _⟩, _, o', capo', rfl, h2, _⟩ := h
  have e1 : c = [.int .i64 x.1] := hc
  subst e1
  simp only [List.cons_append, List.nil_append, List.cons.injEq, Value.slice.injEq, and_true] at e
  obtain ⟨_, ⟨_, _, rfl⟩, _, _, rfl⟩ := e
  exact ⟨h1, h2⟩
theorem db_cap {w : World} {lo hi n1 cap : Nat} {a : Option Addr} {x : List TableD} (h : rDb w lo hi [.slice a n1 cap] x) : x.length ≤ cap := by
  obtain ⟨_, a', cap', e, h1, _⟩ := h
  simp only [List.cons.injEq, Value.slice.injEq, and_true] at e
  obtain ⟨_, _, rfl⟩ := e
  exact h1
theorem atoms_at {w : World} {lo hi : Nat} {a : Option Addr} {xs : List AtomD} (h : Els 2 rAtom w lo hi a xs) (j : Nat) (hj : j < xs.length) : ∃ b off aj capj, a = some ⟨b, off, none⟩ ∧ lo ≤ b ∧ b < hi ∧ w.cell? ⟨b, off + j * 2, none⟩ = some (.string xs[j].1) ∧ w.cell? ⟨b, off + j * 2 + 1, none⟩ = some (.slice aj xs[j].2.length capj) ∧ rAtom w lo hi [.string xs[j].1, .slice aj xs[j].2.length capj] xs[j] := by
  obtain ⟨b, off, e, h1, h2, hc⟩ := h (by omega)
  obtain ⟨cs, hl, h3, h4⟩ := hc j hj
  obtain ⟨aj, capj, rfl, _⟩ := atom_open h4
  exact ⟨b, off, aj, capj, e, h1, h2, by simpa using h3 0 (by simp), by simpa using h3 1 (by simp), h4⟩
theorem tables_at {w : World} {lo hi : Nat} {a : Option Addr} {xs : List TableD} (h : Els 3 rTable w lo hi a xs) (j : Nat) (hj : j < xs.length) : ∃ b off aj capj, a = some ⟨b, off, none⟩ ∧ lo ≤ b ∧ b < hi ∧ w.cell? ⟨b, off + j * 3, none⟩ = some (.string xs[j].1) ∧ w.cell? ⟨b, off + j * 3 + 1, none⟩ = some (.int .i64 xs[j].2.1) ∧ w.cell? ⟨b, off + j * 3 + 2, none⟩ = some (.slice aj xs[j].2.2.length capj) ∧ rTable w lo hi [.string xs[j].1, .int .i64 xs[j].2.1, .slice aj xs[j].2.2.length capj] xs[j] := by
  obtain ⟨b, off, e, h1, h2, hc⟩ := h (by omega)
  obtain ⟨cs, hl, h3, h4⟩ := hc j hj
  obtain ⟨aj, capj, rfl, _⟩ := table_open h4
  exact ⟨b, off, aj, capj, e, h1, h2, by simpa using h3 0 (by simp), by simpa using h3 1 (by simp), by simpa using h3 2 (by simp), h4⟩

/-! ### sizes -/
def szA (x : AtomD) : Nat := x.1.size + x.2.length
def szG (xss : List (List Int)) : Nat := tots List.length xss
def szT (x : TableD) : Nat := x.1.size + szG x.2.2
def szQ (x : QueryD) : Nat := tots szA x.2.1 + x.2.2.length
def szD (x : List TableD) : Nat := tots szT x
end Go.Proofs.Ytaiimjbdhcjobaa.Dat
