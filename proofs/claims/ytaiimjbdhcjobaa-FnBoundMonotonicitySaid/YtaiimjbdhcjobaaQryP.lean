/- What a valid query is, and when two are the same (plain). -/
import Derived.Test.YtaiimjbdhcjobaaProg
import Derived.Test.YtaiimjbdhcjobaaNum
import Derived.Lib.Hide
import Derived.Test.YtaiimjbdhcjobaaRdr
namespace Go.Proofs.Ytaiimjbdhcjobaa.VarName
open Go.RowKit
open Go.Proofs.Ytaiimjbdhcjobaa.Num
set_option linter.unusedVariables false

/-- The name of a variable. -/
def vname (v : Int) : ByteArray := if 0 ≤ v ∧ v ≤ 4 then ⟨#[[88, 89, 90, 85, 86].getD v.toNat 0]⟩ else ⟨#[]⟩
theorem vname_no {v : Int} (h : v < 0 ∨ 4 < v) : vname v = ⟨#[]⟩ := if_neg (by omega)
/-- spec.l1In at any three ints; impl.isVariable. -/
def inR (v lo hi : Int) : Bool := decide (lo ≤ v) && decide (v ≤ hi)
def isv (v n : Int) : Bool := decide (0 ≤ v) && decide (v < n)
theorem inR_isv (v n : Int) : inR v 0 (n - 1) = isv v n := by
  unfold inR isv
  congr 1
  rw [decide_eq_decide]
  omega
theorem inR_yes {v lo hi : Int} (h1 : lo ≤ v) (h2 : v ≤ hi) : inR v lo hi = true := by simp [inR, h1, h2]
theorem inR_no {v lo hi : Int} (h : v < lo ∨ hi < v) : inR v lo hi = false := by simp [inR]; omega
theorem isv_yes {v n : Int} (h1 : 0 ≤ v) (h2 : v < n) : isv v n = true := by simp [isv, h1, h2]
theorem isv_no {v n : Int} (h : v < 0 ∨ n ≤ v) : isv v n = false := by simp [isv]; omega
theorem isv_iff {v n : Int} : isv v n = true ↔ 0 ≤ v ∧ v < n := by simp [isv]

theorem in_any (v lo hi : Int) (w : World) : Calls Try.prog 76 #[.int .i64 v, .int .i64 lo, .int .i64 hi] w fun e w' => e = .returned (.bool (inR v lo hi)) ∧ w = w' := by
  by_cases h : lo ≤ v
  · by_cases h2 : v ≤ hi
    · have H := hid (inR_yes h h2)
      go_enter Try.func76, Try.ntmps76
      go_wp2
      go_ret
      exact ⟨by rw [H.out]; rfl, rfl⟩
    · have H := hid (inR_no (v := v) (lo := lo) (hi := hi) (.inr (by omega)))
      go_enter Try.func76, Try.ntmps76
      go_wp2
      go_ret
      exact ⟨by rw [H.out]; rfl, rfl⟩
  · have H := hid (inR_no (v := v) (lo := lo) (hi := hi) (.inl (by omega)))
    go_enter Try.func76, Try.ntmps76
    go_wp2
    go_ret
    exact ⟨by rw [H.out]; rfl, rfl⟩
theorem in_is (v lo hi : Int) (b : Bool) (w : World) (h : inR v lo hi = b) : Calls Try.prog 76 #[.int .i64 v, .int .i64 lo, .int .i64 hi] w fun e w' => e = .returned (.bool b) ∧ w = w' := h ▸ in_any v lo hi w
theorem isv_any (v n : Int) (w : World) : Calls Try.prog 185 #[.int .i64 v, .int .i64 n] w fun e w' => e = .returned (.bool (isv v n)) ∧ w = w' := by
  by_cases h : 0 ≤ v
  · by_cases h2 : v < n
    · have H := hid (isv_yes h h2)
      go_enter Try.func185, Try.ntmps185
      go_wp2
      go_ret
      exact ⟨by rw [H.out]; rfl, rfl⟩
    · have H := hid (isv_no (v := v) (n := n) (.inr (by omega)))
      go_enter Try.func185, Try.ntmps185
      go_wp2
      go_ret
      exact ⟨by rw [H.out]; rfl, rfl⟩
  · have H := hid (isv_no (v := v) (n := n) (.inl (by omega)))
    go_enter Try.func185, Try.ntmps185
    go_wp2
    go_ret
    exact ⟨by rw [H.out]; rfl, rfl⟩
theorem isv_is (v n : Int) (b : Bool) (w : World) (h : isv v n = b) : Calls Try.prog 185 #[.int .i64 v, .int .i64 n] w fun e w' => e = .returned (.bool b) ∧ w = w' := h ▸ isv_any v n w

end Go.Proofs.Ytaiimjbdhcjobaa.VarName

namespace Go.Proofs.Ytaiimjbdhcjobaa.Names
open Go.RowKit
open Go.Proofs.Ytaiimjbdhcjobaa.Num
set_option linter.unusedVariables false

def lc (b : UInt8) : Bool := decide (97 ≤ b.toNat) && decide (b.toNat ≤ 122)
def nameOk (s : ByteArray) : Bool := (decide (1 ≤ s.size) && decide (s.size ≤ 4)) && s.data.toList.all lc
def LcTo (s : ByteArray) (k : Nat) : Prop := ∀ j (h : j < s.size), j < k → lc s[j] = true
theorem LcTo.zero (s : ByteArray) : LcTo s 0 := fun j _ h => by omega
theorem LcTo.step {s : ByteArray} {k : Nat} (h : LcTo s k) (hk : k < s.size) (h1 : lc s[k] = true) : LcTo s (k + 1) := fun j hj hjk => by
  rcases (by omega : j < k ∨ j = k) with e | rfl
  · exact h j hj e
  · exact h1
theorem all_of {s : ByteArray} (h : LcTo s s.size) : s.data.toList.all lc = true := by
  rw [List.all_eq_true]
  intro x hx
  obtain ⟨j, hj, rfl⟩ := List.getElem_of_mem hx
  have hj' : j < s.size := by simpa using hj
  exact h j hj' hj'
theorem name_all {s : ByteArray} (h : LcTo s s.size) : nameOk s = (decide (1 ≤ s.size) && decide (s.size ≤ 4)) := by simp only [nameOk, all_of h, Bool.and_true]
theorem name_no {s : ByteArray} (k : Nat) (hk : k < s.size) (h : lc s[k] = false) : nameOk s = false := by
  have : s.data.toList.all lc = false := by
    rw [List.all_eq_false]
    exact ⟨s[k], by
      have : s.data.toList[k]'(by simpa using hk) ∈ s.data.toList := List.getElem_mem _
      exact this, by rw [h]; simp⟩
  simp only [nameOk, this, Bool.and_false]
theorem lc_yes {b : UInt8} (h1 : ¬ (b.toNat : Int) < 97) (h2 : ¬ (122 : Int) < (b.toNat : Int)) : lc b = true := by simp [lc]; omega
theorem lc_low {b : UInt8} (h1 : (b.toNat : Int) < 97) : lc b = false := by simp [lc]; omega
theorem lc_high {b : UInt8} (h1 : (122 : Int) < (b.toNat : Int)) : lc b = false := by simp [lc]; omega

theorem in_name (n : Nat) (w : World) : Calls Try.prog 76 #[.int .i64 (n : Nat), .int .i64 1, .int .i64 4] w fun e w' => e = .returned (.bool (decide (1 ≤ n) && decide (n ≤ 4))) ∧ w = w' := by
  by_cases h1 : n < 1
  · obtain rfl : n = 0 := by omega
    go_enter Try.func76, Try.ntmps76
    go_wp2
    go_ret
    exact ⟨rfl, rfl⟩
  · have e1 : decide (1 ≤ n) = true := by simp; omega
    by_cases h2 : n ≤ 4
    · have e2 : decide (n ≤ 4) = true := by simp [h2]
      rw [e1, e2]
      have h3 : (1 : Int) ≤ (n : Int) := by omega
      have h4 : (n : Int) ≤ 4 := by omega
      clear e1 e2 h1
      go_enter Try.func76, Try.ntmps76
      go_wp2
      go_ret
      exact ⟨rfl, rfl⟩
    · have e2 : decide (n ≤ 4) = false := by simp [h2]
      rw [e1, e2]
      have h3 : (1 : Int) ≤ (n : Int) := by omega
      have h4 : ¬ (n : Int) ≤ 4 := by omega
      clear e1 e2 h1
      go_enter Try.func76, Try.ntmps76
      go_wp2
      go_ret
      exact ⟨rfl, rfl⟩

set_option maxRecDepth 100000 in
theorem spec_name (s : ByteArray) (w : World) (hs : s.size ≤ 1048576) :
    Calls Try.prog 153 #[.string s] w fun e w' => e = .returned (.bool (nameOk s)) ∧ w = w' := by
  obtain ⟨ok, hok⟩ : ∃ z, nameOk s = z := ⟨_, rfl⟩
  rw [hok]
  have HO := hid hok
  clear hok
  go_enter Try.func153, Try.ntmps153
  go_wp2
  go_loop [3] (fun i => ∃ k : Nat, k ≤ s.size ∧ i = .int .i64 k ∧ Hid (LcTo s k)) (fun i => s.size - (intOf i).toNat)
  case atStart => exact ⟨0, Nat.zero_le _, rfl, hid (LcTo.zero s)⟩
  case round =>
    obtain ⟨k, hk, rfl, hL⟩ := hrel
    by_cases hlt : k < s.size
    · have hlt' : (k : Int) < (s.size : Int) := by omega
      by_cases h1 : (s[k].toNat : Int) < 97
      · obtain rfl : false = ok := (name_no k hlt (lc_low h1)).symm.trans HO.out
        go_wp2
        go_ret
        exact ⟨rfl, rfl⟩
      · by_cases h2 : (122 : Int) < (s[k].toNat : Int)
        · obtain rfl : false = ok := (name_no k hlt (lc_high h2)).symm.trans HO.out
          go_wp2
          go_ret
          exact ⟨rfl, rfl⟩
        · have HL := hid (hL.out.step hlt (lc_yes h1 h2))
          go_wp2
          go_round
          case rel => exact ⟨k + 1, by omega, by go_num, HL⟩
          case measure => simp [intOf]; omega
    · have e : k = s.size := by omega
      subst e
      obtain rfl : (decide (1 ≤ s.size) && decide (s.size ≤ 4)) = ok := (name_all hL.out).symm.trans HO.out
      go_wp2_with fail
      refine (in_name s.size w).mono ?_
      rintro e w2 ⟨rfl, rfl⟩
      go_wp2
      go_ret
      exact ⟨rfl, rfl⟩

set_option maxRecDepth 100000 in
theorem impl_name (s : ByteArray) (w : World) (hs : s.size ≤ 1048576) :
    Calls Try.prog 193 #[.string s] w fun e w' => e = .returned (.bool (nameOk s)) ∧ w = w' := by
  obtain ⟨ok, hok⟩ : ∃ z, nameOk s = z := ⟨_, rfl⟩
  rw [hok]
  have HO := hid hok
  clear hok
  by_cases h0 : s.size = 0
  · have t0 : ((s.size : Int) == 0) = true := by rw [beq_iff_eq]; omega
    obtain rfl : false = ok := by
      rw [← HO.out]
      simp [nameOk, h0]
    clear h0
    go_enter Try.func193, Try.ntmps193
    go_wp2
    go_ret
    exact ⟨rfl, rfl⟩
  · have t0 : ((s.size : Int) == 0) = false := by rw [beq_eq_false_iff_ne]; omega
    by_cases h4 : (4 : Int) < (s.size : Int)
    · obtain rfl : false = ok := by
        rw [← HO.out]
        have : decide (s.size ≤ 4) = false := by simp; omega
        simp [nameOk, this]
      clear h0
      go_enter Try.func193, Try.ntmps193
      go_wp2
      go_ret
      exact ⟨rfl, rfl⟩
    · go_enter Try.func193, Try.ntmps193
      go_wp2
      go_loop [3, 14] (fun _ i => ∃ k : Nat, k ≤ s.size ∧ i = .int .i64 k ∧ Hid (LcTo s k)) (fun _ i => s.size - (intOf i).toNat)
      case atStart => exact ⟨0, Nat.zero_le _, rfl, hid (LcTo.zero s)⟩
      case round =>
        obtain ⟨k, hk, rfl, hL⟩ := hrel
        by_cases hlt : k < s.size
        · have hlt' : (k : Int) < (s.size : Int) := by omega
          by_cases h1 : (s[k].toNat : Int) < 97
          · obtain rfl : false = ok := (name_no k hlt (lc_low h1)).symm.trans HO.out
            go_wp2
            go_ret
            exact ⟨rfl, rfl⟩
          · by_cases h2 : (122 : Int) < (s[k].toNat : Int)
            · obtain rfl : false = ok := (name_no k hlt (lc_high h2)).symm.trans HO.out
              go_wp2
              go_ret
              exact ⟨rfl, rfl⟩
            · have HL := hid (hL.out.step hlt (lc_yes h1 h2))
              go_wp2
              go_round
              case rel => exact ⟨k + 1, by omega, by go_num, HL⟩
              case measure => simp [intOf]; omega
        · have e : k = s.size := by omega
          subst e
          obtain rfl : true = ok := by
            have e1 : decide (1 ≤ s.size) = true := by simp; omega
            have e2 : decide (s.size ≤ 4) = true := by simp; omega
            rw [← HO.out, name_all hL.out, e1, e2]
            rfl
          go_wp2
          go_ret
          exact ⟨rfl, rfl⟩
end Go.Proofs.Ytaiimjbdhcjobaa.Names

namespace Go.Proofs.Ytaiimjbdhcjobaa.Dat
open Go.RowKit
open Go.Proofs.Ytaiimjbdhcjobaa.IntRow Go.Proofs.Ytaiimjbdhcjobaa.Grid Go.Proofs.Ytaiimjbdhcjobaa.Rdr
set_option linter.unusedVariables false

abbrev AtomD := ByteArray × List Int
abbrev RelD := Int × List (List Int)
abbrev TableD := ByteArray × RelD
abbrev QueryD := Int × (List AtomD × List Int)
def rRow : Reader (List Int) := rSl 1 rInt
def rGrid : Reader (List (List Int)) := rSl 1 (rSl 1 rInt)
def rAtom : Reader AtomD := rTwo rStr rRow
def rRel : Reader RelD := rTwo rInt rGrid
def rTable : Reader TableD := rTwo rStr rRel
def rQuery : Reader QueryD := rTwo rInt (rTwo (rSl 2 rAtom) rRow)
def rDb : Reader (List TableD) := rSl 3 rTable
theorem good_row : Gd rRow := good_sl good_int
theorem good_grid : Gd rGrid := good_sl (good_sl good_int)
theorem good_atom : Gd rAtom := good_two good_str good_row
theorem good_rel : Gd rRel := good_two good_int good_grid
theorem good_table : Gd rTable := good_two good_str good_rel
theorem good_query : Gd rQuery := good_two good_int (good_two (good_sl good_atom) good_row)
theorem good_db : Gd rDb := good_sl good_table

theorem atom_open {w : World} {lo hi : Nat} {cs : List Value} {x : AtomD} (h : rAtom w lo hi cs x) : ∃ a cap, cs = [.string x.1, .slice a x.2.length cap] ∧ x.1.size ≤ 9223372036854775807 ∧ x.2.length ≤ 9223372036854775807 ∧ Els 1 rInt w lo hi a x.2 := by
  obtain ⟨c, d, rfl, ⟨rfl, h1⟩, h2, a, cap, rfl, _, h3⟩ := h
  exact ⟨a, cap, rfl, h1, h2, h3⟩
theorem atom_mk {w : World} {lo hi : Nat} {a : Option Addr} {cap : Nat} {x : AtomD} (h1 : x.1.size ≤ 9223372036854775807) (h2 : x.2.length ≤ 9223372036854775807) (h : Els 1 rInt w lo hi a x.2) (hc : x.2.length ≤ cap := by first | exact Nat.le_refl _ | omega) : rAtom w lo hi [.string x.1, .slice a x.2.length cap] x :=
  ⟨[_], [_], rfl, ⟨rfl, h1⟩, h2, a, cap, rfl, hc, h⟩
theorem rel_open {w : World} {lo hi : Nat} {cs : List Value} {x : RelD} (h : rRel w lo hi cs x) : ∃ a cap, cs = [.int .i64 x.1, .slice a x.2.length cap] ∧ x.2.length ≤ 9223372036854775807 ∧ Els 1 (rSl 1 rInt) w lo hi a x.2 := by
  obtain ⟨c, d, rfl, hc, h2, a, cap, rfl, _, h3⟩ := h
  have e : c = [.int .i64 x.1] := hc
  subst e
  exact ⟨a, cap, rfl, h2, h3⟩
theorem rel_mk {w : World} {lo hi : Nat} {a : Option Addr} {cap : Nat} {x : RelD} (h2 : x.2.length ≤ 9223372036854775807) (h : Els 1 (rSl 1 rInt) w lo hi a x.2) (hc : x.2.length ≤ cap := by first | exact Nat.le_refl _ | omega) : rRel w lo hi [.int .i64 x.1, .slice a x.2.length cap] x :=
  ⟨[_], [_], rfl, rfl, h2, a, cap, rfl, hc, h⟩
theorem table_open {w : World} {lo hi : Nat} {cs : List Value} {x : TableD} (h : rTable w lo hi cs x) : ∃ a cap, cs = [.string x.1, .int .i64 x.2.1, .slice a x.2.2.length cap] ∧ x.1.size ≤ 9223372036854775807 ∧ x.2.2.length ≤ 9223372036854775807 ∧ Els 1 (rSl 1 rInt) w lo hi a x.2.2 := by
  obtain ⟨c, d, rfl, ⟨rfl, h1⟩, hr⟩ := h
  obtain ⟨a, cap, rfl, h2, h3⟩ := rel_open hr
  exact ⟨a, cap, rfl, h1, h2, h3⟩
theorem table_mk {w : World} {lo hi : Nat} {a : Option Addr} {cap : Nat} {x : TableD} (h1 : x.1.size ≤ 9223372036854775807) (h2 : x.2.2.length ≤ 9223372036854775807) (h : Els 1 (rSl 1 rInt) w lo hi a x.2.2) (hc : x.2.2.length ≤ cap := by first | exact Nat.le_refl _ | omega) : rTable w lo hi [.string x.1, .int .i64 x.2.1, .slice a x.2.2.length cap] x :=
  ⟨[_], [_, _], rfl, ⟨rfl, h1⟩, rel_mk h2 h hc⟩
theorem query_open {w : World} {lo hi : Nat} {cs : List Value} {x : QueryD} (h : rQuery w lo hi cs x) : ∃ a cap o capo, cs = [.int .i64 x.1, .slice a x.2.1.length cap, .slice o x.2.2.length capo] ∧ x.2.1.length ≤ 9223372036854775807 ∧ x.2.2.length ≤ 9223372036854775807 ∧ Els 2 rAtom w lo hi a x.2.1 ∧ Els 1 rInt w lo hi o x.2.2 := by
  obtain ⟨c, d, rfl, hc, c1, d1, rfl, ⟨h1, a, cap, rfl, _, h2⟩, h3, o, capo, rfl, _, h4⟩ := h
  have e : c = [.int .i64 x.1] := hc
  subst e
  exact ⟨a, cap, o, capo, rfl, h1, h3, h2, h4⟩
theorem query_mk {w : World} {lo hi : Nat} {a o : Option Addr} {cap capo : Nat} {x : QueryD} (h1 : x.2.1.length ≤ 9223372036854775807) (h3 : x.2.2.length ≤ 9223372036854775807) (h2 : Els 2 rAtom w lo hi a x.2.1) (h4 : Els 1 rInt w lo hi o x.2.2) (hc : x.2.1.length ≤ cap := by first | exact Nat.le_refl _ | omega) (hc2 : x.2.2.length ≤ capo := by first | exact Nat.le_refl _ | omega) : rQuery w lo hi [.int .i64 x.1, .slice a x.2.1.length cap, .slice o x.2.2.length capo] x :=
  ⟨[_], [_, _], rfl, rfl, [_], [_], rfl, ⟨h1, a, cap, rfl, hc, h2⟩, h3, o, capo, rfl, hc2, h4⟩
theorem db_open {w : World} {lo hi : Nat} {cs : List Value} {x : List TableD} (h : rDb w lo hi cs x) : ∃ a cap, cs = [.slice a x.length cap] ∧ x.length ≤ 9223372036854775807 ∧ Els 3 rTable w lo hi a x := by
  obtain ⟨h1, a, cap, rfl, _, h2⟩ := h
  exact ⟨a, cap, rfl, h1, h2⟩
theorem db_mk {w : World} {lo hi : Nat} {a : Option Addr} {cap : Nat} {x : List TableD} (h1 : x.length ≤ 9223372036854775807) (h2 : Els 3 rTable w lo hi a x) (hc : x.length ≤ cap := by first | exact Nat.le_refl _ | omega) : rDb w lo hi [.slice a x.length cap] x := ⟨h1, a, cap, rfl, hc, h2⟩

theorem query_cap {w : World} {lo hi n1 cap n2 capo : Nat} {a o : Option Addr} {z : Value} {x : QueryD} (h : rQuery w lo hi [z, .slice a n1 cap, .slice o n2 capo] x) : x.2.1.length ≤ cap ∧ x.2.2.length ≤ capo := by
  obtain ⟨c, d, e, hc, c1, d1, rfl, ⟨_, a', cap', rfl, h1, _⟩, _, o', capo', rfl, h2, _⟩ := h
  have e1 : c = [.int .i64 x.1] := hc
  subst e1
  simp only [List.cons_append, List.nil_append, List.cons.injEq, Value.slice.injEq, and_true] at e
  obtain ⟨_, ⟨_, _, rfl⟩, _, _, rfl⟩ := e
  exact ⟨h1, h2⟩
theorem db_cap {w : World} {lo hi n1 cap : Nat} {a : Option Addr} {x : List TableD} (h : rDb w lo hi [.slice a n1 cap] x) : x.length ≤ cap := by
  obtain ⟨_, a', cap', e, h1, _⟩ := h
  simp only [List.cons.injEq, Value.slice.injEq, and_true] at e
  obtain ⟨_, _, rfl⟩ := e
  exact h1
theorem atoms_at {w : World} {lo hi : Nat} {a : Option Addr} {xs : List AtomD} (h : Els 2 rAtom w lo hi a xs) (j : Nat) (hj : j < xs.length) : ∃ b off aj capj, a = some ⟨b, off, none⟩ ∧ lo ≤ b ∧ b < hi ∧ w.cell? ⟨b, off + j * 2, none⟩ = some (.string xs[j].1) ∧ w.cell? ⟨b, off + j * 2 + 1, none⟩ = some (.slice aj xs[j].2.length capj) ∧ rAtom w lo hi [.string xs[j].1, .slice aj xs[j].2.length capj] xs[j] := by
  obtain ⟨b, off, e, h1, h2, hc⟩ := h (by omega)
  obtain ⟨cs, hl, h3, h4⟩ := hc j hj
  obtain ⟨aj, capj, rfl, _⟩ := atom_open h4
  exact ⟨b, off, aj, capj, e, h1, h2, by simpa using h3 0 (by simp), by simpa using h3 1 (by simp), h4⟩
theorem tables_at {w : World} {lo hi : Nat} {a : Option Addr} {xs : List TableD} (h : Els 3 rTable w lo hi a xs) (j : Nat) (hj : j < xs.length) : ∃ b off aj capj, a = some ⟨b, off, none⟩ ∧ lo ≤ b ∧ b < hi ∧ w.cell? ⟨b, off + j * 3, none⟩ = some (.string xs[j].1) ∧ w.cell? ⟨b, off + j * 3 + 1, none⟩ = some (.int .i64 xs[j].2.1) ∧ w.cell? ⟨b, off + j * 3 + 2, none⟩ = some (.slice aj xs[j].2.2.length capj) ∧ rTable w lo hi [.string xs[j].1, .int .i64 xs[j].2.1, .slice aj xs[j].2.2.length capj] xs[j] := by
  obtain ⟨b, off, e, h1, h2, hc⟩ := h (by omega)
  obtain ⟨cs, hl, h3, h4⟩ := hc j hj
  obtain ⟨aj, capj, rfl, _⟩ := table_open h4
  exact ⟨b, off, aj, capj, e, h1, h2, by simpa using h3 0 (by simp), by simpa using h3 1 (by simp), by simpa using h3 2 (by simp), h4⟩

/-! ### sizes -/
def szA (x : AtomD) : Nat := x.1.size + x.2.length
def szG (xss : List (List Int)) : Nat := tots List.length xss
def szT (x : TableD) : Nat := x.1.size + szG x.2.2
def szQ (x : QueryD) : Nat := tots szA x.2.1 + x.2.2.length
def szD (x : List TableD) : Nat := tots szT x
end Go.Proofs.Ytaiimjbdhcjobaa.Dat

namespace Go.Proofs.Ytaiimjbdhcjobaa.QryP
open Go.RowKit
open Go.Proofs.Ytaiimjbdhcjobaa.Rdr Go.Proofs.Ytaiimjbdhcjobaa.Dat Go.Proofs.Ytaiimjbdhcjobaa.VarName Go.Proofs.Ytaiimjbdhcjobaa.Names
set_option linter.unusedVariables false

/-! ### validity -/
def okA (n : Int) (a : AtomD) : Bool := nameOk a.1 && (inR (a.2.length : Int) 1 5 && a.2.all fun v => isv v n)
def occ (us : List AtomD) (v : Int) : Bool := us.any fun a => decide (v ∈ a.2)
def okAs (n : Int) (us : List AtomD) : Bool := inR (us.length : Int) 1 4 && us.all (okA n)
def everyV (n : Int) (us : List AtomD) : Bool := (List.range n.toNat).all fun v => occ us (v : Int)
def fits (n : Int) (out : List Int) (i : Nat) : Bool := isv (out.getD i 0) n && !decide (out.getD i 0 ∈ out.take i)
def distV (n : Int) (out : List Int) : Bool := (List.range out.length).all fun i => fits n out i
def vq (x : QueryD) : Bool := inR x.1 1 5 && (okAs x.1 x.2.1 && (everyV x.1 x.2.1 && distV x.1 x.2.2))

theorem all_no {α : Type} {p : α → Bool} {xs : List α} (k : Nat) (h : k < xs.length) (e : p xs[k] = false) : xs.all p = false := by
  rw [List.all_eq_false]
  exact ⟨xs[k], List.getElem_mem h, by simp [e]⟩
theorem all_yes {α : Type} {p : α → Bool} {xs : List α} (h : ∀ j (h : j < xs.length), p xs[j] = true) : xs.all p = true := by
  rw [List.all_eq_true]
  intro x hx
  obtain ⟨j, hj, rfl⟩ := List.getElem_of_mem hx
  exact h j hj
theorem range_no {p : Nat → Bool} {n k : Nat} (h : k < n) (e : p k = false) : (List.range n).all p = false := by
  rw [List.all_eq_false]
  exact ⟨k, by simpa using h, by simp [e]⟩
theorem range_yes {p : Nat → Bool} {n : Nat} (h : ∀ k, k < n → p k = true) : (List.range n).all p = true := by
  rw [List.all_eq_true]
  intro k hk
  exact h k (by simpa using hk)
theorem range_at {p : Nat → Bool} {n : Nat} (h : (List.range n).all p = true) (k : Nat) (hk : k < n) : p k = true := by
  rw [List.all_eq_true] at h
  exact h k (by simpa using hk)
theorem occ_yes {us : List AtomD} {v : Int} (k : Nat) (h : k < us.length) (e : decide (v ∈ us[k].2) = true) : occ us v = true := by
  unfold occ
  rw [List.any_eq_true]
  exact ⟨us[k], List.getElem_mem h, e⟩
theorem occ_no {us : List AtomD} {v : Int} (h : ∀ j (h : j < us.length), decide (v ∈ us[j].2) = false) : occ us v = false := by
  unfold occ
  rw [List.any_eq_false]
  intro a ha
  obtain ⟨j, hj, rfl⟩ := List.getElem_of_mem ha
  rw [h j hj]
  simp
theorem fits_at {n : Int} {out : List Int} (i : Nat) (h : i < out.length) : fits n out i = (isv out[i] n && !decide (out[i] ∈ out.take i)) := by
  simp [fits, List.getD, List.getElem?_eq_getElem h]
theorem fits_no1 {n : Int} {out : List Int} (i : Nat) (h : i < out.length) (e : isv out[i] n = false) : fits n out i = false := by rw [fits_at i h, e]; rfl
theorem fits_no2 {n : Int} {out : List Int} (i : Nat) (h : i < out.length) (e : decide (out[i] ∈ out.take i) = true) : fits n out i = false := by rw [fits_at i h, e]; simp
theorem fits_yes {n : Int} {out : List Int} (i : Nat) (h : i < out.length) (e1 : isv out[i] n = true) (e2 : decide (out[i] ∈ out.take i) = false) : fits n out i = true := by rw [fits_at i h, e1, e2]; rfl

/-- Different ints from 0 on and below n: at most n of them. -/
theorem pigeon (n : Nat) : ∀ (out : List Int), out.Nodup → (∀ v ∈ out, 0 ≤ v ∧ v < (n : Int)) → out.length ≤ n := by
  induction n with
  | zero =>
    intro out _ h
    cases out with
    | nil => exact Nat.le_refl _
    | cons v t => have := h v (by simp); omega
  | succ n ih =>
    intro out hn h
    have h1 : (out.filter fun v => decide (v ≠ (n : Int))).length ≤ n := ih _ (hn.filter _) (fun v hv => by
      rw [List.mem_filter] at hv
      have := h v hv.1
      have hne : v ≠ (n : Int) := by simpa using hv.2
      omega)
    have h2 : out.count (n : Int) ≤ 1 := List.nodup_iff_count.1 hn _
    have h3 : out.length = (out.filter fun v => decide (v ≠ (n : Int))).length + out.count (n : Int) := by
      clear h1 h2 ih hn h
      induction out with
      | nil => rfl
      | cons v t ih =>
        by_cases e : v = (n : Int)
        · subst e; simp [ih]; omega
        · simp [e, ih]; omega
    omega
theorem dist_nodup {n : Int} {out : List Int} (h : distV n out = true) : out.Nodup ∧ ∀ v ∈ out, 0 ≤ v ∧ v < n := by
  have ha : ∀ i (h : i < out.length), isv out[i] n = true ∧ decide (out[i] ∈ out.take i) = false := fun i hi => by
    have := range_at h i hi
    rw [fits_at i hi] at this
    simpa using this
  refine ⟨?_, fun v hv => ?_⟩
  · rw [List.nodup_iff_pairwise_ne, List.pairwise_iff_getElem]
    intro i j hi hj hij e
    have := (ha j hj).2
    rw [decide_eq_false_iff_not] at this
    exact this (List.mem_take_iff_getElem.2 ⟨i, by omega, e⟩)
  · obtain ⟨i, hi, rfl⟩ := List.getElem_of_mem hv
    exact isv_iff.1 (ha i hi).1
/-- More output variables than there are variables: one is there twice, or is none. -/
theorem dist_long {n : Int} {out : List Int} (h0 : 0 ≤ n) (h : n < (out.length : Int)) : distV n out = false := by
  cases hd : distV n out with
  | false => rfl
  | true =>
    obtain ⟨hn, hv⟩ := dist_nodup hd
    have := pigeon n.toNat out hn (fun v h => by have := hv v h; omega)
    omega
theorem vq_n {x : QueryD} (h : inR x.1 1 5 = false) : vq x = false := by simp [vq, h]
theorem vq_as {x : QueryD} (h : okAs x.1 x.2.1 = false) : vq x = false := by simp [vq, h]
theorem vq_ev {x : QueryD} (h : everyV x.1 x.2.1 = false) : vq x = false := by simp [vq, h]
theorem vq_di {x : QueryD} (h : distV x.1 x.2.2 = false) : vq x = false := by simp [vq, h]
theorem vq_yes {x : QueryD} (h1 : inR x.1 1 5 = true) (h2 : okAs x.1 x.2.1 = true) (h3 : everyV x.1 x.2.1 = true) (h4 : distV x.1 x.2.2 = true) : vq x = true := by simp [vq, h1, h2, h3, h4]
theorem okAs_len {n : Int} {us : List AtomD} (h : inR (us.length : Int) 1 4 = false) : okAs n us = false := by simp [okAs, h]
theorem okAs_at {n : Int} {us : List AtomD} (k : Nat) (hk : k < us.length) (h : okA n us[k] = false) : okAs n us = false := by simp only [okAs, all_no k hk h, Bool.and_false]
theorem okAs_yes {n : Int} {us : List AtomD} (h : inR (us.length : Int) 1 4 = true) (h2 : ∀ j (h : j < us.length), okA n us[j] = true) : okAs n us = true := by simp only [okAs, h, all_yes h2, Bool.and_true]
theorem okA_name {n : Int} {a : AtomD} (h : nameOk a.1 = false) : okA n a = false := by simp [okA, h]
theorem okA_len {n : Int} {a : AtomD} (h : inR (a.2.length : Int) 1 5 = false) : okA n a = false := by simp [okA, h]
theorem okA_at {n : Int} {a : AtomD} (k : Nat) (hk : k < a.2.length) (h : isv a.2[k] n = false) : okA n a = false := by
  have := all_no (p := fun v => isv v n) k hk h
  simp only [okA, this, Bool.and_false]
theorem okA_yes {n : Int} {a : AtomD} (h1 : nameOk a.1 = true) (h2 : inR (a.2.length : Int) 1 5 = true) (h3 : ∀ j (h : j < a.2.length), isv a.2[j] n = true) : okA n a = true := by
  have := all_yes (p := fun v => isv v n) h3
  simp only [okA, h1, h2, this, Bool.and_true]

/-! ### equality -/
def keyA (x : AtomD) : List UInt8 × List Int := (x.1.toList, x.2)
def eqAs (xs ys : List AtomD) : Bool := decide (xs.map keyA = ys.map keyA)
def eqQ (x y : QueryD) : Bool := decide (x.1 = y.1) && (eqAs x.2.1 y.2.1 && decide (x.2.2 = y.2.2))
theorem eqAs_len {xs ys : List AtomD} (h : xs.length ≠ ys.length) : eqAs xs ys = false := by
  simp only [eqAs, decide_eq_false_iff_not]
  intro e
  have := congrArg List.length e
  simp at this
  exact h this
theorem eqAs_at {xs ys : List AtomD} (k : Nat) (h1 : k < xs.length) (h2 : k < ys.length) (h : keyA xs[k] ≠ keyA ys[k]) : eqAs xs ys = false := by
  simp only [eqAs, decide_eq_false_iff_not]
  intro e
  have e1 : (xs.map keyA)[k]? = (ys.map keyA)[k]? := by rw [e]
  simp [List.getElem?_eq_getElem h1, List.getElem?_eq_getElem h2] at e1
  exact h e1
theorem eqAs_all {xs ys : List AtomD} (hl : xs.length = ys.length) (h : ∀ j (h1 : j < xs.length) (h2 : j < ys.length), keyA xs[j] = keyA ys[j]) : eqAs xs ys = true := by
  simp only [eqAs, decide_eq_true_eq]
  refine List.ext_getElem (by simpa using hl) (fun j h1 h2 => ?_)
  simp only [List.getElem_map]
  exact h j (by simpa using h1) (by simpa using h2)
theorem key_name {x y : AtomD} (h : (x.1.toList == y.1.toList) = false) : keyA x ≠ keyA y := fun e => by
  have := congrArg Prod.fst e
  simp only [keyA] at this
  rw [this] at h
  simp at h
theorem key_vars {x y : AtomD} (h : x.2 ≠ y.2) : keyA x ≠ keyA y := fun e => h (congrArg Prod.snd e : (keyA x).2 = (keyA y).2)
theorem key_same {x y : AtomD} (h1 : (x.1.toList == y.1.toList) = true) (h2 : x.2 = y.2) : keyA x = keyA y := by
  have h3 : x.1.toList = y.1.toList := by simpa using h1
  simp only [keyA, h2, h3]
theorem key_dec {x y : AtomD} (h1 : (x.1.toList == y.1.toList) = true) : decide (keyA x = keyA y) = decide (x.2 = y.2) := by
  rw [decide_eq_decide]
  exact ⟨fun e => (congrArg Prod.snd e : (keyA x).2 = (keyA y).2), fun e => key_same h1 e⟩
theorem bne_of {a b : List UInt8} {c : Bool} (h : (a == b) = c) : (a != b) = !c := by simp [bne, h]
end Go.Proofs.Ytaiimjbdhcjobaa.QryP
