/- Contracts of the two formats of rationals that are no ints. -/
import Derived.Test.YtgpdnleooeekbaaDoorValid
import Derived.Test.YtgpdnleooeekbaaDoorCells
import Derived.Test.YtgpdnleooeekbaaDoorKeep
import Derived.Test.YtgpdnleooeekbaaDoorDec
import Derived.Test.YtgpdnleooeekbaaDoorLaidI
import Derived.Deep.RegionHeld3
import Derived.Laws.Concat
namespace Go.Proofs.YtgpdnleooeekbaaDoor.FmtFrac
open Go.ChangeShapes Go.WideShapes Go.ChangeAt Go.RowKit
open Go.Proofs.YtgpdnleooeekbaaDoor.Num Go.Proofs.YtgpdnleooeekbaaDoor.Row Go.Proofs.YtgpdnleooeekbaaDoor.Rat Go.Proofs.YtgpdnleooeekbaaDoor.Gcd Go.Proofs.YtgpdnleooeekbaaDoor.Valid Go.Proofs.YtgpdnleooeekbaaDoor.Cells Go.Proofs.YtgpdnleooeekbaaDoor.Keep Go.Proofs.YtgpdnleooeekbaaDoor.LaidI
set_option linter.unusedVariables false

theorem itoa_len (n : Int) (h0 : -1000000000 ≤ n) (h1 : n ≤ 1000000000) : (Lib.itoa n).length ≤ 11 := by
  by_cases hn : n < 0
  · obtain ⟨u, rfl⟩ : ∃ u : Nat, n = -(u : Int) := ⟨n.natAbs, by omega⟩
    rw [Dec.itoa_neg' u (by omega)]
    have := Dec.dd_length 9 u (by omega)
    simp; omega
  · obtain ⟨u, rfl⟩ := Int.eq_ofNat_of_zero_le (show 0 ≤ n by omega)
    rw [Dec.itoa_nat]
    have := Dec.dd_length 9 u (by omega)
    omega

set_option maxRecDepth 100000 in
theorem spec_fmt_frac (x y : Int) (w : World) (h : vr x y = true) (h1 : ¬ y = 1) :
    Calls Tryd.prog 38 #[.agg #[.int .i64 x, .int .i64 y]] w fun e w' => e = .returned (.string ((⟨(Lib.itoa x).toArray⟩ ++ ⟨#[47]⟩) ++ ⟨(Lib.itoa y).toArray⟩)) ∧ Below w.heap.size w w' := by
  obtain ⟨a0, a1, a2, a3, _⟩ := vr_true h
  have V := hid fun W => spec_valid x y W (by omega) (by omega) (by omega) (by omega)
  rw [h] at V
  clear h
  have hlx := itoa_len x (by omega) (by omega)
  have hly := itoa_len y (by omega) (by omega)
  have hy1 : (y == 1) = false := by simpa using h1
  have hs1 := fun (W : World) => run_string_add_sum (P := Tryd.prog) W ⟨(Lib.itoa x).toArray⟩ ⟨#[47]⟩ (by simp [ByteArray.size]; omega)
  have hs2 := fun (W : World) => run_string_add_sum (P := Tryd.prog) W (⟨(Lib.itoa x).toArray⟩ ++ ⟨#[47]⟩) ⟨(Lib.itoa y).toArray⟩ (by simp [ByteArray.size]; omega)
  clear h1
  have KA := hid (has2_new w (.int .i64 x) (.int .i64 y) 25)
  go_enter Tryd.func38, Tryd.ntmps38
  go_wp2_with fail
  refine (V.out _).mono ?_
  rintro e w1 ⟨rfl, hb0⟩
  obtain ⟨k0, k1, kz, _, _⟩ := KA.out.below hb0
  have hkp : Kp w 1 w1 := ⟨kz, ((Below.refl _ _).alloc (Nat.le_refl _) _).trans (hb0.mono (by simp))⟩
  have hkd := hkp.drew
  go_wp2_with fail
  go_region_held3 (fun w' => w'.cell? ⟨w.heap.size, 0, none⟩ = some (.int .i64 x) ∧ w'.cell? ⟨w.heap.size, 1, none⟩ = some (.int .i64 y) ∧ Kp w 1 w')
    (first
      | (go_split_ands
         repeat' apply And.intro
         all_goals (first | (with_reducible assumption) | (with_reducible exact cell_drew (by assumption)) | (with_reducible exact Kp.cell (by assumption) hb1 (by omega) (by assumption)) | (with_reducible exact Kp.call (by assumption) hb1))))
    (first | (go_split_ands; go_at_call 79; (with_reducible refine (Dec.dec_any _ _ (by omega) (by omega)).mono ?_); rintro e w2 ⟨rfl, hb1⟩))
  go_wp2_with fail
  go_ret
  go_split_ands
  exact ⟨rfl, Kp.bel (n := 1) (by with_reducible assumption)⟩

set_option maxRecDepth 100000 in
theorem impl_fmt_frac (x y : Int) (w : World) (ht : Pow w) (h : vr x y = true) (h1 : ¬ y = 1) :
    Calls Tryd.prog 10 #[.agg #[.int .i64 x, .int .i64 y]] w fun e w' => e = .returned (.string ((⟨(Lib.itoa x).toArray⟩ ++ ⟨#[47]⟩) ++ ⟨(Lib.itoa y).toArray⟩)) ∧ Below w.heap.size w w' := by
  obtain ⟨a0, a1, a2, a3, _⟩ := vr_true h
  have V := hid fun W => impl_valid x y W (by omega) (by omega) (by omega) (by omega)
  rw [h] at V
  clear h
  have hlx := itoa_len x (by omega) (by omega)
  have hly := itoa_len y (by omega) (by omega)
  have hy1 : (y == 1) = false := by simpa using h1
  have hs1 := fun (W : World) => run_string_add_sum (P := Tryd.prog) W ⟨(Lib.itoa x).toArray⟩ ⟨#[47]⟩ (by simp [ByteArray.size]; omega)
  have hs2 := fun (W : World) => run_string_add_sum (P := Tryd.prog) W (⟨(Lib.itoa x).toArray⟩ ++ ⟨#[47]⟩) ⟨(Lib.itoa y).toArray⟩ (by simp [ByteArray.size]; omega)
  clear h1
  have HT := hid ht
  clear ht
  have KA := hid (has2_new w (.int .i64 x) (.int .i64 y) 25)
  go_enter Tryd.func10, Tryd.ntmps10
  go_wp2_with fail
  refine (V.out _).mono ?_
  rintro e w1 ⟨rfl, hb0⟩
  obtain ⟨k0, k1, kz, _, _⟩ := KA.out.below hb0
  have hkp : Kp w 1 w1 := ⟨kz, ((Below.refl _ _).alloc (Nat.le_refl _) _).trans (hb0.mono (by simp))⟩
  have hkd := hkp.drew
  go_wp2_with fail
  go_region_held3 (fun w' => w'.cell? ⟨w.heap.size, 0, none⟩ = some (.int .i64 x) ∧ w'.cell? ⟨w.heap.size, 1, none⟩ = some (.int .i64 y) ∧ Kp w 1 w')
    (first
      | (go_split_ands
         repeat' apply And.intro
         all_goals (first | (with_reducible assumption) | (with_reducible exact cell_drew (by assumption)) | (with_reducible exact Kp.cell (by assumption) hb1 (by omega) (by assumption)) | (with_reducible exact Kp.call (by assumption) hb1))))
    (first | (go_split_ands; go_at_call 37; (with_reducible refine (impl_format _ _ (by omega) (by omega) (HT.out.below (Kp.bel (n := 1) (by with_reducible assumption)))).mono ?_); rintro e w2 ⟨rfl, hb1⟩))
  go_wp2_with fail
  go_ret
  go_split_ands
  exact ⟨rfl, Kp.bel (n := 1) (by with_reducible assumption)⟩

end Go.Proofs.YtgpdnleooeekbaaDoor.FmtFrac
