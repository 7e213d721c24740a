/- Contracts of the two formats of rationals. -/
import Derived.Test.YtgpdnleooeekbaaDoorValid
import Derived.Test.YtgpdnleooeekbaaDoorCells
import Derived.Test.YtgpdnleooeekbaaDoorKeep
import Derived.Test.YtgpdnleooeekbaaDoorDec
import Derived.Test.YtgpdnleooeekbaaDoorLaidI
import Derived.Deep.RegionHeld3
namespace Go.Proofs.YtgpdnleooeekbaaDoor.FmtCalls
open Go.ChangeShapes Go.WideShapes Go.ChangeAt Go.RowKit
open Go.Proofs.YtgpdnleooeekbaaDoor.Num Go.Proofs.YtgpdnleooeekbaaDoor.Row Go.Proofs.YtgpdnleooeekbaaDoor.Rat Go.Proofs.YtgpdnleooeekbaaDoor.Gcd Go.Proofs.YtgpdnleooeekbaaDoor.Valid Go.Proofs.YtgpdnleooeekbaaDoor.Cells Go.Proofs.YtgpdnleooeekbaaDoor.Keep Go.Proofs.YtgpdnleooeekbaaDoor.LaidI
set_option linter.unusedVariables false

theorem spec_fmt_no (x y : Int) (w : World) (hx : -9223372036854775808 ≤ x ∧ x ≤ 9223372036854775807) (hy : -9223372036854775808 ≤ y ∧ y ≤ 9223372036854775807) (h : vr x y = false) :
    Calls Tryd.prog 38 #[.agg #[.int .i64 x, .int .i64 y]] w fun e w' => e = .returned (.string ⟨#[]⟩) ∧ Below w.heap.size w w' := by
  have V := hid fun W => spec_valid x y W hx.1 hx.2 hy.1 hy.2
  rw [h] at V
  clear h
  go_enter Tryd.func38, Tryd.ntmps38
  go_wp2_with fail
  refine (V.out _).mono ?_
  rintro e w1 ⟨rfl, hb1⟩
  go_wp2_with fail
  go_ret
  exact ⟨rfl, ((Below.refl _ _).alloc (Nat.le_refl _) _).trans (hb1.mono (by simp))⟩

theorem spec_fmt_one (x y : Int) (w : World) (h : vr x y = true) (h1 : y = 1) :
    Calls Tryd.prog 38 #[.agg #[.int .i64 x, .int .i64 y]] w fun e w' => e = .returned (.string ⟨(Lib.itoa x).toArray⟩) ∧ Below w.heap.size w w' := by
  obtain ⟨a0, a1, a2, a3, _⟩ := vr_true h
  have V := hid fun W => spec_valid x y W (by omega) (by omega) (by omega) (by omega)
  rw [h] at V
  clear h
  have hy1 : (y == 1) = true := by simpa using h1
  have H1 := hid h1
  clear h1
  have KA := hid (has2_new w (.int .i64 x) (.int .i64 y) 25)
  go_enter Tryd.func38, Tryd.ntmps38
  go_wp2_with fail
  refine (V.out _).mono ?_
  rintro e w1 ⟨rfl, hb1⟩
  obtain ⟨k0, k1, kz, _, _⟩ := KA.out.below hb1
  have hbt : Below w.heap.size w w1 := ((Below.refl _ _).alloc (Nat.le_refl _) _).trans (hb1.mono (by simp))
  have HB := hid hbt
  go_wp2_with fail
  refine (Dec.dec_any x _ (by omega) (by omega)).mono ?_
  rintro e w2 ⟨rfl, hb2⟩
  go_wp2_with fail
  go_ret
  exact ⟨rfl, HB.out.trans (hb2.mono HB.out.size)⟩

theorem impl_fmt_no (x y : Int) (w : World) (hx : -9223372036854775808 ≤ x ∧ x ≤ 9223372036854775807) (hy : -9223372036854775808 ≤ y ∧ y ≤ 9223372036854775807) (h : vr x y = false) :
    Calls Tryd.prog 10 #[.agg #[.int .i64 x, .int .i64 y]] w fun e w' => e = .returned (.string ⟨#[]⟩) ∧ Below w.heap.size w w' := by
  have V := hid fun W => impl_valid x y W hx.1 hx.2 hy.1 hy.2
  rw [h] at V
  clear h
  go_enter Tryd.func10, Tryd.ntmps10
  go_wp2_with fail
  refine (V.out _).mono ?_
  rintro e w1 ⟨rfl, hb1⟩
  go_wp2_with fail
  go_ret
  exact ⟨rfl, ((Below.refl _ _).alloc (Nat.le_refl _) _).trans (hb1.mono (by simp))⟩

theorem impl_fmt_one (x y : Int) (w : World) (ht : Pow w) (h : vr x y = true) (h1 : y = 1) :
    Calls Tryd.prog 10 #[.agg #[.int .i64 x, .int .i64 y]] w fun e w' => e = .returned (.string ⟨(Lib.itoa x).toArray⟩) ∧ Below w.heap.size w w' := by
  obtain ⟨a0, a1, a2, a3, _⟩ := vr_true h
  have V := hid fun W => impl_valid x y W (by omega) (by omega) (by omega) (by omega)
  rw [h] at V
  clear h
  have hy1 : (y == 1) = true := by simpa using h1
  have H1 := hid h1
  clear h1
  have HT := hid ht
  clear ht
  have KA := hid (has2_new w (.int .i64 x) (.int .i64 y) 25)
  go_enter Tryd.func10, Tryd.ntmps10
  go_wp2_with fail
  refine (V.out _).mono ?_
  rintro e w1 ⟨rfl, hb1⟩
  obtain ⟨k0, k1, kz, _, _⟩ := KA.out.below hb1
  have hbt : Below w.heap.size w w1 := ((Below.refl _ _).alloc (Nat.le_refl _) _).trans (hb1.mono (by simp))
  have HB := hid hbt
  go_wp2_with fail
  refine (impl_format x _ (by omega) (by omega) (HT.out.below hbt)).mono ?_
  rintro e w2 ⟨rfl, hb2⟩
  go_wp2_with fail
  go_ret
  exact ⟨rfl, HB.out.trans (hb2.mono HB.out.size)⟩

end Go.Proofs.YtgpdnleooeekbaaDoor.FmtCalls
