/- Contracts of the two makers of normal forms. -/
import Derived.Test.YtaiimjbdhcjobaaPart
import Derived.RegionTactic
import Derived.ChangeAlike
import Derived.BigRegion
namespace Go.Proofs.Ytaiimjbdhcjobaa.New
open Go.ChangeShapes Go.WideShapes Go.ChangeAt Go.RowKit
open Go.Proofs.Ytaiimjbdhcjobaa.Num Go.Proofs.Ytaiimjbdhcjobaa.Rat Go.Proofs.Ytaiimjbdhcjobaa.Gcd Go.Proofs.Ytaiimjbdhcjobaa.Valid Go.Proofs.Ytaiimjbdhcjobaa.Part
set_option linter.unusedVariables false

/-- What a maker of rationals returns. -/
def ratEnd (b : Bool) (x y : Int) : Ending := .returned (.tuple #[.agg #[.int .i64 (if b then x else 0), .int .i64 (if b then y else 0)], .bool b])

theorem impl_new_no (n d : Int) (w : World) (h : fits n d = false) (h0 : -9223372036854775808 ≤ n) (h1 : n ≤ 9223372036854775807) (h2 : -9223372036854775808 ≤ d) (h3 : d ≤ 9223372036854775807) :
    Calls Try.prog 133 #[.int .i64 n, .int .i64 d] w fun e w' => e = ratEnd false (nx n d) (ny n d) ∧ Below w.heap.size w w' := by
  have hf := fits_false h
  have H := hid h
  clear h
  by_cases g0 : d = 0
  · subst g0
    go_enter Try.func133, Try.ntmps133
    go_wp2
    refine bodyPost_ret (v := .tuple #[.agg #[.int .i64 0, .int .i64 0], .bool false]) (by simp [results, Try.results133, go_sem]) rfl ⟨rfl, (Below.refl _ _).alloc (Nat.le_refl _) _⟩
  · cases k1 : inR n (-4000000000000000000) 4000000000000000000 with
    | false =>
      have K1 := hid k1
      clear k1
      go_enter Try.func133, Try.ntmps133
      go_wp2_with fail
      refine (part_no _ _ K1.out).mono ?_
      rintro e w1 ⟨rfl, rfl⟩
      go_wp2_with fail
      refine bodyPost_ret (v := .tuple #[.agg #[.int .i64 0, .int .i64 0], .bool false]) (by simp [results, Try.results133, go_sem]) rfl ⟨rfl, (Below.refl _ _).alloc (Nat.le_refl _) _⟩
    | true =>
      have K1 := hid k1
      have k2 : inR d (-4000000000000000000) 4000000000000000000 = false := by have := inR_true k1; exact inR_not (by omega)
      have K2 := hid k2
      clear k1 k2
      go_enter Try.func133, Try.ntmps133
      go_wp2_with fail
      refine (part_yes _ _ K1.out).mono ?_
      rintro e w1 ⟨rfl, rfl⟩
      go_wp2_with fail
      refine (part_no _ _ K2.out).mono ?_
      rintro e w1 ⟨rfl, rfl⟩
      go_wp2_with fail
      refine bodyPost_ret (v := .tuple #[.agg #[.int .i64 0, .int .i64 0], .bool false]) (by simp [results, Try.results133, go_sem]) rfl ⟨rfl, (Below.refl _ _).alloc (Nat.le_refl _) _⟩

theorem bcell {W w1 : World} (hb : Below W.heap.size W w1) : (∀ b o, b < W.heap.size → w1.cell? ⟨b, o, none⟩ = W.cell? ⟨b, o, none⟩) ∧ (∀ b o, b < W.heap.size → w1.frozen? ⟨b, o, none⟩ = W.frozen? ⟨b, o, none⟩) :=
  ⟨fun b o h => hb.cell (p := ⟨b, o, none⟩) h, fun b o h => hb.frozen (p := ⟨b, o, none⟩) h⟩

theorem set2 {w : World} {b : Nat} {x y u v : Value} (h0 : w.cell? ⟨b, 0, none⟩ = some u) (h1 : w.cell? ⟨b, 1, none⟩ = some v) :
    ((w.setCell ⟨b, 0, none⟩ x).setCell ⟨b, 1, none⟩ y).cell? ⟨b, 0, none⟩ = some x ∧ ((w.setCell ⟨b, 0, none⟩ x).setCell ⟨b, 1, none⟩ y).cell? ⟨b, 1, none⟩ = some y := by
  constructor
  · rw [World.cell?_setCell_other _ _ _ _ (by simp), World.cell?_setCell_same _ _ _ h0]
  · have : (w.setCell ⟨b, 0, none⟩ x).cell? ⟨b, 1, none⟩ = some v := by rw [World.cell?_setCell_other _ _ _ _ (by simp), h1]
    exact World.cell?_setCell_same _ _ _ this

theorem quo_bd (x y m : Int) (h1 : -m ≤ x) (h2 : x ≤ m) : -m ≤ x.tdiv y ∧ x.tdiv y ≤ m := by
  have h : (x.tdiv y).natAbs ≤ x.natAbs := by rw [Int.natAbs_tdiv]; exact Nat.div_le_self _ _
  omega

theorem nx_bd (n d m : Int) (h1 : -m ≤ n) (h2 : n ≤ m) : -m ≤ nx n d ∧ nx n d ≤ m := quo_bd _ _ _ h1 h2
theorem ny_bd (n d m : Int) (h1 : -m ≤ d) (h2 : d ≤ m) : -m ≤ ny n d ∧ ny n d ≤ m := quo_bd _ _ _ h1 h2

theorem impl_new_yes (n d : Int) (w : World) (h : fits n d = true) :
    Calls Try.prog 133 #[.int .i64 n, .int .i64 d] w fun e w' => e = ratEnd (vr (nx n d) (ny n d)) (nx n d) (ny n d) ∧ Below w.heap.size w w' := by
  obtain ⟨g0, g1, g2, g3, g4⟩ := fits_true h
  have K1 := hid (inR_mk g1 g2)
  have K2 := hid (inR_mk g3 g4)
  have hg := gcd_le n d g0
  have hxb := nx_bd n d _ g1 g2
  have hyb := ny_bd n d _ g3 g4
  clear h
  by_cases hd : d < 0
  · have ex : nx n d = -n.tdiv ((Int.gcd n d : Nat) : Int) := by unfold nx gd; rw [if_pos hd, Int.tdiv_neg]
    have ey : ny n d = -d.tdiv ((Int.gcd n d : Nat) : Int) := by unfold ny gd; rw [if_pos hd, Int.tdiv_neg]
    have HX := hid (show wrap64 (-n.tdiv ((Int.gcd n d : Nat) : Int)) = nx n d by rw [← ex]; exact IntWalk.wrap64_in (nx n d) (by omega))
    have HY := hid (show wrap64 (-d.tdiv ((Int.gcd n d : Nat) : Int)) = ny n d by rw [← ey]; exact IntWalk.wrap64_in (ny n d) (by omega))
    clear ex ey
    go_enter Try.func133, Try.ntmps133
    go_wp2_with fail
    refine (part_yes _ _ K1.out).mono ?_
    rintro e w1 ⟨rfl, rfl⟩
    go_wp2_with fail
    refine (part_yes _ _ K2.out).mono ?_
    rintro e w1 ⟨rfl, rfl⟩
    go_wp2_with fail
    refine (impl_gcd n d _ (by omega) (by omega) (by omega) (by omega)).mono ?_
    rintro e w1 ⟨rfl, hb⟩
    go_wp2_with fail
    go_region
    go_wp2_with fail
    rw [HX.out, HY.out]
    refine (impl_valid (nx n d) (ny n d) _ (by omega) (by omega) (by omega) (by omega)).mono ?_
    rintro e w2 ⟨rfl, hb2⟩
    obtain ⟨hc, hf⟩ := bcell hb
    obtain ⟨hc2, hf2⟩ := bcell hb2
    have hz : w.heap.size < w1.heap.size := by have := hb.size; simp at this; omega
    have hz2 : w1.heap.size < w2.heap.size := by have := hb2.size; simp at this; omega
    have c0 : w2.cell? ⟨w.heap.size, 0, none⟩ = some (.int .i64 0) := by
      rw [hc2 _ _ (by simp; omega)]; show (w1.alloc _).cell? _ = _; rw [World.cell?_alloc_lt _ _ _ (by exact hz), hc _ _ (by simp)]; simp
    have c1 : w2.cell? ⟨w.heap.size, 1, none⟩ = some (.int .i64 0) := by
      rw [hc2 _ _ (by simp; omega)]; show (w1.alloc _).cell? _ = _; rw [World.cell?_alloc_lt _ _ _ (by exact hz), hc _ _ (by simp)]; simp
    have S := fun x y => set2 (x := x) (y := y) c0 c1
    have HB := hid (((((Below.refl w.heap.size w).alloc (Nat.le_refl _) (.cells #[.int .i64 0, .int .i64 0] 30)).trans (hb.mono (by simp))).alloc (by omega) _).drew.trans (hb2.mono (by simp; omega)))
    cases hv : vr (nx n d) (ny n d) with
    | false =>
      have HV := hid hv
      clear hv
      go_wp2_with fail
      refine bodyPost_ret (v := .tuple #[.agg #[.int .i64 0, .int .i64 0], .bool false]) (by simp [results, Try.results133, go_sem, (S _ _).1, (S _ _).2]) rfl ⟨by rw [HV.out]; rfl, (HB.out.setCell (by simp) _).setCell (by simp) _⟩
    | true =>
      have HV := hid hv
      clear hv
      go_wp2_with fail
      refine bodyPost_ret (v := .tuple #[.agg #[.int .i64 (nx n d), .int .i64 (ny n d)], .bool true]) (by simp [results, Try.results133, go_sem, (S _ _).1, (S _ _).2]) rfl ⟨by rw [HV.out]; rfl, (HB.out.setCell (by simp) _).setCell (by simp) _⟩
  · have ex : nx n d = n.tdiv ((Int.gcd n d : Nat) : Int) := by unfold nx gd; rw [if_neg hd]
    have ey : ny n d = d.tdiv ((Int.gcd n d : Nat) : Int) := by unfold ny gd; rw [if_neg hd]
    have HX := hid ex.symm
    have HY := hid (show d / ((Int.gcd n d : Nat) : Int) = ny n d by rw [ey]; exact (Int.tdiv_eq_ediv_of_nonneg (by omega)).symm)
    clear ex ey
    go_enter Try.func133, Try.ntmps133
    go_wp2_with fail
    refine (part_yes _ _ K1.out).mono ?_
    rintro e w1 ⟨rfl, rfl⟩
    go_wp2_with fail
    refine (part_yes _ _ K2.out).mono ?_
    rintro e w1 ⟨rfl, rfl⟩
    go_wp2_with fail
    refine (impl_gcd n d _ (by omega) (by omega) (by omega) (by omega)).mono ?_
    rintro e w1 ⟨rfl, hb⟩
    go_wp2_with fail
    go_region
    go_wp2_with fail
    rw [HX.out, HY.out]
    refine (impl_valid (nx n d) (ny n d) _ (by omega) (by omega) (by omega) (by omega)).mono ?_
    rintro e w2 ⟨rfl, hb2⟩
    obtain ⟨hc, hf⟩ := bcell hb
    obtain ⟨hc2, hf2⟩ := bcell hb2
    have hz : w.heap.size < w1.heap.size := by have := hb.size; simp at this; omega
    have hz2 : w1.heap.size < w2.heap.size := by have := hb2.size; simp at this; omega
    have c0 : w2.cell? ⟨w.heap.size, 0, none⟩ = some (.int .i64 0) := by
      rw [hc2 _ _ (by simp; omega)]; show (w1.alloc _).cell? _ = _; rw [World.cell?_alloc_lt _ _ _ (by exact hz), hc _ _ (by simp)]; simp
    have c1 : w2.cell? ⟨w.heap.size, 1, none⟩ = some (.int .i64 0) := by
      rw [hc2 _ _ (by simp; omega)]; show (w1.alloc _).cell? _ = _; rw [World.cell?_alloc_lt _ _ _ (by exact hz), hc _ _ (by simp)]; simp
    have S := fun x y => set2 (x := x) (y := y) c0 c1
    have HB := hid (((((Below.refl w.heap.size w).alloc (Nat.le_refl _) (.cells #[.int .i64 0, .int .i64 0] 30)).trans (hb.mono (by simp))).alloc (by omega) _).drew.trans (hb2.mono (by simp; omega)))
    cases hv : vr (nx n d) (ny n d) with
    | false =>
      have HV := hid hv
      clear hv
      go_wp2_with fail
      refine bodyPost_ret (v := .tuple #[.agg #[.int .i64 0, .int .i64 0], .bool false]) (by simp [results, Try.results133, go_sem, (S _ _).1, (S _ _).2]) rfl ⟨by rw [HV.out]; rfl, (HB.out.setCell (by simp) _).setCell (by simp) _⟩
    | true =>
      have HV := hid hv
      clear hv
      go_wp2_with fail
      refine bodyPost_ret (v := .tuple #[.agg #[.int .i64 (nx n d), .int .i64 (ny n d)], .bool true]) (by simp [results, Try.results133, go_sem, (S _ _).1, (S _ _).2]) rfl ⟨by rw [HV.out]; rfl, (HB.out.setCell (by simp) _).setCell (by simp) _⟩
end Go.Proofs.Ytaiimjbdhcjobaa.New
