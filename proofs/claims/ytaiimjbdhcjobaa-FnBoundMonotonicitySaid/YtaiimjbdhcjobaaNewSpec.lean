/- Contracts of the model's maker of normal forms. -/
import Derived.Test.YtaiimjbdhcjobaaNew
namespace Go.Proofs.Ytaiimjbdhcjobaa.NewSpec
open Go.ChangeShapes Go.WideShapes Go.ChangeAt Go.RowKit
open Go.Proofs.Ytaiimjbdhcjobaa.Num Go.Proofs.Ytaiimjbdhcjobaa.Rat Go.Proofs.Ytaiimjbdhcjobaa.Gcd Go.Proofs.Ytaiimjbdhcjobaa.Valid Go.Proofs.Ytaiimjbdhcjobaa.New
set_option linter.unusedVariables false

theorem spec_new_no (n d : Int) (w : World) (h : fits n d = false) (h0 : -9223372036854775808 ≤ n) (h1 : n ≤ 9223372036854775807) (h2 : -9223372036854775808 ≤ d) (h3 : d ≤ 9223372036854775807) :
    Calls Try.prog 141 #[.int .i64 n, .int .i64 d] w fun e w' => e = ratEnd false (nx n d) (ny n d) ∧ Below w.heap.size w w' := by
  have hf := fits_false h
  have H := hid h
  clear h
  by_cases g0 : d = 0
  · subst g0
    go_enter Try.func141, Try.ntmps141
    go_wp2
    refine bodyPost_ret (v := .tuple #[.agg #[.int .i64 0, .int .i64 0], .bool false]) (by simp [results, Try.results141, go_sem]) rfl ⟨rfl, (Below.refl _ _).alloc (Nat.le_refl _) _⟩
  · cases k1 : inR n (-4000000000000000000) 4000000000000000000 with
    | false =>
      have K1 := hid k1
      clear k1
      go_enter Try.func141, Try.ntmps141
      go_wp2_with fail
      refine (in_no _ _ _ _ K1.out).mono ?_
      rintro e w1 ⟨rfl, rfl⟩
      go_wp2_with fail
      refine bodyPost_ret (v := .tuple #[.agg #[.int .i64 0, .int .i64 0], .bool false]) (by simp [results, Try.results141, go_sem]) rfl ⟨rfl, (Below.refl _ _).alloc (Nat.le_refl _) _⟩
    | true =>
      have K1 := hid k1
      have k2 : inR d (-4000000000000000000) 4000000000000000000 = false := by have := inR_true k1; exact inR_not (by omega)
      have K2 := hid k2
      clear k1 k2
      go_enter Try.func141, Try.ntmps141
      go_wp2_with fail
      refine (in_yes _ _ _ _ K1.out).mono ?_
      rintro e w1 ⟨rfl, rfl⟩
      go_wp2_with fail
      refine (in_no _ _ _ _ K2.out).mono ?_
      rintro e w1 ⟨rfl, rfl⟩
      go_wp2_with fail
      refine bodyPost_ret (v := .tuple #[.agg #[.int .i64 0, .int .i64 0], .bool false]) (by simp [results, Try.results141, go_sem]) rfl ⟨rfl, (Below.refl _ _).alloc (Nat.le_refl _) _⟩

theorem spec_new_a (n d : Int) (w : World) (h : fits n d = true) (hd : d < 0) (hn : 0 < n) :
    Calls Try.prog 141 #[.int .i64 n, .int .i64 d] w fun e w' => e = ratEnd (vr (nx n d) (ny n d)) (nx n d) (ny n d) ∧ Below w.heap.size w w' := by
  obtain ⟨g0, g1, g2, g3, g4⟩ := fits_true h
  have K1 := hid (inR_mk g1 g2)
  have K2 := hid (inR_mk g3 g4)
  have hg := gcd_le n d g0
  have hxb := nx_bd n d _ g1 g2
  have hyb := ny_bd n d _ g3 g4
  clear h
  have HX := hid (show wrap64 (-n.tdiv ((Int.gcd n d : Nat) : Int)) = nx n d by rw [show -n.tdiv ((Int.gcd n d : Nat) : Int) = nx n d by unfold nx gd; rw [if_pos hd, Int.tdiv_neg]]; exact IntWalk.wrap64_in (nx n d) (by omega))
  have HY := hid (show wrap64 (-d.tdiv ((Int.gcd n d : Nat) : Int)) = ny n d by rw [show -d.tdiv ((Int.gcd n d : Nat) : Int) = ny n d by unfold ny gd; rw [if_pos hd, Int.tdiv_neg]]; exact IntWalk.wrap64_in (ny n d) (by omega))
  go_enter Try.func141, Try.ntmps141
  go_wp2_with fail
  refine (in_yes _ _ _ _ K1.out).mono ?_
  rintro e w1 ⟨rfl, rfl⟩
  go_wp2_with fail
  refine (in_yes _ _ _ _ K2.out).mono ?_
  rintro e w1 ⟨rfl, rfl⟩
  go_wp2_with fail
  refine (spec_gcd n (-d) _ (by omega) (by omega) (by omega) (by omega) (by omega) (by omega)).mono ?_
  rintro e w1 ⟨rfl, rfl⟩
  rw [Int.gcd_neg]
  go_wp2_with fail
  go_region
  go_wp2_with fail
  rw [HX.out, HY.out]
  refine (spec_valid (nx n d) (ny n d) _ (by omega) (by omega) (by omega) (by omega)).mono ?_
  rintro e w2 ⟨rfl, hb2⟩
  obtain ⟨hc2, hf2⟩ := bcell hb2
  have hz2 : w.heap.size + 1 < w2.heap.size := by have := hb2.size; simp at this; omega
  have c0 : w2.cell? ⟨w.heap.size, 0, none⟩ = some (.int .i64 0) := by
    rw [hc2 _ _ (by simp; omega)]; show ((w.alloc _).alloc _).cell? _ = _; rw [World.cell?_alloc_lt _ _ _ (by simp)]; simp
  have c1 : w2.cell? ⟨w.heap.size, 1, none⟩ = some (.int .i64 0) := by
    rw [hc2 _ _ (by simp; omega)]; show ((w.alloc _).alloc _).cell? _ = _; rw [World.cell?_alloc_lt _ _ _ (by simp)]; simp
  have S := fun x y => set2 (x := x) (y := y) c0 c1
  have HB := hid (((((Below.refl w.heap.size w).alloc (Nat.le_refl _) (.cells #[.int .i64 0, .int .i64 0] 30))).alloc (by simp) _).drew.trans (hb2.mono (by simp; omega)))
  cases hv : vr (nx n d) (ny n d) with
  | false =>
    have HV := hid hv
    clear hv
    go_wp2_with fail
    refine bodyPost_ret (v := .tuple #[.agg #[.int .i64 0, .int .i64 0], .bool false]) (by simp [results, Try.results141, go_sem, (S _ _).1, (S _ _).2]) rfl ⟨by rw [HV.out]; rfl, (HB.out.setCell (by simp) _).setCell (by simp) _⟩
  | true =>
    have HV := hid hv
    clear hv
    go_wp2_with fail
    refine bodyPost_ret (v := .tuple #[.agg #[.int .i64 (nx n d), .int .i64 (ny n d)], .bool true]) (by simp [results, Try.results141, go_sem, (S _ _).1, (S _ _).2]) rfl ⟨by rw [HV.out]; rfl, (HB.out.setCell (by simp) _).setCell (by simp) _⟩

theorem spec_new_b (n d : Int) (w : World) (h : fits n d = true) (hd : d < 0) (hn : n < 0) :
    Calls Try.prog 141 #[.int .i64 n, .int .i64 d] w fun e w' => e = ratEnd (vr (nx n d) (ny n d)) (nx n d) (ny n d) ∧ Below w.heap.size w w' := by
  obtain ⟨g0, g1, g2, g3, g4⟩ := fits_true h
  have K1 := hid (inR_mk g1 g2)
  have K2 := hid (inR_mk g3 g4)
  have hg := gcd_le n d g0
  have hxb := nx_bd n d _ g1 g2
  have hyb := ny_bd n d _ g3 g4
  clear h
  have HX := hid (show wrap64 (-n.tdiv ((Int.gcd n d : Nat) : Int)) = nx n d by rw [show -n.tdiv ((Int.gcd n d : Nat) : Int) = nx n d by unfold nx gd; rw [if_pos hd, Int.tdiv_neg]]; exact IntWalk.wrap64_in (nx n d) (by omega))
  have HY := hid (show wrap64 (-d.tdiv ((Int.gcd n d : Nat) : Int)) = ny n d by rw [show -d.tdiv ((Int.gcd n d : Nat) : Int) = ny n d by unfold ny gd; rw [if_pos hd, Int.tdiv_neg]]; exact IntWalk.wrap64_in (ny n d) (by omega))
  go_enter Try.func141, Try.ntmps141
  go_wp2_with fail
  refine (in_yes _ _ _ _ K1.out).mono ?_
  rintro e w1 ⟨rfl, rfl⟩
  go_wp2_with fail
  refine (in_yes _ _ _ _ K2.out).mono ?_
  rintro e w1 ⟨rfl, rfl⟩
  go_wp2_with fail
  refine (spec_gcd (-n) (-d) _ (by omega) (by omega) (by omega) (by omega) (by omega) (by omega)).mono ?_
  rintro e w1 ⟨rfl, rfl⟩
  rw [Int.neg_gcd, Int.gcd_neg]
  go_wp2_with fail
  go_region
  go_wp2_with fail
  rw [HX.out, HY.out]
  refine (spec_valid (nx n d) (ny n d) _ (by omega) (by omega) (by omega) (by omega)).mono ?_
  rintro e w2 ⟨rfl, hb2⟩
  obtain ⟨hc2, hf2⟩ := bcell hb2
  have hz2 : w.heap.size + 1 < w2.heap.size := by have := hb2.size; simp at this; omega
  have c0 : w2.cell? ⟨w.heap.size, 0, none⟩ = some (.int .i64 0) := by
    rw [hc2 _ _ (by simp; omega)]; show ((w.alloc _).alloc _).cell? _ = _; rw [World.cell?_alloc_lt _ _ _ (by simp)]; simp
  have c1 : w2.cell? ⟨w.heap.size, 1, none⟩ = some (.int .i64 0) := by
    rw [hc2 _ _ (by simp; omega)]; show ((w.alloc _).alloc _).cell? _ = _; rw [World.cell?_alloc_lt _ _ _ (by simp)]; simp
  have S := fun x y => set2 (x := x) (y := y) c0 c1
  have HB := hid (((((Below.refl w.heap.size w).alloc (Nat.le_refl _) (.cells #[.int .i64 0, .int .i64 0] 30))).alloc (by simp) _).drew.trans (hb2.mono (by simp; omega)))
  cases hv : vr (nx n d) (ny n d) with
  | false =>
    have HV := hid hv
    clear hv
    go_wp2_with fail
    refine bodyPost_ret (v := .tuple #[.agg #[.int .i64 0, .int .i64 0], .bool false]) (by simp [results, Try.results141, go_sem, (S _ _).1, (S _ _).2]) rfl ⟨by rw [HV.out]; rfl, (HB.out.setCell (by simp) _).setCell (by simp) _⟩
  | true =>
    have HV := hid hv
    clear hv
    go_wp2_with fail
    refine bodyPost_ret (v := .tuple #[.agg #[.int .i64 (nx n d), .int .i64 (ny n d)], .bool true]) (by simp [results, Try.results141, go_sem, (S _ _).1, (S _ _).2]) rfl ⟨by rw [HV.out]; rfl, (HB.out.setCell (by simp) _).setCell (by simp) _⟩

theorem spec_new_c (n d : Int) (w : World) (h : fits n d = true) (hd : d < 0) (hn : 0 ≤ n) (hn2 : n ≤ 0) :
    Calls Try.prog 141 #[.int .i64 n, .int .i64 d] w fun e w' => e = ratEnd (vr (nx n d) (ny n d)) (nx n d) (ny n d) ∧ Below w.heap.size w w' := by
  obtain ⟨g0, g1, g2, g3, g4⟩ := fits_true h
  have K1 := hid (inR_mk g1 g2)
  have K2 := hid (inR_mk g3 g4)
  have hg := gcd_le n d g0
  have hxb := nx_bd n d _ g1 g2
  have hyb := ny_bd n d _ g3 g4
  clear h
  have HX := hid (show wrap64 (-n.tdiv ((Int.gcd n d : Nat) : Int)) = nx n d by rw [show -n.tdiv ((Int.gcd n d : Nat) : Int) = nx n d by unfold nx gd; rw [if_pos hd, Int.tdiv_neg]]; exact IntWalk.wrap64_in (nx n d) (by omega))
  have HY := hid (show wrap64 (-d.tdiv ((Int.gcd n d : Nat) : Int)) = ny n d by rw [show -d.tdiv ((Int.gcd n d : Nat) : Int) = ny n d by unfold ny gd; rw [if_pos hd, Int.tdiv_neg]]; exact IntWalk.wrap64_in (ny n d) (by omega))
  go_enter Try.func141, Try.ntmps141
  go_wp2_with fail
  refine (in_yes _ _ _ _ K1.out).mono ?_
  rintro e w1 ⟨rfl, rfl⟩
  go_wp2_with fail
  refine (in_yes _ _ _ _ K2.out).mono ?_
  rintro e w1 ⟨rfl, rfl⟩
  go_wp2_with fail
  refine (spec_gcd (-n) (-d) _ (by omega) (by omega) (by omega) (by omega) (by omega) (by omega)).mono ?_
  rintro e w1 ⟨rfl, rfl⟩
  rw [Int.neg_gcd, Int.gcd_neg]
  go_wp2_with fail
  go_region
  go_wp2_with fail
  rw [HX.out, HY.out]
  refine (spec_valid (nx n d) (ny n d) _ (by omega) (by omega) (by omega) (by omega)).mono ?_
  rintro e w2 ⟨rfl, hb2⟩
  obtain ⟨hc2, hf2⟩ := bcell hb2
  have hz2 : w.heap.size + 1 < w2.heap.size := by have := hb2.size; simp at this; omega
  have c0 : w2.cell? ⟨w.heap.size, 0, none⟩ = some (.int .i64 0) := by
    rw [hc2 _ _ (by simp; omega)]; show ((w.alloc _).alloc _).cell? _ = _; rw [World.cell?_alloc_lt _ _ _ (by simp)]; simp
  have c1 : w2.cell? ⟨w.heap.size, 1, none⟩ = some (.int .i64 0) := by
    rw [hc2 _ _ (by simp; omega)]; show ((w.alloc _).alloc _).cell? _ = _; rw [World.cell?_alloc_lt _ _ _ (by simp)]; simp
  have S := fun x y => set2 (x := x) (y := y) c0 c1
  have HB := hid (((((Below.refl w.heap.size w).alloc (Nat.le_refl _) (.cells #[.int .i64 0, .int .i64 0] 30))).alloc (by simp) _).drew.trans (hb2.mono (by simp; omega)))
  cases hv : vr (nx n d) (ny n d) with
  | false =>
    have HV := hid hv
    clear hv
    go_wp2_with fail
    refine bodyPost_ret (v := .tuple #[.agg #[.int .i64 0, .int .i64 0], .bool false]) (by simp [results, Try.results141, go_sem, (S _ _).1, (S _ _).2]) rfl ⟨by rw [HV.out]; rfl, (HB.out.setCell (by simp) _).setCell (by simp) _⟩
  | true =>
    have HV := hid hv
    clear hv
    go_wp2_with fail
    refine bodyPost_ret (v := .tuple #[.agg #[.int .i64 (nx n d), .int .i64 (ny n d)], .bool true]) (by simp [results, Try.results141, go_sem, (S _ _).1, (S _ _).2]) rfl ⟨by rw [HV.out]; rfl, (HB.out.setCell (by simp) _).setCell (by simp) _⟩

theorem spec_new_d (n d : Int) (w : World) (h : fits n d = true) (hd : 0 < d) (hn : 0 ≤ n) :
    Calls Try.prog 141 #[.int .i64 n, .int .i64 d] w fun e w' => e = ratEnd (vr (nx n d) (ny n d)) (nx n d) (ny n d) ∧ Below w.heap.size w w' := by
  obtain ⟨g0, g1, g2, g3, g4⟩ := fits_true h
  have K1 := hid (inR_mk g1 g2)
  have K2 := hid (inR_mk g3 g4)
  have hg := gcd_le n d g0
  have hxb := nx_bd n d _ g1 g2
  have hyb := ny_bd n d _ g3 g4
  clear h
  have HX := hid (show n / ((Int.gcd n d : Nat) : Int) = nx n d by unfold nx gd; rw [if_neg (by omega)]; exact (Int.tdiv_eq_ediv_of_nonneg (by omega)).symm)
  have HY := hid (show d / ((Int.gcd n d : Nat) : Int) = ny n d by unfold ny gd; rw [if_neg (by omega)]; exact (Int.tdiv_eq_ediv_of_nonneg (by omega)).symm)
  go_enter Try.func141, Try.ntmps141
  go_wp2_with fail
  refine (in_yes _ _ _ _ K1.out).mono ?_
  rintro e w1 ⟨rfl, rfl⟩
  go_wp2_with fail
  refine (in_yes _ _ _ _ K2.out).mono ?_
  rintro e w1 ⟨rfl, rfl⟩
  go_wp2_with fail
  refine (spec_gcd n d _ (by omega) (by omega) (by omega) (by omega) (by omega) (by omega)).mono ?_
  rintro e w1 ⟨rfl, rfl⟩
  skip
  go_wp2_with fail
  go_region
  go_wp2_with fail
  rw [HX.out, HY.out]
  refine (spec_valid (nx n d) (ny n d) _ (by omega) (by omega) (by omega) (by omega)).mono ?_
  rintro e w2 ⟨rfl, hb2⟩
  obtain ⟨hc2, hf2⟩ := bcell hb2
  have hz2 : w.heap.size + 1 < w2.heap.size := by have := hb2.size; simp at this; omega
  have c0 : w2.cell? ⟨w.heap.size, 0, none⟩ = some (.int .i64 0) := by
    rw [hc2 _ _ (by simp; omega)]; show ((w.alloc _).alloc _).cell? _ = _; rw [World.cell?_alloc_lt _ _ _ (by simp)]; simp
  have c1 : w2.cell? ⟨w.heap.size, 1, none⟩ = some (.int .i64 0) := by
    rw [hc2 _ _ (by simp; omega)]; show ((w.alloc _).alloc _).cell? _ = _; rw [World.cell?_alloc_lt _ _ _ (by simp)]; simp
  have S := fun x y => set2 (x := x) (y := y) c0 c1
  have HB := hid (((((Below.refl w.heap.size w).alloc (Nat.le_refl _) (.cells #[.int .i64 0, .int .i64 0] 30))).alloc (by simp) _).drew.trans (hb2.mono (by simp; omega)))
  cases hv : vr (nx n d) (ny n d) with
  | false =>
    have HV := hid hv
    clear hv
    go_wp2_with fail
    refine bodyPost_ret (v := .tuple #[.agg #[.int .i64 0, .int .i64 0], .bool false]) (by simp [results, Try.results141, go_sem, (S _ _).1, (S _ _).2]) rfl ⟨by rw [HV.out]; rfl, (HB.out.setCell (by simp) _).setCell (by simp) _⟩
  | true =>
    have HV := hid hv
    clear hv
    go_wp2_with fail
    refine bodyPost_ret (v := .tuple #[.agg #[.int .i64 (nx n d), .int .i64 (ny n d)], .bool true]) (by simp [results, Try.results141, go_sem, (S _ _).1, (S _ _).2]) rfl ⟨by rw [HV.out]; rfl, (HB.out.setCell (by simp) _).setCell (by simp) _⟩

theorem spec_new_e (n d : Int) (w : World) (h : fits n d = true) (hd : 0 < d) (hn : n < 0) :
    Calls Try.prog 141 #[.int .i64 n, .int .i64 d] w fun e w' => e = ratEnd (vr (nx n d) (ny n d)) (nx n d) (ny n d) ∧ Below w.heap.size w w' := by
  obtain ⟨g0, g1, g2, g3, g4⟩ := fits_true h
  have K1 := hid (inR_mk g1 g2)
  have K2 := hid (inR_mk g3 g4)
  have hg := gcd_le n d g0
  have hxb := nx_bd n d _ g1 g2
  have hyb := ny_bd n d _ g3 g4
  clear h
  have HX := hid (show n.tdiv ((Int.gcd n d : Nat) : Int) = nx n d by unfold nx gd; rw [if_neg (by omega)])
  have HY := hid (show d / ((Int.gcd n d : Nat) : Int) = ny n d by unfold ny gd; rw [if_neg (by omega)]; exact (Int.tdiv_eq_ediv_of_nonneg (by omega)).symm)
  go_enter Try.func141, Try.ntmps141
  go_wp2_with fail
  refine (in_yes _ _ _ _ K1.out).mono ?_
  rintro e w1 ⟨rfl, rfl⟩
  go_wp2_with fail
  refine (in_yes _ _ _ _ K2.out).mono ?_
  rintro e w1 ⟨rfl, rfl⟩
  go_wp2_with fail
  refine (spec_gcd (-n) d _ (by omega) (by omega) (by omega) (by omega) (by omega) (by omega)).mono ?_
  rintro e w1 ⟨rfl, rfl⟩
  rw [Int.neg_gcd]
  go_wp2_with fail
  go_region
  go_wp2_with fail
  rw [HX.out, HY.out]
  refine (spec_valid (nx n d) (ny n d) _ (by omega) (by omega) (by omega) (by omega)).mono ?_
  rintro e w2 ⟨rfl, hb2⟩
  obtain ⟨hc2, hf2⟩ := bcell hb2
  have hz2 : w.heap.size + 1 < w2.heap.size := by have := hb2.size; simp at this; omega
  have c0 : w2.cell? ⟨w.heap.size, 0, none⟩ = some (.int .i64 0) := by
    rw [hc2 _ _ (by simp; omega)]; show ((w.alloc _).alloc _).cell? _ = _; rw [World.cell?_alloc_lt _ _ _ (by simp)]; simp
  have c1 : w2.cell? ⟨w.heap.size, 1, none⟩ = some (.int .i64 0) := by
    rw [hc2 _ _ (by simp; omega)]; show ((w.alloc _).alloc _).cell? _ = _; rw [World.cell?_alloc_lt _ _ _ (by simp)]; simp
  have S := fun x y => set2 (x := x) (y := y) c0 c1
  have HB := hid (((((Below.refl w.heap.size w).alloc (Nat.le_refl _) (.cells #[.int .i64 0, .int .i64 0] 30))).alloc (by simp) _).drew.trans (hb2.mono (by simp; omega)))
  cases hv : vr (nx n d) (ny n d) with
  | false =>
    have HV := hid hv
    clear hv
    go_wp2_with fail
    refine bodyPost_ret (v := .tuple #[.agg #[.int .i64 0, .int .i64 0], .bool false]) (by simp [results, Try.results141, go_sem, (S _ _).1, (S _ _).2]) rfl ⟨by rw [HV.out]; rfl, (HB.out.setCell (by simp) _).setCell (by simp) _⟩
  | true =>
    have HV := hid hv
    clear hv
    go_wp2_with fail
    refine bodyPost_ret (v := .tuple #[.agg #[.int .i64 (nx n d), .int .i64 (ny n d)], .bool true]) (by simp [results, Try.results141, go_sem, (S _ _).1, (S _ _).2]) rfl ⟨by rw [HV.out]; rfl, (HB.out.setCell (by simp) _).setCell (by simp) _⟩

theorem spec_new_yes (n d : Int) (w : World) (h : fits n d = true) :
    Calls Try.prog 141 #[.int .i64 n, .int .i64 d] w fun e w' => e = ratEnd (vr (nx n d) (ny n d)) (nx n d) (ny n d) ∧ Below w.heap.size w w' := by
  have h0 := (fits_true h).1
  rcases (by omega : (d < 0 ∧ 0 < n) ∨ (d < 0 ∧ n < 0) ∨ (d < 0 ∧ 0 ≤ n ∧ n ≤ 0) ∨ (0 < d ∧ 0 ≤ n) ∨ (0 < d ∧ n < 0)) with ⟨hd, hn⟩ | ⟨hd, hn⟩ | ⟨hd, hn, hn2⟩ | ⟨hd, hn⟩ | ⟨hd, hn⟩
  · exact spec_new_a n d w h hd hn
  · exact spec_new_b n d w h hd hn
  · exact spec_new_c n d w h hd hn hn2
  · exact spec_new_d n d w h hd hn
  · exact spec_new_e n d w h hd hn

end Go.Proofs.Ytaiimjbdhcjobaa.NewSpec
