/- Contracts of the program's arithmetic on rationals. -/
import Derived.Test.YtjnphlgmmjdeiaaOps
namespace Go.Proofs.Ytjnphlgmmjdeiaa.OpsImpl
open Go.ChangeShapes Go.WideShapes Go.ChangeAt Go.RowKit
open Go.Proofs.Ytjnphlgmmjdeiaa.Num Go.Proofs.Ytjnphlgmmjdeiaa.Rat Go.Proofs.Ytjnphlgmmjdeiaa.Gcd Go.Proofs.Ytjnphlgmmjdeiaa.Valid Go.Proofs.Ytjnphlgmmjdeiaa.New Go.Proofs.Ytjnphlgmmjdeiaa.NewSpec Go.Proofs.Ytjnphlgmmjdeiaa.RatLaw Go.Proofs.Ytjnphlgmmjdeiaa.Cells Go.Proofs.Ytjnphlgmmjdeiaa.Ops Go.Proofs.Ytjnphlgmmjdeiaa.AllV
set_option linter.unusedVariables false

theorem impl_mul_no (x y u v : Int) (w : World) (hx : -9223372036854775808 ≤ x ∧ x ≤ 9223372036854775807) (hy : -9223372036854775808 ≤ y ∧ y ≤ 9223372036854775807) (hu : -9223372036854775808 ≤ u ∧ u ≤ 9223372036854775807) (hv : -9223372036854775808 ≤ v ∧ v ≤ 9223372036854775807) (h : (vr x y && vr u v) = false) :
    Calls Try.prog 78 #[.agg #[.int .i64 x, .int .i64 y], .agg #[.int .i64 u, .int .i64 v]] w fun e w' => e = ratEnd false 0 0 ∧ Below w.heap.size w w' := by
  have V := hid fun W n hn => two_no x y u v W n hn hx hy hu hv h
  clear h
  have KR := hid ((has2_new ((w.alloc (.cells #[.int .i64 x, .int .i64 y] 35)).alloc (.cells #[.int .i64 u, .int .i64 v] 35)) (.int .i64 0) (.int .i64 0) 35).alloc (.cells #[.int .i64 x, .int .i64 y, .int .i64 u, .int .i64 v] 35))
  go_enter Try.func78, Try.ntmps78
  go_wp2_with fail
  with_reducible refine (V.out _ _ (by simp)).mono ?_
  rintro e w1 ⟨rfl, hb1⟩
  have R1 := KR.out.below hb1
  simp only [World.size_alloc] at R1
  have RS := R1.set (u := .int .i64 0) (v := .int .i64 0)
  have HB := hid ((((((Below.refl w.heap.size w).alloc (Nat.le_refl _) (.cells #[.int .i64 x, .int .i64 y] 35)).alloc (by simp) (.cells #[.int .i64 u, .int .i64 v] 35)).alloc (by simp; omega) (.cells #[.int .i64 0, .int .i64 0] 35)).alloc (by simp; omega) (.cells #[.int .i64 x, .int .i64 y, .int .i64 u, .int .i64 v] 35)).trans (hb1.mono (by simp; omega)))
  obtain ⟨k0, k1, kz, k2, k3⟩ := R1
  go_wp2_with fail
  refine bodyPost_ret (v := .tuple #[.agg #[.int .i64 0, .int .i64 0], .bool false]) (by simp [results, Try.results78, go_sem, RS.1, RS.2]) rfl ⟨rfl, (HB.out.setCell (by simp; omega) _).setCell (by simp; omega) _⟩

theorem impl_mul_yes (x y u v : Int) (w : World) (h1 : vr x y = true) (h2 : vr u v = true) :
    Calls Try.prog 78 #[.agg #[.int .i64 x, .int .i64 y], .agg #[.int .i64 u, .int .i64 v]] w fun e w' => e = ratEnd (nok (x * u) (y * v)) (nx (x * u) (y * v)) (ny (x * u) (y * v)) ∧ Below w.heap.size w w' := by
  obtain ⟨a0, a1, a2, a3, _⟩ := vr_true h1
  obtain ⟨b0, b1, b2, b3, _⟩ := vr_true h2
  have V := hid fun W n hn => two_yes x y u v W n hn h1 h2
  clear h1 h2
  have m0 := mul_bd (x := x) (v := u) (by omega) (by omega) (by omega) (by omega)
  have m1 := mul_bd (x := y) (v := v) (by omega) (by omega) (by omega) (by omega)
  have C := hid fun W => impl_new (x * u) (y * v) W (by omega) (by omega) (by omega) (by omega)
  simp only [ratEnd_is] at C
  rw [ratEnd_is]
  generalize rx (nok (x * u) (y * v)) (nx (x * u) (y * v)) = X at C ⊢
  generalize rx (nok (x * u) (y * v)) (ny (x * u) (y * v)) = Y at C ⊢
  generalize nok (x * u) (y * v) = b at C ⊢
  have KA := hid ((((has2_new w (.int .i64 x) (.int .i64 y) 35).alloc (.cells #[.int .i64 u, .int .i64 v] 35)).alloc (.cells #[.int .i64 0, .int .i64 0] 35)).alloc (.cells #[.int .i64 x, .int .i64 y, .int .i64 u, .int .i64 v] 35))
  have KB := hid (((has2_new (w.alloc (.cells #[.int .i64 x, .int .i64 y] 35)) (.int .i64 u) (.int .i64 v) 35).alloc (.cells #[.int .i64 0, .int .i64 0] 35)).alloc (.cells #[.int .i64 x, .int .i64 y, .int .i64 u, .int .i64 v] 35))
  have KR := hid ((has2_new ((w.alloc (.cells #[.int .i64 x, .int .i64 y] 35)).alloc (.cells #[.int .i64 u, .int .i64 v] 35)) (.int .i64 0) (.int .i64 0) 35).alloc (.cells #[.int .i64 x, .int .i64 y, .int .i64 u, .int .i64 v] 35))
  go_enter Try.func78, Try.ntmps78
  go_wp2_with fail
  with_reducible refine (V.out _ _ (by simp)).mono ?_
  rintro e w1 ⟨rfl, hb1⟩
  have A1 := KA.out.below hb1
  have B1 := KB.out.below hb1
  have R1 := KR.out.below hb1
  simp only [World.size_alloc] at A1 B1 R1
  have HB := hid ((((((Below.refl w.heap.size w).alloc (Nat.le_refl _) (.cells #[.int .i64 x, .int .i64 y] 35)).alloc (by simp) (.cells #[.int .i64 u, .int .i64 v] 35)).alloc (by simp; omega) (.cells #[.int .i64 0, .int .i64 0] 35)).alloc (by simp; omega) (.cells #[.int .i64 x, .int .i64 y, .int .i64 u, .int .i64 v] 35)).trans (hb1.mono (by simp; omega)))
  obtain ⟨k0, k1, kz, _, _⟩ := A1
  obtain ⟨l0, l1, lz, _, _⟩ := B1
  have HR := hid R1
  clear R1
  go_wp2_with fail
  clear k0 k1 l0 l1
  refine (C.out _).mono ?_
  rintro e w2 ⟨rfl, hb2⟩
  have R2 := HR.out.below hb2
  have RS := R2.set (u := .int .i64 X) (v := .int .i64 Y)
  obtain ⟨k0, k1, kz2, k2, k3⟩ := R2
  have HB2 := hid (HB.out.trans (hb2.mono (by omega)))
  go_wp2_with fail
  refine bodyPost_ret (v := .tuple #[.agg #[.int .i64 X, .int .i64 Y], .bool b]) (by simp [results, Try.results78, go_sem, RS.1, RS.2]) rfl ⟨rfl, (HB2.out.setCell (by simp; omega) _).setCell (by simp; omega) _⟩

theorem impl_add_no (x y u v : Int) (w : World) (hx : -9223372036854775808 ≤ x ∧ x ≤ 9223372036854775807) (hy : -9223372036854775808 ≤ y ∧ y ≤ 9223372036854775807) (hu : -9223372036854775808 ≤ u ∧ u ≤ 9223372036854775807) (hv : -9223372036854775808 ≤ v ∧ v ≤ 9223372036854775807) (h : (vr x y && vr u v) = false) :
    Calls Try.prog 79 #[.agg #[.int .i64 x, .int .i64 y], .agg #[.int .i64 u, .int .i64 v]] w fun e w' => e = ratEnd false 0 0 ∧ Below w.heap.size w w' := by
  have V := hid fun W n hn => two_no x y u v W n hn hx hy hu hv h
  clear h
  have KR := hid ((has2_new ((w.alloc (.cells #[.int .i64 x, .int .i64 y] 35)).alloc (.cells #[.int .i64 u, .int .i64 v] 35)) (.int .i64 0) (.int .i64 0) 35).alloc (.cells #[.int .i64 x, .int .i64 y, .int .i64 u, .int .i64 v] 35))
  go_enter Try.func79, Try.ntmps79
  go_wp2_with fail
  with_reducible refine (V.out _ _ (by simp)).mono ?_
  rintro e w1 ⟨rfl, hb1⟩
  have R1 := KR.out.below hb1
  simp only [World.size_alloc] at R1
  have RS := R1.set (u := .int .i64 0) (v := .int .i64 0)
  have HB := hid ((((((Below.refl w.heap.size w).alloc (Nat.le_refl _) (.cells #[.int .i64 x, .int .i64 y] 35)).alloc (by simp) (.cells #[.int .i64 u, .int .i64 v] 35)).alloc (by simp; omega) (.cells #[.int .i64 0, .int .i64 0] 35)).alloc (by simp; omega) (.cells #[.int .i64 x, .int .i64 y, .int .i64 u, .int .i64 v] 35)).trans (hb1.mono (by simp; omega)))
  obtain ⟨k0, k1, kz, k2, k3⟩ := R1
  go_wp2_with fail
  refine bodyPost_ret (v := .tuple #[.agg #[.int .i64 0, .int .i64 0], .bool false]) (by simp [results, Try.results79, go_sem, RS.1, RS.2]) rfl ⟨rfl, (HB.out.setCell (by simp; omega) _).setCell (by simp; omega) _⟩

theorem impl_add_yes (x y u v : Int) (w : World) (h1 : vr x y = true) (h2 : vr u v = true) :
    Calls Try.prog 79 #[.agg #[.int .i64 x, .int .i64 y], .agg #[.int .i64 u, .int .i64 v]] w fun e w' => e = ratEnd (nok (x * v + u * y) (y * v)) (nx (x * v + u * y) (y * v)) (ny (x * v + u * y) (y * v)) ∧ Below w.heap.size w w' := by
  obtain ⟨a0, a1, a2, a3, _⟩ := vr_true h1
  obtain ⟨b0, b1, b2, b3, _⟩ := vr_true h2
  have V := hid fun W n hn => two_yes x y u v W n hn h1 h2
  clear h1 h2
  have m0 := mul_bd (x := x) (v := v) (by omega) (by omega) (by omega) (by omega)
  have m1 := mul_bd (x := u) (v := y) (by omega) (by omega) (by omega) (by omega)
  have m2 := mul_bd (x := y) (v := v) (by omega) (by omega) (by omega) (by omega)
  have C := hid fun W => impl_new (x * v + u * y) (y * v) W (by omega) (by omega) (by omega) (by omega)
  simp only [ratEnd_is] at C
  rw [ratEnd_is]
  generalize rx (nok (x * v + u * y) (y * v)) (nx (x * v + u * y) (y * v)) = X at C ⊢
  generalize rx (nok (x * v + u * y) (y * v)) (ny (x * v + u * y) (y * v)) = Y at C ⊢
  generalize nok (x * v + u * y) (y * v) = b at C ⊢
  have KA := hid ((((has2_new w (.int .i64 x) (.int .i64 y) 35).alloc (.cells #[.int .i64 u, .int .i64 v] 35)).alloc (.cells #[.int .i64 0, .int .i64 0] 35)).alloc (.cells #[.int .i64 x, .int .i64 y, .int .i64 u, .int .i64 v] 35))
  have KB := hid (((has2_new (w.alloc (.cells #[.int .i64 x, .int .i64 y] 35)) (.int .i64 u) (.int .i64 v) 35).alloc (.cells #[.int .i64 0, .int .i64 0] 35)).alloc (.cells #[.int .i64 x, .int .i64 y, .int .i64 u, .int .i64 v] 35))
  have KR := hid ((has2_new ((w.alloc (.cells #[.int .i64 x, .int .i64 y] 35)).alloc (.cells #[.int .i64 u, .int .i64 v] 35)) (.int .i64 0) (.int .i64 0) 35).alloc (.cells #[.int .i64 x, .int .i64 y, .int .i64 u, .int .i64 v] 35))
  go_enter Try.func79, Try.ntmps79
  go_wp2_with fail
  with_reducible refine (V.out _ _ (by simp)).mono ?_
  rintro e w1 ⟨rfl, hb1⟩
  have A1 := KA.out.below hb1
  have B1 := KB.out.below hb1
  have R1 := KR.out.below hb1
  simp only [World.size_alloc] at A1 B1 R1
  have HB := hid ((((((Below.refl w.heap.size w).alloc (Nat.le_refl _) (.cells #[.int .i64 x, .int .i64 y] 35)).alloc (by simp) (.cells #[.int .i64 u, .int .i64 v] 35)).alloc (by simp; omega) (.cells #[.int .i64 0, .int .i64 0] 35)).alloc (by simp; omega) (.cells #[.int .i64 x, .int .i64 y, .int .i64 u, .int .i64 v] 35)).trans (hb1.mono (by simp; omega)))
  obtain ⟨k0, k1, kz, _, _⟩ := A1
  obtain ⟨l0, l1, lz, _, _⟩ := B1
  have HR := hid R1
  clear R1
  go_wp2_with fail
  clear k0 k1 l0 l1
  refine (C.out _).mono ?_
  rintro e w2 ⟨rfl, hb2⟩
  have R2 := HR.out.below hb2
  have RS := R2.set (u := .int .i64 X) (v := .int .i64 Y)
  obtain ⟨k0, k1, kz2, k2, k3⟩ := R2
  have HB2 := hid (HB.out.trans (hb2.mono (by omega)))
  go_wp2_with fail
  refine bodyPost_ret (v := .tuple #[.agg #[.int .i64 X, .int .i64 Y], .bool b]) (by simp [results, Try.results79, go_sem, RS.1, RS.2]) rfl ⟨rfl, (HB2.out.setCell (by simp; omega) _).setCell (by simp; omega) _⟩

theorem impl_sub_no (x y u v : Int) (w : World) (hx : -9223372036854775808 ≤ x ∧ x ≤ 9223372036854775807) (hy : -9223372036854775808 ≤ y ∧ y ≤ 9223372036854775807) (hu : -9223372036854775808 ≤ u ∧ u ≤ 9223372036854775807) (hv : -9223372036854775808 ≤ v ∧ v ≤ 9223372036854775807) (h : (vr x y && vr u v) = false) :
    Calls Try.prog 120 #[.agg #[.int .i64 x, .int .i64 y], .agg #[.int .i64 u, .int .i64 v]] w fun e w' => e = ratEnd false 0 0 ∧ Below w.heap.size w w' := by
  have V := hid fun W n hn => two_no x y u v W n hn hx hy hu hv h
  clear h
  have KR := hid ((has2_new ((w.alloc (.cells #[.int .i64 x, .int .i64 y] 35)).alloc (.cells #[.int .i64 u, .int .i64 v] 35)) (.int .i64 0) (.int .i64 0) 35).alloc (.cells #[.int .i64 x, .int .i64 y, .int .i64 u, .int .i64 v] 35))
  go_enter Try.func120, Try.ntmps120
  go_wp2_with fail
  with_reducible refine (V.out _ _ (by simp)).mono ?_
  rintro e w1 ⟨rfl, hb1⟩
  have R1 := KR.out.below hb1
  simp only [World.size_alloc] at R1
  have RS := R1.set (u := .int .i64 0) (v := .int .i64 0)
  have HB := hid ((((((Below.refl w.heap.size w).alloc (Nat.le_refl _) (.cells #[.int .i64 x, .int .i64 y] 35)).alloc (by simp) (.cells #[.int .i64 u, .int .i64 v] 35)).alloc (by simp; omega) (.cells #[.int .i64 0, .int .i64 0] 35)).alloc (by simp; omega) (.cells #[.int .i64 x, .int .i64 y, .int .i64 u, .int .i64 v] 35)).trans (hb1.mono (by simp; omega)))
  obtain ⟨k0, k1, kz, k2, k3⟩ := R1
  go_wp2_with fail
  refine bodyPost_ret (v := .tuple #[.agg #[.int .i64 0, .int .i64 0], .bool false]) (by simp [results, Try.results120, go_sem, RS.1, RS.2]) rfl ⟨rfl, (HB.out.setCell (by simp; omega) _).setCell (by simp; omega) _⟩

theorem impl_sub_yes (x y u v : Int) (w : World) (h1 : vr x y = true) (h2 : vr u v = true) :
    Calls Try.prog 120 #[.agg #[.int .i64 x, .int .i64 y], .agg #[.int .i64 u, .int .i64 v]] w fun e w' => e = ratEnd (nok (x * v - u * y) (y * v)) (nx (x * v - u * y) (y * v)) (ny (x * v - u * y) (y * v)) ∧ Below w.heap.size w w' := by
  obtain ⟨a0, a1, a2, a3, _⟩ := vr_true h1
  obtain ⟨b0, b1, b2, b3, _⟩ := vr_true h2
  have V := hid fun W n hn => two_yes x y u v W n hn h1 h2
  clear h1 h2
  have m0 := mul_bd (x := x) (v := v) (by omega) (by omega) (by omega) (by omega)
  have m1 := mul_bd (x := u) (v := y) (by omega) (by omega) (by omega) (by omega)
  have m2 := mul_bd (x := y) (v := v) (by omega) (by omega) (by omega) (by omega)
  have C := hid fun W => impl_new (x * v - u * y) (y * v) W (by omega) (by omega) (by omega) (by omega)
  simp only [ratEnd_is] at C
  rw [ratEnd_is]
  generalize rx (nok (x * v - u * y) (y * v)) (nx (x * v - u * y) (y * v)) = X at C ⊢
  generalize rx (nok (x * v - u * y) (y * v)) (ny (x * v - u * y) (y * v)) = Y at C ⊢
  generalize nok (x * v - u * y) (y * v) = b at C ⊢
  have KA := hid ((((has2_new w (.int .i64 x) (.int .i64 y) 35).alloc (.cells #[.int .i64 u, .int .i64 v] 35)).alloc (.cells #[.int .i64 0, .int .i64 0] 35)).alloc (.cells #[.int .i64 x, .int .i64 y, .int .i64 u, .int .i64 v] 35))
  have KB := hid (((has2_new (w.alloc (.cells #[.int .i64 x, .int .i64 y] 35)) (.int .i64 u) (.int .i64 v) 35).alloc (.cells #[.int .i64 0, .int .i64 0] 35)).alloc (.cells #[.int .i64 x, .int .i64 y, .int .i64 u, .int .i64 v] 35))
  have KR := hid ((has2_new ((w.alloc (.cells #[.int .i64 x, .int .i64 y] 35)).alloc (.cells #[.int .i64 u, .int .i64 v] 35)) (.int .i64 0) (.int .i64 0) 35).alloc (.cells #[.int .i64 x, .int .i64 y, .int .i64 u, .int .i64 v] 35))
  go_enter Try.func120, Try.ntmps120
  go_wp2_with fail
  with_reducible refine (V.out _ _ (by simp)).mono ?_
  rintro e w1 ⟨rfl, hb1⟩
  have A1 := KA.out.below hb1
  have B1 := KB.out.below hb1
  have R1 := KR.out.below hb1
  simp only [World.size_alloc] at A1 B1 R1
  have HB := hid ((((((Below.refl w.heap.size w).alloc (Nat.le_refl _) (.cells #[.int .i64 x, .int .i64 y] 35)).alloc (by simp) (.cells #[.int .i64 u, .int .i64 v] 35)).alloc (by simp; omega) (.cells #[.int .i64 0, .int .i64 0] 35)).alloc (by simp; omega) (.cells #[.int .i64 x, .int .i64 y, .int .i64 u, .int .i64 v] 35)).trans (hb1.mono (by simp; omega)))
  obtain ⟨k0, k1, kz, _, _⟩ := A1
  obtain ⟨l0, l1, lz, _, _⟩ := B1
  have HR := hid R1
  clear R1
  go_wp2_with fail
  clear k0 k1 l0 l1
  refine (C.out _).mono ?_
  rintro e w2 ⟨rfl, hb2⟩
  have R2 := HR.out.below hb2
  have RS := R2.set (u := .int .i64 X) (v := .int .i64 Y)
  obtain ⟨k0, k1, kz2, k2, k3⟩ := R2
  have HB2 := hid (HB.out.trans (hb2.mono (by omega)))
  go_wp2_with fail
  refine bodyPost_ret (v := .tuple #[.agg #[.int .i64 X, .int .i64 Y], .bool b]) (by simp [results, Try.results120, go_sem, RS.1, RS.2]) rfl ⟨rfl, (HB2.out.setCell (by simp; omega) _).setCell (by simp; omega) _⟩

theorem impl_div_no (x y u v : Int) (w : World) (hx : -9223372036854775808 ≤ x ∧ x ≤ 9223372036854775807) (hy : -9223372036854775808 ≤ y ∧ y ≤ 9223372036854775807) (hu : -9223372036854775808 ≤ u ∧ u ≤ 9223372036854775807) (hv : -9223372036854775808 ≤ v ∧ v ≤ 9223372036854775807) (h : (vr x y && vr u v) = false) :
    Calls Try.prog 95 #[.agg #[.int .i64 x, .int .i64 y], .agg #[.int .i64 u, .int .i64 v]] w fun e w' => e = ratEnd false 0 0 ∧ Below w.heap.size w w' := by
  have V := hid fun W n hn => two_no x y u v W n hn hx hy hu hv h
  clear h
  have KR := hid ((has2_new ((w.alloc (.cells #[.int .i64 x, .int .i64 y] 35)).alloc (.cells #[.int .i64 u, .int .i64 v] 35)) (.int .i64 0) (.int .i64 0) 35).alloc (.cells #[.int .i64 x, .int .i64 y, .int .i64 u, .int .i64 v] 35))
  go_enter Try.func95, Try.ntmps95
  go_wp2_with fail
  with_reducible refine (V.out _ _ (by simp)).mono ?_
  rintro e w1 ⟨rfl, hb1⟩
  have R1 := KR.out.below hb1
  simp only [World.size_alloc] at R1
  have RS := R1.set (u := .int .i64 0) (v := .int .i64 0)
  have HB := hid ((((((Below.refl w.heap.size w).alloc (Nat.le_refl _) (.cells #[.int .i64 x, .int .i64 y] 35)).alloc (by simp) (.cells #[.int .i64 u, .int .i64 v] 35)).alloc (by simp; omega) (.cells #[.int .i64 0, .int .i64 0] 35)).alloc (by simp; omega) (.cells #[.int .i64 x, .int .i64 y, .int .i64 u, .int .i64 v] 35)).trans (hb1.mono (by simp; omega)))
  obtain ⟨k0, k1, kz, k2, k3⟩ := R1
  go_wp2_with fail
  refine bodyPost_ret (v := .tuple #[.agg #[.int .i64 0, .int .i64 0], .bool false]) (by simp [results, Try.results95, go_sem, RS.1, RS.2]) rfl ⟨rfl, (HB.out.setCell (by simp; omega) _).setCell (by simp; omega) _⟩

theorem impl_div_yes (x y u v : Int) (w : World) (h1 : vr x y = true) (h2 : vr u v = true) :
    Calls Try.prog 95 #[.agg #[.int .i64 x, .int .i64 y], .agg #[.int .i64 u, .int .i64 v]] w fun e w' => e = ratEnd (nok (x * v) (y * u)) (nx (x * v) (y * u)) (ny (x * v) (y * u)) ∧ Below w.heap.size w w' := by
  obtain ⟨a0, a1, a2, a3, _⟩ := vr_true h1
  obtain ⟨b0, b1, b2, b3, _⟩ := vr_true h2
  have V := hid fun W n hn => two_yes x y u v W n hn h1 h2
  clear h1 h2
  have m0 := mul_bd (x := x) (v := v) (by omega) (by omega) (by omega) (by omega)
  have m1 := mul_bd (x := y) (v := u) (by omega) (by omega) (by omega) (by omega)
  have C := hid fun W => impl_new (x * v) (y * u) W (by omega) (by omega) (by omega) (by omega)
  simp only [ratEnd_is] at C
  rw [ratEnd_is]
  generalize rx (nok (x * v) (y * u)) (nx (x * v) (y * u)) = X at C ⊢
  generalize rx (nok (x * v) (y * u)) (ny (x * v) (y * u)) = Y at C ⊢
  generalize nok (x * v) (y * u) = b at C ⊢
  have KA := hid ((((has2_new w (.int .i64 x) (.int .i64 y) 35).alloc (.cells #[.int .i64 u, .int .i64 v] 35)).alloc (.cells #[.int .i64 0, .int .i64 0] 35)).alloc (.cells #[.int .i64 x, .int .i64 y, .int .i64 u, .int .i64 v] 35))
  have KB := hid (((has2_new (w.alloc (.cells #[.int .i64 x, .int .i64 y] 35)) (.int .i64 u) (.int .i64 v) 35).alloc (.cells #[.int .i64 0, .int .i64 0] 35)).alloc (.cells #[.int .i64 x, .int .i64 y, .int .i64 u, .int .i64 v] 35))
  have KR := hid ((has2_new ((w.alloc (.cells #[.int .i64 x, .int .i64 y] 35)).alloc (.cells #[.int .i64 u, .int .i64 v] 35)) (.int .i64 0) (.int .i64 0) 35).alloc (.cells #[.int .i64 x, .int .i64 y, .int .i64 u, .int .i64 v] 35))
  go_enter Try.func95, Try.ntmps95
  go_wp2_with fail
  with_reducible refine (V.out _ _ (by simp)).mono ?_
  rintro e w1 ⟨rfl, hb1⟩
  have A1 := KA.out.below hb1
  have B1 := KB.out.below hb1
  have R1 := KR.out.below hb1
  simp only [World.size_alloc] at A1 B1 R1
  have HB := hid ((((((Below.refl w.heap.size w).alloc (Nat.le_refl _) (.cells #[.int .i64 x, .int .i64 y] 35)).alloc (by simp) (.cells #[.int .i64 u, .int .i64 v] 35)).alloc (by simp; omega) (.cells #[.int .i64 0, .int .i64 0] 35)).alloc (by simp; omega) (.cells #[.int .i64 x, .int .i64 y, .int .i64 u, .int .i64 v] 35)).trans (hb1.mono (by simp; omega)))
  obtain ⟨k0, k1, kz, _, _⟩ := A1
  obtain ⟨l0, l1, lz, _, _⟩ := B1
  have HR := hid R1
  clear R1
  go_wp2_with fail
  clear k0 k1 l0 l1
  refine (C.out _).mono ?_
  rintro e w2 ⟨rfl, hb2⟩
  have R2 := HR.out.below hb2
  have RS := R2.set (u := .int .i64 X) (v := .int .i64 Y)
  obtain ⟨k0, k1, kz2, k2, k3⟩ := R2
  have HB2 := hid (HB.out.trans (hb2.mono (by omega)))
  go_wp2_with fail
  refine bodyPost_ret (v := .tuple #[.agg #[.int .i64 X, .int .i64 Y], .bool b]) (by simp [results, Try.results95, go_sem, RS.1, RS.2]) rfl ⟨rfl, (HB2.out.setCell (by simp; omega) _).setCell (by simp; omega) _⟩

end Go.Proofs.Ytjnphlgmmjdeiaa.OpsImpl
