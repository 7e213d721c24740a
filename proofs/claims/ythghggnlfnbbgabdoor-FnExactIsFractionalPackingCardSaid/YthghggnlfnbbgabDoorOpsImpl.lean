/- Contracts of the program's arithmetic on rationals. -/
import Derived.Test.YthghggnlfnbbgabDoorOps
namespace Go.Proofs.YthghggnlfnbbgabDoor.OpsImpl
open Go.ChangeShapes Go.WideShapes Go.ChangeAt Go.RowKit
open Go.Proofs.YthghggnlfnbbgabDoor.Num Go.Proofs.YthghggnlfnbbgabDoor.Rat Go.Proofs.YthghggnlfnbbgabDoor.Gcd Go.Proofs.YthghggnlfnbbgabDoor.Valid Go.Proofs.YthghggnlfnbbgabDoor.New Go.Proofs.YthghggnlfnbbgabDoor.NewSpec Go.Proofs.YthghggnlfnbbgabDoor.RatLaw Go.Proofs.YthghggnlfnbbgabDoor.Cells Go.Proofs.YthghggnlfnbbgabDoor.Ops Go.Proofs.YthghggnlfnbbgabDoor.AllV
set_option linter.unusedVariables false

theorem impl_add_no (x y u v : Int) (w : World) (hx : -9223372036854775808 ≤ x ∧ x ≤ 9223372036854775807) (hy : -9223372036854775808 ≤ y ∧ y ≤ 9223372036854775807) (hu : -9223372036854775808 ≤ u ∧ u ≤ 9223372036854775807) (hv : -9223372036854775808 ≤ v ∧ v ≤ 9223372036854775807) (h : (vr x y && vr u v) = false) :
    Calls Tryd.prog 43 #[.agg #[.int .i64 x, .int .i64 y], .agg #[.int .i64 u, .int .i64 v]] w fun e w' => e = ratEnd false 0 0 ∧ Below w.heap.size w w' := by
  have V := hid fun W n hn => two_no x y u v W n hn hx hy hu hv h
  clear h
  have KR := hid ((has2_new ((w.alloc (.cells #[.int .i64 x, .int .i64 y] 47)).alloc (.cells #[.int .i64 u, .int .i64 v] 47)) (.int .i64 0) (.int .i64 0) 47).alloc (.cells #[.int .i64 x, .int .i64 y, .int .i64 u, .int .i64 v] 47))
  go_enter Tryd.func43, Tryd.ntmps43
  go_wp2_with fail
  with_reducible refine (V.out _ _ (by simp)).mono ?_
  rintro e w1 ⟨rfl, hb1⟩
  have R1 := KR.out.below hb1
  simp only [World.size_alloc] at R1
  have RS := R1.set (u := .int .i64 0) (v := .int .i64 0)
  have HB := hid ((((((Below.refl w.heap.size w).alloc (Nat.le_refl _) (.cells #[.int .i64 x, .int .i64 y] 47)).alloc (by simp) (.cells #[.int .i64 u, .int .i64 v] 47)).alloc (by simp; omega) (.cells #[.int .i64 0, .int .i64 0] 47)).alloc (by simp; omega) (.cells #[.int .i64 x, .int .i64 y, .int .i64 u, .int .i64 v] 47)).trans (hb1.mono (by simp; omega)))
  obtain ⟨k0, k1, kz, k2, k3⟩ := R1
  go_wp2_with fail
  refine bodyPost_ret (v := .tuple #[.agg #[.int .i64 0, .int .i64 0], .bool false]) (by simp [results, Tryd.results43, go_sem, RS.1, RS.2]) rfl ⟨rfl, (HB.out.setCell (by simp; omega) _).setCell (by simp; omega) _⟩

theorem impl_add_yes (x y u v : Int) (w : World) (h1 : vr x y = true) (h2 : vr u v = true) :
    Calls Tryd.prog 43 #[.agg #[.int .i64 x, .int .i64 y], .agg #[.int .i64 u, .int .i64 v]] w fun e w' => e = ratEnd (nok (x * v + u * y) (y * v)) (nx (x * v + u * y) (y * v)) (ny (x * v + u * y) (y * v)) ∧ Below w.heap.size w w' := by
  obtain ⟨a0, a1, a2, a3, _⟩ := vr_true h1
  obtain ⟨b0, b1, b2, b3, _⟩ := vr_true h2
  have V := hid fun W n hn => two_yes x y u v W n hn h1 h2
  clear h1 h2
  have m0 := mul_bd (x := x) (v := v) (by omega) (by omega) (by omega) (by omega)
  have m1 := mul_bd (x := u) (v := y) (by omega) (by omega) (by omega) (by omega)
  have m2 := mul_bd (x := y) (v := v) (by omega) (by omega) (by omega) (by omega)
  have C := hid fun W => impl_new (x * v + u * y) (y * v) W (by omega) (by omega) (by omega) (by omega)
  simp only [ratEnd_is] at C
  rw [ratEnd_is]
  generalize rx (nok (x * v + u * y) (y * v)) (nx (x * v + u * y) (y * v)) = X at C ⊢
  generalize rx (nok (x * v + u * y) (y * v)) (ny (x * v + u * y) (y * v)) = Y at C ⊢
  generalize nok (x * v + u * y) (y * v) = b at C ⊢
  have KA := hid ((((has2_new w (.int .i64 x) (.int .i64 y) 47).alloc (.cells #[.int .i64 u, .int .i64 v] 47)).alloc (.cells #[.int .i64 0, .int .i64 0] 47)).alloc (.cells #[.int .i64 x, .int .i64 y, .int .i64 u, .int .i64 v] 47))
  have KB := hid (((has2_new (w.alloc (.cells #[.int .i64 x, .int .i64 y] 47)) (.int .i64 u) (.int .i64 v) 47).alloc (.cells #[.int .i64 0, .int .i64 0] 47)).alloc (.cells #[.int .i64 x, .int .i64 y, .int .i64 u, .int .i64 v] 47))
  have KR := hid ((has2_new ((w.alloc (.cells #[.int .i64 x, .int .i64 y] 47)).alloc (.cells #[.int .i64 u, .int .i64 v] 47)) (.int .i64 0) (.int .i64 0) 47).alloc (.cells #[.int .i64 x, .int .i64 y, .int .i64 u, .int .i64 v] 47))
  go_enter Tryd.func43, Tryd.ntmps43
  go_wp2_with fail
  with_reducible refine (V.out _ _ (by simp)).mono ?_
  rintro e w1 ⟨rfl, hb1⟩
  have A1 := KA.out.below hb1
  have B1 := KB.out.below hb1
  have R1 := KR.out.below hb1
  simp only [World.size_alloc] at A1 B1 R1
  have HB := hid ((((((Below.refl w.heap.size w).alloc (Nat.le_refl _) (.cells #[.int .i64 x, .int .i64 y] 47)).alloc (by simp) (.cells #[.int .i64 u, .int .i64 v] 47)).alloc (by simp; omega) (.cells #[.int .i64 0, .int .i64 0] 47)).alloc (by simp; omega) (.cells #[.int .i64 x, .int .i64 y, .int .i64 u, .int .i64 v] 47)).trans (hb1.mono (by simp; omega)))
  obtain ⟨k0, k1, kz, _, _⟩ := A1
  obtain ⟨l0, l1, lz, _, _⟩ := B1
  have HR := hid R1
  clear R1
  go_wp2_with fail
  clear k0 k1 l0 l1
  refine (C.out _).mono ?_
  rintro e w2 ⟨rfl, hb2⟩
  have R2 := HR.out.below hb2
  have RS := R2.set (u := .int .i64 X) (v := .int .i64 Y)
  obtain ⟨k0, k1, kz2, k2, k3⟩ := R2
  have HB2 := hid (HB.out.trans (hb2.mono (by omega)))
  go_wp2_with fail
  refine bodyPost_ret (v := .tuple #[.agg #[.int .i64 X, .int .i64 Y], .bool b]) (by simp [results, Tryd.results43, go_sem, RS.1, RS.2]) rfl ⟨rfl, (HB2.out.setCell (by simp; omega) _).setCell (by simp; omega) _⟩

end Go.Proofs.YthghggnlfnbbgabDoor.OpsImpl
