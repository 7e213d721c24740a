/- Contracts of the model's arithmetic on rationals. -/
import Derived.Test.YtaiimjbdhcjobaaOps
namespace Go.Proofs.Ytaiimjbdhcjobaa.OpsSpec
open Go.ChangeShapes Go.WideShapes Go.ChangeAt Go.RowKit
open Go.Proofs.Ytaiimjbdhcjobaa.Num Go.Proofs.Ytaiimjbdhcjobaa.Rat Go.Proofs.Ytaiimjbdhcjobaa.Gcd Go.Proofs.Ytaiimjbdhcjobaa.Valid Go.Proofs.Ytaiimjbdhcjobaa.New Go.Proofs.Ytaiimjbdhcjobaa.NewSpec Go.Proofs.Ytaiimjbdhcjobaa.RatLaw Go.Proofs.Ytaiimjbdhcjobaa.Cells Go.Proofs.Ytaiimjbdhcjobaa.Ops
set_option linter.unusedVariables false

theorem svalid_yes (x y : Int) (w : World) (h : vr x y = true) : Calls Try.prog 126 #[.agg #[.int .i64 x, .int .i64 y]] w fun e w' => e = .returned (.bool true) ∧ Below w.heap.size w w' := by
  obtain ⟨g0, g1, g2, g3, _⟩ := vr_true h
  have := spec_valid x y w (by omega) (by omega) (by omega) (by omega)
  rw [h] at this; exact this
theorem svalid_no (x y : Int) (w : World) (hx : -9223372036854775808 ≤ x ∧ x ≤ 9223372036854775807) (hy : -9223372036854775808 ≤ y ∧ y ≤ 9223372036854775807) (h : vr x y = false) : Calls Try.prog 126 #[.agg #[.int .i64 x, .int .i64 y]] w fun e w' => e = .returned (.bool false) ∧ Below w.heap.size w w' := by
  have := spec_valid x y w hx.1 hx.2 hy.1 hy.2
  rw [h] at this; exact this

theorem spec_mul_no (x y u v : Int) (w : World) (hx : -9223372036854775808 ≤ x ∧ x ≤ 9223372036854775807) (hy : -9223372036854775808 ≤ y ∧ y ≤ 9223372036854775807) (hu : -9223372036854775808 ≤ u ∧ u ≤ 9223372036854775807) (hv : -9223372036854775808 ≤ v ∧ v ≤ 9223372036854775807) (h : (vr x y && vr u v) = false) :
    Calls Try.prog 163 #[.agg #[.int .i64 x, .int .i64 y], .agg #[.int .i64 u, .int .i64 v]] w fun e w' => e = ratEnd false 0 0 ∧ Below w.heap.size w w' := by
  have KA := hid (((has2_new w (.int .i64 x) (.int .i64 y) 30).alloc (.cells #[.int .i64 u, .int .i64 v] 30)).alloc (.cells #[.int .i64 0, .int .i64 0] 30))
  have KB := hid ((has2_new (w.alloc (.cells #[.int .i64 x, .int .i64 y] 30)) (.int .i64 u) (.int .i64 v) 30).alloc (.cells #[.int .i64 0, .int .i64 0] 30))
  have KR := hid (has2_new ((w.alloc (.cells #[.int .i64 x, .int .i64 y] 30)).alloc (.cells #[.int .i64 u, .int .i64 v] 30)) (.int .i64 0) (.int .i64 0) 30)
  cases h1 : vr x y with
  | false =>
    have V1 := hid fun W => svalid_no x y W hx hy h1
    clear h1 h
    go_enter Try.func163, Try.ntmps163
    go_wp2_with fail
    refine (V1.out _).mono ?_
    rintro e w1 ⟨rfl, hb1⟩
    have R1 := KR.out.below hb1
    simp only [World.size_alloc] at R1
    have RS := R1.set (u := .int .i64 0) (v := .int .i64 0)
    have HB := hid (((((Below.refl w.heap.size w).alloc (Nat.le_refl _) (.cells #[.int .i64 x, .int .i64 y] 30)).alloc (by simp) (.cells #[.int .i64 u, .int .i64 v] 30)).alloc (by simp; omega) (.cells #[.int .i64 0, .int .i64 0] 30)).trans (hb1.mono (by simp; omega)))
    obtain ⟨k0, k1, kz, k2, k3⟩ := R1
    go_wp2_with fail
    refine bodyPost_ret (v := .tuple #[.agg #[.int .i64 0, .int .i64 0], .bool false]) (by simp [results, Try.results163, go_sem, RS.1, RS.2]) rfl ⟨rfl, (HB.out.setCell (by simp; omega) _).setCell (by simp; omega) _⟩
  | true =>
    have h2 : vr u v = false := by rw [h1] at h; exact h
    have V1 := hid fun W => svalid_yes x y W h1
    have V2 := hid fun W => svalid_no u v W hu hv h2
    clear h1 h2 h
    go_enter Try.func163, Try.ntmps163
    go_wp2_with fail
    refine (V1.out _).mono ?_
    rintro e w1 ⟨rfl, hb1⟩
    have B1 := KB.out.below hb1
    have R1 := KR.out.below hb1
    simp only [World.size_alloc] at B1 R1
    obtain ⟨l0, l1, lz, _, _⟩ := B1
    have HB := hid (((((Below.refl w.heap.size w).alloc (Nat.le_refl _) (.cells #[.int .i64 x, .int .i64 y] 30)).alloc (by simp) (.cells #[.int .i64 u, .int .i64 v] 30)).alloc (by simp; omega) (.cells #[.int .i64 0, .int .i64 0] 30)).trans (hb1.mono (by simp; omega)))
    have HR := hid R1
    clear R1
    go_wp2_with fail
    clear l0 l1
    refine (V2.out _).mono ?_
    rintro e w2 ⟨rfl, hb2⟩
    have R2 := HR.out.below hb2
    have RS := R2.set (u := .int .i64 0) (v := .int .i64 0)
    have HB2 := hid (HB.out.trans (hb2.mono (by omega)))
    obtain ⟨k0, k1, kz, k2, k3⟩ := R2
    go_wp2_with fail
    refine bodyPost_ret (v := .tuple #[.agg #[.int .i64 0, .int .i64 0], .bool false]) (by simp [results, Try.results163, go_sem, RS.1, RS.2]) rfl ⟨rfl, (HB2.out.setCell (by simp; omega) _).setCell (by simp; omega) _⟩

theorem spec_mul_yes (x y u v : Int) (w : World) (h1 : vr x y = true) (h2 : vr u v = true) :
    Calls Try.prog 163 #[.agg #[.int .i64 x, .int .i64 y], .agg #[.int .i64 u, .int .i64 v]] w fun e w' => e = ratEnd (nok (x * u) (y * v)) (nx (x * u) (y * v)) (ny (x * u) (y * v)) ∧ Below w.heap.size w w' := by
  obtain ⟨a0, a1, a2, a3, _⟩ := vr_true h1
  obtain ⟨b0, b1, b2, b3, _⟩ := vr_true h2
  have V1 := hid fun W => svalid_yes x y W h1
  have V2 := hid fun W => svalid_yes u v W h2
  clear h1 h2
  have m0 := mul_bd (x := x) (v := u) (by omega) (by omega) (by omega) (by omega)
  have m1 := mul_bd (x := y) (v := v) (by omega) (by omega) (by omega) (by omega)
  have C := hid fun W => spec_new (x * u) (y * v) W (by omega) (by omega) (by omega) (by omega)
  simp only [ratEnd_is] at C
  rw [ratEnd_is]
  generalize rx (nok (x * u) (y * v)) (nx (x * u) (y * v)) = X at C ⊢
  generalize rx (nok (x * u) (y * v)) (ny (x * u) (y * v)) = Y at C ⊢
  generalize nok (x * u) (y * v) = b at C ⊢
  have KA := hid (((has2_new w (.int .i64 x) (.int .i64 y) 30).alloc (.cells #[.int .i64 u, .int .i64 v] 30)).alloc (.cells #[.int .i64 0, .int .i64 0] 30))
  have KB := hid ((has2_new (w.alloc (.cells #[.int .i64 x, .int .i64 y] 30)) (.int .i64 u) (.int .i64 v) 30).alloc (.cells #[.int .i64 0, .int .i64 0] 30))
  have KR := hid (has2_new ((w.alloc (.cells #[.int .i64 x, .int .i64 y] 30)).alloc (.cells #[.int .i64 u, .int .i64 v] 30)) (.int .i64 0) (.int .i64 0) 30)
  go_enter Try.func163, Try.ntmps163
  go_wp2_with fail
  refine (V1.out _).mono ?_
  rintro e w1 ⟨rfl, hb1⟩
  have A1 := KA.out.below hb1
  have B1 := KB.out.below hb1
  have R1 := KR.out.below hb1
  simp only [World.size_alloc] at A1 B1 R1
  have HB := hid (((((Below.refl w.heap.size w).alloc (Nat.le_refl _) (.cells #[.int .i64 x, .int .i64 y] 30)).alloc (by simp) (.cells #[.int .i64 u, .int .i64 v] 30)).alloc (by simp; omega) (.cells #[.int .i64 0, .int .i64 0] 30)).trans (hb1.mono (by simp; omega)))
  have HA := hid A1
  have HBB := hid B1
  have HR := hid R1
  obtain ⟨l0, l1, lz, _, _⟩ := B1
  clear A1 R1
  go_wp2_with fail
  clear l0 l1
  refine (V2.out _).mono ?_
  rintro e w2 ⟨rfl, hb2⟩
  have A2 := HA.out.below hb2
  have B2 := HBB.out.below hb2
  have HR2 := hid (HR.out.below hb2)
  have HB2 := hid (HB.out.trans (hb2.mono (by omega)))
  obtain ⟨k0, k1, kz, _, _⟩ := A2
  obtain ⟨l0, l1, lz2, _, _⟩ := B2
  go_wp2_with fail
  clear k0 k1 l0 l1
  refine (C.out _).mono ?_
  rintro e w3 ⟨rfl, hb3⟩
  have HB3 := hid (HB2.out.trans (hb3.mono (by omega)))
  have RS := (HR2.out.below hb3).set_alloc (u := .int .i64 X) (v := .int .i64 Y) (.cells #[.int .i64 X, .int .i64 Y] 30)
  have zs := set_size w3 (w.heap.size + 1 + 1) (.int .i64 X) (.int .i64 Y)
  have z3 := hb3.size
  have R4 := HR2.out.below hb3
  obtain ⟨k0, k1, kz2, k2, k3⟩ := R4
  go_wp2_with fail
  refine bodyPost_ret (v := .tuple #[.agg #[.int .i64 X, .int .i64 Y], .bool b]) (by simp [results, Try.results163, go_sem, RS.1, RS.2]) rfl ⟨rfl, ((HB3.out.setCell (by simp; omega) _).setCell (by simp; omega) _).alloc (by omega) _⟩

theorem spec_add_no (x y u v : Int) (w : World) (hx : -9223372036854775808 ≤ x ∧ x ≤ 9223372036854775807) (hy : -9223372036854775808 ≤ y ∧ y ≤ 9223372036854775807) (hu : -9223372036854775808 ≤ u ∧ u ≤ 9223372036854775807) (hv : -9223372036854775808 ≤ v ∧ v ≤ 9223372036854775807) (h : (vr x y && vr u v) = false) :
    Calls Try.prog 164 #[.agg #[.int .i64 x, .int .i64 y], .agg #[.int .i64 u, .int .i64 v]] w fun e w' => e = ratEnd false 0 0 ∧ Below w.heap.size w w' := by
  have KA := hid (((has2_new w (.int .i64 x) (.int .i64 y) 30).alloc (.cells #[.int .i64 u, .int .i64 v] 30)).alloc (.cells #[.int .i64 0, .int .i64 0] 30))
  have KB := hid ((has2_new (w.alloc (.cells #[.int .i64 x, .int .i64 y] 30)) (.int .i64 u) (.int .i64 v) 30).alloc (.cells #[.int .i64 0, .int .i64 0] 30))
  have KR := hid (has2_new ((w.alloc (.cells #[.int .i64 x, .int .i64 y] 30)).alloc (.cells #[.int .i64 u, .int .i64 v] 30)) (.int .i64 0) (.int .i64 0) 30)
  cases h1 : vr x y with
  | false =>
    have V1 := hid fun W => svalid_no x y W hx hy h1
    clear h1 h
    go_enter Try.func164, Try.ntmps164
    go_wp2_with fail
    refine (V1.out _).mono ?_
    rintro e w1 ⟨rfl, hb1⟩
    have R1 := KR.out.below hb1
    simp only [World.size_alloc] at R1
    have RS := R1.set (u := .int .i64 0) (v := .int .i64 0)
    have HB := hid (((((Below.refl w.heap.size w).alloc (Nat.le_refl _) (.cells #[.int .i64 x, .int .i64 y] 30)).alloc (by simp) (.cells #[.int .i64 u, .int .i64 v] 30)).alloc (by simp; omega) (.cells #[.int .i64 0, .int .i64 0] 30)).trans (hb1.mono (by simp; omega)))
    obtain ⟨k0, k1, kz, k2, k3⟩ := R1
    go_wp2_with fail
    refine bodyPost_ret (v := .tuple #[.agg #[.int .i64 0, .int .i64 0], .bool false]) (by simp [results, Try.results164, go_sem, RS.1, RS.2]) rfl ⟨rfl, (HB.out.setCell (by simp; omega) _).setCell (by simp; omega) _⟩
  | true =>
    have h2 : vr u v = false := by rw [h1] at h; exact h
    have V1 := hid fun W => svalid_yes x y W h1
    have V2 := hid fun W => svalid_no u v W hu hv h2
    clear h1 h2 h
    go_enter Try.func164, Try.ntmps164
    go_wp2_with fail
    refine (V1.out _).mono ?_
    rintro e w1 ⟨rfl, hb1⟩
    have B1 := KB.out.below hb1
    have R1 := KR.out.below hb1
    simp only [World.size_alloc] at B1 R1
    obtain ⟨l0, l1, lz, _, _⟩ := B1
    have HB := hid (((((Below.refl w.heap.size w).alloc (Nat.le_refl _) (.cells #[.int .i64 x, .int .i64 y] 30)).alloc (by simp) (.cells #[.int .i64 u, .int .i64 v] 30)).alloc (by simp; omega) (.cells #[.int .i64 0, .int .i64 0] 30)).trans (hb1.mono (by simp; omega)))
    have HR := hid R1
    clear R1
    go_wp2_with fail
    clear l0 l1
    refine (V2.out _).mono ?_
    rintro e w2 ⟨rfl, hb2⟩
    have R2 := HR.out.below hb2
    have RS := R2.set (u := .int .i64 0) (v := .int .i64 0)
    have HB2 := hid (HB.out.trans (hb2.mono (by omega)))
    obtain ⟨k0, k1, kz, k2, k3⟩ := R2
    go_wp2_with fail
    refine bodyPost_ret (v := .tuple #[.agg #[.int .i64 0, .int .i64 0], .bool false]) (by simp [results, Try.results164, go_sem, RS.1, RS.2]) rfl ⟨rfl, (HB2.out.setCell (by simp; omega) _).setCell (by simp; omega) _⟩

theorem spec_add_yes (x y u v : Int) (w : World) (h1 : vr x y = true) (h2 : vr u v = true) :
    Calls Try.prog 164 #[.agg #[.int .i64 x, .int .i64 y], .agg #[.int .i64 u, .int .i64 v]] w fun e w' => e = ratEnd (nok (x * v + u * y) (y * v)) (nx (x * v + u * y) (y * v)) (ny (x * v + u * y) (y * v)) ∧ Below w.heap.size w w' := by
  obtain ⟨a0, a1, a2, a3, _⟩ := vr_true h1
  obtain ⟨b0, b1, b2, b3, _⟩ := vr_true h2
  have V1 := hid fun W => svalid_yes x y W h1
  have V2 := hid fun W => svalid_yes u v W h2
  clear h1 h2
  have m0 := mul_bd (x := x) (v := v) (by omega) (by omega) (by omega) (by omega)
  have m1 := mul_bd (x := u) (v := y) (by omega) (by omega) (by omega) (by omega)
  have m2 := mul_bd (x := y) (v := v) (by omega) (by omega) (by omega) (by omega)
  have C := hid fun W => spec_new (x * v + u * y) (y * v) W (by omega) (by omega) (by omega) (by omega)
  simp only [ratEnd_is] at C
  rw [ratEnd_is]
  generalize rx (nok (x * v + u * y) (y * v)) (nx (x * v + u * y) (y * v)) = X at C ⊢
  generalize rx (nok (x * v + u * y) (y * v)) (ny (x * v + u * y) (y * v)) = Y at C ⊢
  generalize nok (x * v + u * y) (y * v) = b at C ⊢
  have KA := hid (((has2_new w (.int .i64 x) (.int .i64 y) 30).alloc (.cells #[.int .i64 u, .int .i64 v] 30)).alloc (.cells #[.int .i64 0, .int .i64 0] 30))
  have KB := hid ((has2_new (w.alloc (.cells #[.int .i64 x, .int .i64 y] 30)) (.int .i64 u) (.int .i64 v) 30).alloc (.cells #[.int .i64 0, .int .i64 0] 30))
  have KR := hid (has2_new ((w.alloc (.cells #[.int .i64 x, .int .i64 y] 30)).alloc (.cells #[.int .i64 u, .int .i64 v] 30)) (.int .i64 0) (.int .i64 0) 30)
  go_enter Try.func164, Try.ntmps164
  go_wp2_with fail
  refine (V1.out _).mono ?_
  rintro e w1 ⟨rfl, hb1⟩
  have A1 := KA.out.below hb1
  have B1 := KB.out.below hb1
  have R1 := KR.out.below hb1
  simp only [World.size_alloc] at A1 B1 R1
  have HB := hid (((((Below.refl w.heap.size w).alloc (Nat.le_refl _) (.cells #[.int .i64 x, .int .i64 y] 30)).alloc (by simp) (.cells #[.int .i64 u, .int .i64 v] 30)).alloc (by simp; omega) (.cells #[.int .i64 0, .int .i64 0] 30)).trans (hb1.mono (by simp; omega)))
  have HA := hid A1
  have HBB := hid B1
  have HR := hid R1
  obtain ⟨l0, l1, lz, _, _⟩ := B1
  clear A1 R1
  go_wp2_with fail
  clear l0 l1
  refine (V2.out _).mono ?_
  rintro e w2 ⟨rfl, hb2⟩
  have A2 := HA.out.below hb2
  have B2 := HBB.out.below hb2
  have HR2 := hid (HR.out.below hb2)
  have HB2 := hid (HB.out.trans (hb2.mono (by omega)))
  obtain ⟨k0, k1, kz, _, _⟩ := A2
  obtain ⟨l0, l1, lz2, _, _⟩ := B2
  go_wp2_with fail
  clear k0 k1 l0 l1
  refine (C.out _).mono ?_
  rintro e w3 ⟨rfl, hb3⟩
  have HB3 := hid (HB2.out.trans (hb3.mono (by omega)))
  have RS := (HR2.out.below hb3).set_alloc (u := .int .i64 X) (v := .int .i64 Y) (.cells #[.int .i64 X, .int .i64 Y] 30)
  have zs := set_size w3 (w.heap.size + 1 + 1) (.int .i64 X) (.int .i64 Y)
  have z3 := hb3.size
  have R4 := HR2.out.below hb3
  obtain ⟨k0, k1, kz2, k2, k3⟩ := R4
  go_wp2_with fail
  refine bodyPost_ret (v := .tuple #[.agg #[.int .i64 X, .int .i64 Y], .bool b]) (by simp [results, Try.results164, go_sem, RS.1, RS.2]) rfl ⟨rfl, ((HB3.out.setCell (by simp; omega) _).setCell (by simp; omega) _).alloc (by omega) _⟩

theorem spec_div_no (x y u v : Int) (w : World) (hx : -9223372036854775808 ≤ x ∧ x ≤ 9223372036854775807) (hy : -9223372036854775808 ≤ y ∧ y ≤ 9223372036854775807) (hu : -9223372036854775808 ≤ u ∧ u ≤ 9223372036854775807) (hv : -9223372036854775808 ≤ v ∧ v ≤ 9223372036854775807) (h : (vr x y && vr u v) = false) :
    Calls Try.prog 181 #[.agg #[.int .i64 x, .int .i64 y], .agg #[.int .i64 u, .int .i64 v]] w fun e w' => e = ratEnd false 0 0 ∧ Below w.heap.size w w' := by
  have KA := hid (((has2_new w (.int .i64 x) (.int .i64 y) 30).alloc (.cells #[.int .i64 u, .int .i64 v] 30)).alloc (.cells #[.int .i64 0, .int .i64 0] 30))
  have KB := hid ((has2_new (w.alloc (.cells #[.int .i64 x, .int .i64 y] 30)) (.int .i64 u) (.int .i64 v) 30).alloc (.cells #[.int .i64 0, .int .i64 0] 30))
  have KR := hid (has2_new ((w.alloc (.cells #[.int .i64 x, .int .i64 y] 30)).alloc (.cells #[.int .i64 u, .int .i64 v] 30)) (.int .i64 0) (.int .i64 0) 30)
  cases h1 : vr x y with
  | false =>
    have V1 := hid fun W => svalid_no x y W hx hy h1
    clear h1 h
    go_enter Try.func181, Try.ntmps181
    go_wp2_with fail
    refine (V1.out _).mono ?_
    rintro e w1 ⟨rfl, hb1⟩
    have R1 := KR.out.below hb1
    simp only [World.size_alloc] at R1
    have RS := R1.set (u := .int .i64 0) (v := .int .i64 0)
    have HB := hid (((((Below.refl w.heap.size w).alloc (Nat.le_refl _) (.cells #[.int .i64 x, .int .i64 y] 30)).alloc (by simp) (.cells #[.int .i64 u, .int .i64 v] 30)).alloc (by simp; omega) (.cells #[.int .i64 0, .int .i64 0] 30)).trans (hb1.mono (by simp; omega)))
    obtain ⟨k0, k1, kz, k2, k3⟩ := R1
    go_wp2_with fail
    refine bodyPost_ret (v := .tuple #[.agg #[.int .i64 0, .int .i64 0], .bool false]) (by simp [results, Try.results181, go_sem, RS.1, RS.2]) rfl ⟨rfl, (HB.out.setCell (by simp; omega) _).setCell (by simp; omega) _⟩
  | true =>
    have h2 : vr u v = false := by rw [h1] at h; exact h
    have V1 := hid fun W => svalid_yes x y W h1
    have V2 := hid fun W => svalid_no u v W hu hv h2
    clear h1 h2 h
    go_enter Try.func181, Try.ntmps181
    go_wp2_with fail
    refine (V1.out _).mono ?_
    rintro e w1 ⟨rfl, hb1⟩
    have B1 := KB.out.below hb1
    have R1 := KR.out.below hb1
    simp only [World.size_alloc] at B1 R1
    obtain ⟨l0, l1, lz, _, _⟩ := B1
    have HB := hid (((((Below.refl w.heap.size w).alloc (Nat.le_refl _) (.cells #[.int .i64 x, .int .i64 y] 30)).alloc (by simp) (.cells #[.int .i64 u, .int .i64 v] 30)).alloc (by simp; omega) (.cells #[.int .i64 0, .int .i64 0] 30)).trans (hb1.mono (by simp; omega)))
    have HR := hid R1
    clear R1
    go_wp2_with fail
    clear l0 l1
    refine (V2.out _).mono ?_
    rintro e w2 ⟨rfl, hb2⟩
    have R2 := HR.out.below hb2
    have RS := R2.set (u := .int .i64 0) (v := .int .i64 0)
    have HB2 := hid (HB.out.trans (hb2.mono (by omega)))
    obtain ⟨k0, k1, kz, k2, k3⟩ := R2
    go_wp2_with fail
    refine bodyPost_ret (v := .tuple #[.agg #[.int .i64 0, .int .i64 0], .bool false]) (by simp [results, Try.results181, go_sem, RS.1, RS.2]) rfl ⟨rfl, (HB2.out.setCell (by simp; omega) _).setCell (by simp; omega) _⟩

theorem spec_div_yes (x y u v : Int) (w : World) (h1 : vr x y = true) (h2 : vr u v = true) :
    Calls Try.prog 181 #[.agg #[.int .i64 x, .int .i64 y], .agg #[.int .i64 u, .int .i64 v]] w fun e w' => e = ratEnd (nok (x * v) (y * u)) (nx (x * v) (y * u)) (ny (x * v) (y * u)) ∧ Below w.heap.size w w' := by
  obtain ⟨a0, a1, a2, a3, _⟩ := vr_true h1
  obtain ⟨b0, b1, b2, b3, _⟩ := vr_true h2
  have V1 := hid fun W => svalid_yes x y W h1
  have V2 := hid fun W => svalid_yes u v W h2
  clear h1 h2
  have m0 := mul_bd (x := x) (v := v) (by omega) (by omega) (by omega) (by omega)
  have m1 := mul_bd (x := y) (v := u) (by omega) (by omega) (by omega) (by omega)
  have C := hid fun W => spec_new (x * v) (y * u) W (by omega) (by omega) (by omega) (by omega)
  simp only [ratEnd_is] at C
  rw [ratEnd_is]
  generalize rx (nok (x * v) (y * u)) (nx (x * v) (y * u)) = X at C ⊢
  generalize rx (nok (x * v) (y * u)) (ny (x * v) (y * u)) = Y at C ⊢
  generalize nok (x * v) (y * u) = b at C ⊢
  have KA := hid (((has2_new w (.int .i64 x) (.int .i64 y) 30).alloc (.cells #[.int .i64 u, .int .i64 v] 30)).alloc (.cells #[.int .i64 0, .int .i64 0] 30))
  have KB := hid ((has2_new (w.alloc (.cells #[.int .i64 x, .int .i64 y] 30)) (.int .i64 u) (.int .i64 v) 30).alloc (.cells #[.int .i64 0, .int .i64 0] 30))
  have KR := hid (has2_new ((w.alloc (.cells #[.int .i64 x, .int .i64 y] 30)).alloc (.cells #[.int .i64 u, .int .i64 v] 30)) (.int .i64 0) (.int .i64 0) 30)
  go_enter Try.func181, Try.ntmps181
  go_wp2_with fail
  refine (V1.out _).mono ?_
  rintro e w1 ⟨rfl, hb1⟩
  have A1 := KA.out.below hb1
  have B1 := KB.out.below hb1
  have R1 := KR.out.below hb1
  simp only [World.size_alloc] at A1 B1 R1
  have HB := hid (((((Below.refl w.heap.size w).alloc (Nat.le_refl _) (.cells #[.int .i64 x, .int .i64 y] 30)).alloc (by simp) (.cells #[.int .i64 u, .int .i64 v] 30)).alloc (by simp; omega) (.cells #[.int .i64 0, .int .i64 0] 30)).trans (hb1.mono (by simp; omega)))
  have HA := hid A1
  have HBB := hid B1
  have HR := hid R1
  obtain ⟨l0, l1, lz, _, _⟩ := B1
  clear A1 R1
  go_wp2_with fail
  clear l0 l1
  refine (V2.out _).mono ?_
  rintro e w2 ⟨rfl, hb2⟩
  have A2 := HA.out.below hb2
  have B2 := HBB.out.below hb2
  have HR2 := hid (HR.out.below hb2)
  have HB2 := hid (HB.out.trans (hb2.mono (by omega)))
  obtain ⟨k0, k1, kz, _, _⟩ := A2
  obtain ⟨l0, l1, lz2, _, _⟩ := B2
  go_wp2_with fail
  clear k0 k1 l0 l1
  refine (C.out _).mono ?_
  rintro e w3 ⟨rfl, hb3⟩
  have HB3 := hid (HB2.out.trans (hb3.mono (by omega)))
  have RS := (HR2.out.below hb3).set_alloc (u := .int .i64 X) (v := .int .i64 Y) (.cells #[.int .i64 X, .int .i64 Y] 30)
  have zs := set_size w3 (w.heap.size + 1 + 1) (.int .i64 X) (.int .i64 Y)
  have z3 := hb3.size
  have R4 := HR2.out.below hb3
  obtain ⟨k0, k1, kz2, k2, k3⟩ := R4
  go_wp2_with fail
  refine bodyPost_ret (v := .tuple #[.agg #[.int .i64 X, .int .i64 Y], .bool b]) (by simp [results, Try.results181, go_sem, RS.1, RS.2]) rfl ⟨rfl, ((HB3.out.setCell (by simp; omega) _).setCell (by simp; omega) _).alloc (by omega) _⟩

end Go.Proofs.Ytaiimjbdhcjobaa.OpsSpec
