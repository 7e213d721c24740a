/- Contracts of the model's subtraction on rationals. -/
import Derived.Test.YtjnphlgmmjdeiaaOpsSpec
namespace Go.Proofs.Ytjnphlgmmjdeiaa.SubSpec
open Go.ChangeShapes Go.WideShapes Go.ChangeAt Go.RowKit
open Go.Proofs.Ytjnphlgmmjdeiaa.Num Go.Proofs.Ytjnphlgmmjdeiaa.Rat Go.Proofs.Ytjnphlgmmjdeiaa.Gcd Go.Proofs.Ytjnphlgmmjdeiaa.Valid Go.Proofs.Ytjnphlgmmjdeiaa.New Go.Proofs.Ytjnphlgmmjdeiaa.NewSpec Go.Proofs.Ytjnphlgmmjdeiaa.RatLaw Go.Proofs.Ytjnphlgmmjdeiaa.Cells Go.Proofs.Ytjnphlgmmjdeiaa.Ops Go.Proofs.Ytjnphlgmmjdeiaa.OpsSpec
set_option linter.unusedVariables false

theorem vr_neg (u v : Int) : vr (-u) v = vr u v := by
  cases h : vr u v with
  | true => obtain ⟨a, b, c, d, e⟩ := vr_true h; exact vr_mk a b (by omega) (by omega) (by rw [Int.neg_gcd]; exact e)
  | false =>
    refine vr_no ?_
    by_cases hg : Int.gcd u v = 1
    · have : v < 1 ∨ 1000000000 < v ∨ u < -1000000000 ∨ 1000000000 < u := by
        apply Classical.byContradiction
        intro hc
        rw [vr_mk (by omega) (by omega) (by omega) (by omega) hg] at h
        cases h
      omega
    · right; right; right; right
      rw [Int.neg_gcd]; exact hg

theorem spec_sub_no (x y u v : Int) (w : World) (hx : -9223372036854775808 ≤ x ∧ x ≤ 9223372036854775807) (hy : -9223372036854775808 ≤ y ∧ y ≤ 9223372036854775807) (hu : -9223372036854775808 ≤ u ∧ u ≤ 9223372036854775807) (hv : -9223372036854775808 ≤ v ∧ v ≤ 9223372036854775807) (h : (vr x y && vr u v) = false) :
    Calls Try.prog 98 #[.agg #[.int .i64 x, .int .i64 y], .agg #[.int .i64 u, .int .i64 v]] w fun e w' => e = ratEnd false 0 0 ∧ Below w.heap.size w w' := by
  cases h2 : vr u v with
  | false =>
    have KA := hid (((has2_new w (.int .i64 x) (.int .i64 y) 35).alloc (.cells #[.int .i64 u, .int .i64 v] 35)).alloc (.cells #[.int .i64 0, .int .i64 0] 35))
    have KB := hid ((has2_new (w.alloc (.cells #[.int .i64 x, .int .i64 y] 35)) (.int .i64 u) (.int .i64 v) 35).alloc (.cells #[.int .i64 0, .int .i64 0] 35))
    have KR := hid (has2_new ((w.alloc (.cells #[.int .i64 x, .int .i64 y] 35)).alloc (.cells #[.int .i64 u, .int .i64 v] 35)) (.int .i64 0) (.int .i64 0) 35)
    have V1 := hid fun W => svalid_no u v W hu hv h2
    clear h2 h
    go_enter Try.func98, Try.ntmps98
    go_wp2_with fail
    refine (V1.out _).mono ?_
    rintro e w1 ⟨rfl, hb1⟩
    have R1 := KR.out.below hb1
    simp only [World.size_alloc] at R1
    have RS := R1.set (u := .int .i64 0) (v := .int .i64 0)
    have HB := hid (((((Below.refl w.heap.size w).alloc (Nat.le_refl _) (.cells #[.int .i64 x, .int .i64 y] 35)).alloc (by simp) (.cells #[.int .i64 u, .int .i64 v] 35)).alloc (by simp; omega) (.cells #[.int .i64 0, .int .i64 0] 35)).trans (hb1.mono (by simp; omega)))
    obtain ⟨k0, k1, kz, k2, k3⟩ := R1
    go_wp2_with fail
    refine bodyPost_ret (v := .tuple #[.agg #[.int .i64 0, .int .i64 0], .bool false]) (by simp [results, Try.results98, go_sem, RS.1, RS.2]) rfl ⟨rfl, (HB.out.setCell (by simp; omega) _).setCell (by simp; omega) _⟩
  | true =>
    have h1 : vr x y = false := by rw [h2, Bool.and_true] at h; exact h
    obtain ⟨b0, b1, b2, b3, _⟩ := vr_true h2
    have V2 := hid fun W => svalid_yes u v W h2
    have C0 := hid fun W => spec_add_no x y (-u) v W hx hy (by omega) hv (by rw [h1]; rfl)
    obtain ⟨X, Y, b, hX, hY, hb⟩ : ∃ (X Y : Int) (b : Bool), X = 0 ∧ Y = 0 ∧ b = false := ⟨0, 0, false, rfl, rfl, rfl⟩
    have C := hid fun (W : World) => show Calls Try.prog 121 #[.agg #[.int .i64 x, .int .i64 y], .agg #[.int .i64 (-u), .int .i64 v]] W fun e w' => e = .returned (.tuple #[.agg #[.int .i64 X, .int .i64 Y], .bool b]) ∧ Below W.heap.size W w' by
      rw [hX, hY, hb]; exact C0.out W
    rw [show ratEnd false 0 0 = .returned (.tuple #[.agg #[.int .i64 X, .int .i64 Y], .bool b]) by rw [hX, hY, hb]; rfl]
    clear h1 h2 h C0 hX hY hb
    have KA := hid (((has2_new w (.int .i64 x) (.int .i64 y) 35).alloc (.cells #[.int .i64 u, .int .i64 v] 35)).alloc (.cells #[.int .i64 0, .int .i64 0] 35))
    have KB := hid ((has2_new (w.alloc (.cells #[.int .i64 x, .int .i64 y] 35)) (.int .i64 u) (.int .i64 v) 35).alloc (.cells #[.int .i64 0, .int .i64 0] 35))
    have KR := hid (has2_new ((w.alloc (.cells #[.int .i64 x, .int .i64 y] 35)).alloc (.cells #[.int .i64 u, .int .i64 v] 35)) (.int .i64 0) (.int .i64 0) 35)
    go_enter Try.func98, Try.ntmps98
    go_wp2_with fail
    refine (V2.out _).mono ?_
    rintro e w1 ⟨rfl, hb1⟩
    have A1 := KA.out.below hb1
    have B1 := KB.out.below hb1
    have R1 := KR.out.below hb1
    simp only [World.size_alloc] at A1 B1 R1
    have HB := hid (((((Below.refl w.heap.size w).alloc (Nat.le_refl _) (.cells #[.int .i64 x, .int .i64 y] 35)).alloc (by simp) (.cells #[.int .i64 u, .int .i64 v] 35)).alloc (by simp; omega) (.cells #[.int .i64 0, .int .i64 0] 35)).trans (hb1.mono (by simp; omega)))
    have HR := hid R1
    obtain ⟨k0, k1, kz, _, _⟩ := A1
    obtain ⟨l0, l1, lz, _, _⟩ := B1
    clear R1
    go_wp2_with fail
    clear k0 k1 l0 l1
    refine (C.out _).mono ?_
    rintro e w2 ⟨rfl, hb2⟩
    have HB2 := hid (HB.out.trans (hb2.mono (by omega)))
    have RS := (HR.out.below hb2).set_alloc (u := .int .i64 X) (v := .int .i64 Y) (.cells #[.int .i64 X, .int .i64 Y] 35)
    have zs := set_size w2 (w.heap.size + 1 + 1) (.int .i64 X) (.int .i64 Y)
    have z3 := hb2.size
    have R4 := HR.out.below hb2
    obtain ⟨k0, k1, kz2, k2, k3⟩ := R4
    go_wp2_with fail
    refine bodyPost_ret (v := .tuple #[.agg #[.int .i64 X, .int .i64 Y], .bool b]) (by simp [results, Try.results98, go_sem, RS.1, RS.2]) rfl ⟨rfl, ((HB2.out.setCell (by simp; omega) _).setCell (by simp; omega) _).alloc (by omega) _⟩

theorem spec_sub_yes (x y u v : Int) (w : World) (h1 : vr x y = true) (h2 : vr u v = true) :
    Calls Try.prog 98 #[.agg #[.int .i64 x, .int .i64 y], .agg #[.int .i64 u, .int .i64 v]] w fun e w' => e = ratEnd (nok (x * v - u * y) (y * v)) (nx (x * v - u * y) (y * v)) (ny (x * v - u * y) (y * v)) ∧ Below w.heap.size w w' := by
  obtain ⟨a0, a1, a2, a3, _⟩ := vr_true h1
  obtain ⟨b0, b1, b2, b3, _⟩ := vr_true h2
  have V2 := hid fun W => svalid_yes u v W h2
  have C := hid fun W => spec_add_yes x y (-u) v W h1 (by rw [vr_neg]; exact h2)
  rw [show x * v + -u * y = x * v - u * y by rw [Int.neg_mul]; omega] at C
  clear h1 h2
  simp only [ratEnd_is] at C
  rw [ratEnd_is]
  generalize rx (nok (x * v - u * y) (y * v)) (nx (x * v - u * y) (y * v)) = X at C ⊢
  generalize rx (nok (x * v - u * y) (y * v)) (ny (x * v - u * y) (y * v)) = Y at C ⊢
  generalize nok (x * v - u * y) (y * v) = b at C ⊢
  have KA := hid (((has2_new w (.int .i64 x) (.int .i64 y) 35).alloc (.cells #[.int .i64 u, .int .i64 v] 35)).alloc (.cells #[.int .i64 0, .int .i64 0] 35))
  have KB := hid ((has2_new (w.alloc (.cells #[.int .i64 x, .int .i64 y] 35)) (.int .i64 u) (.int .i64 v) 35).alloc (.cells #[.int .i64 0, .int .i64 0] 35))
  have KR := hid (has2_new ((w.alloc (.cells #[.int .i64 x, .int .i64 y] 35)).alloc (.cells #[.int .i64 u, .int .i64 v] 35)) (.int .i64 0) (.int .i64 0) 35)
  go_enter Try.func98, Try.ntmps98
  go_wp2_with fail
  refine (V2.out _).mono ?_
  rintro e w1 ⟨rfl, hb1⟩
  have A1 := KA.out.below hb1
  have B1 := KB.out.below hb1
  have R1 := KR.out.below hb1
  simp only [World.size_alloc] at A1 B1 R1
  have HB := hid (((((Below.refl w.heap.size w).alloc (Nat.le_refl _) (.cells #[.int .i64 x, .int .i64 y] 35)).alloc (by simp) (.cells #[.int .i64 u, .int .i64 v] 35)).alloc (by simp; omega) (.cells #[.int .i64 0, .int .i64 0] 35)).trans (hb1.mono (by simp; omega)))
  have HR := hid R1
  obtain ⟨k0, k1, kz, _, _⟩ := A1
  obtain ⟨l0, l1, lz, _, _⟩ := B1
  clear R1
  go_wp2_with fail
  clear k0 k1 l0 l1
  refine (C.out _).mono ?_
  rintro e w2 ⟨rfl, hb2⟩
  have HB2 := hid (HB.out.trans (hb2.mono (by omega)))
  have RS := (HR.out.below hb2).set_alloc (u := .int .i64 X) (v := .int .i64 Y) (.cells #[.int .i64 X, .int .i64 Y] 35)
  have zs := set_size w2 (w.heap.size + 1 + 1) (.int .i64 X) (.int .i64 Y)
  have z3 := hb2.size
  have R4 := HR.out.below hb2
  obtain ⟨k0, k1, kz2, k2, k3⟩ := R4
  go_wp2_with fail
  refine bodyPost_ret (v := .tuple #[.agg #[.int .i64 X, .int .i64 Y], .bool b]) (by simp [results, Try.results98, go_sem, RS.1, RS.2]) rfl ⟨rfl, ((HB2.out.setCell (by simp; omega) _).setCell (by simp; omega) _).alloc (by omega) _⟩

end Go.Proofs.Ytjnphlgmmjdeiaa.SubSpec
