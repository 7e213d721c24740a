/-
  The test of validity of rationals (impl.IsValidRational) answers as its model at every rational: law FnExactIsValidRational is true. No condition.
-/
import Derived.Test.YtbnnigaepkpfbaaRows
import Derived.Test.YtbnnigaepkpfbaaStep
import Derived.Test.YtbnnigaepkpfbaaRatArg
import Derived.Test.YtbnnigaepkpfbaaRatLaw
import Derived.Test.YtbnnigaepkpfbaaCells
namespace Go.Proofs.Ytbnnigaepkpfbaa.IsValidRational
open Go.ChangeShapes Go.WideShapes Go.ChangeAt Go.RowKit
open Go.ChangeMaps (open_string shut_string)
open Go.Proofs.Ytbnnigaepkpfbaa.Num Go.Proofs.Ytbnnigaepkpfbaa.Rat Go.Proofs.Ytbnnigaepkpfbaa.Gcd Go.Proofs.Ytbnnigaepkpfbaa.Valid Go.Proofs.Ytbnnigaepkpfbaa.New Go.Proofs.Ytbnnigaepkpfbaa.NewSpec Go.Proofs.Ytbnnigaepkpfbaa.RatLaw Go.Proofs.Ytbnnigaepkpfbaa.Cells
set_option linter.unusedVariables false

theorem walk (x y : Int) (hx : -9223372036854775808 ≤ x ∧ x ≤ 9223372036854775807) (hy : -9223372036854775808 ≤ y ∧ y ≤ 9223372036854775807) (w : World) :
    Calls Try.prog 5 #[.agg #[.int .i64 x, .int .i64 y]] w fun e w' => e = .returned (.bool true) ∧ Below w.heap.size w w' := by
  obtain ⟨hx0, hx1⟩ := hx
  obtain ⟨hy0, hy1⟩ := hy
  have S := hid fun W => spec_valid x y W hx0 hx1 hy0 hy1
  have I := hid fun W => impl_valid x y W hx0 hx1 hy0 hy1
  generalize vr x y = b at S I
  have K0 := hid (has2_new w (.int .i64 x) (.int .i64 y) 35)
  go_enter Try.func5, Try.ntmps5
  go_wp2_with fail
  refine (to_rat x y _).mono ?_
  rintro e w1 ⟨rfl, hb1⟩
  go_wp2_with fail
  refine (S.out _).mono ?_
  rintro e w2 ⟨rfl, hb2⟩
  obtain ⟨k0, k1, kz⟩ := (K0.out.below hb1).below hb2
  go_wp2_with fail
  clear k0 k1
  refine (to_rat x y _).mono ?_
  rintro e w3 ⟨rfl, hb3⟩
  go_wp2_with fail
  refine (I.out _).mono ?_
  rintro e w4 ⟨rfl, hb4⟩
  go_wp2_with fail
  go_ret
  exact ⟨rfl, ((((Below.refl _ _).alloc (Nat.le_refl _) _).trans ((hb1.trans (hb2.mono hb1.size)).mono (by simp))).trans ((hb3.trans (hb4.mono hb3.size)).mono (by omega)))⟩

theorem own : ownKnob Try.prog.godebug = none := by kernel_rfl
theorem laidOut : laidOutB Try.prog = true := by kernel_rfl

theorem ratCells : Try.prog.cellsOf 35 = 2 := by kernel_rfl
theorem ratOne : Go.Deep.oneCellFields Try.prog #[{ name := "Num", type := 3, offset := 0, embedded := false, tag := "", pkgPath := "", byteOffset := 0 }, { name := "Den", type := 3, offset := 1, embedded := false, tag := "", pkgPath := "", byteOffset := 8 }] = true := by kernel_rfl

set_option maxRecDepth 100000 in
theorem lifted (os : Os) (started : os.Started) (H : Type) (enc : TypeId × Value → H) :
    ReturnsInHanded {} Try.checked os 5 .any (Rows.fnExactIsValidRationalSpec.pre6 enc Try.prog Try.f5 Rows.fnExactIsValidRationalRow.domain false) (Rows.fnExactIsValidRationalSpec.post enc Try.prog Try.f5 false true false false) := by
  refine returnsInHanded_of_change (C := Try.checked) own started (by kernel_rfl) Try.func5
    (ChangeSpec.witness6 (enc := enc) (C := Try.checked) false ⟨#[], #[.agg #[.int .i64 0, .int .i64 0]], []⟩ 8 (by kernel_rfl) (by kernel_rfl) (by kernel_rfl) (by kernel_rfl)) ?_
  intro W base args ds gs before hval0 hW hcnd _
  have hval : ∀ (j : Nat) t v, Try.f5.params[j]? = some t → args[j]? = some v → Value.okWide Try.prog W .any 0 t v := fun j t v h1 h2 => (hval0 j t v h1 h2)
  have hW' := hW
  obtain ⟨p, q, hA0, hV, rfl, hfz, hnd⟩ := hW
  have hA : DataW.TrodAll enc Try.prog W 0 (fun _ => true) true Try.f5.params.toList args.toList ds p := hA0
  rw [Try.params5] at hA hval
  obtain ⟨v0, vs0, d0, ds0, p0, q0, hargs, rfl, rfl, h0, r0⟩ := trodAll_cons hA
  obtain ⟨rfl, rfl, rfl⟩ := trodAll_nil r0
  obtain rfl : args = #[v0] := by cases args; simp_all
  have hend : ∀ W', Below W.heap.size W W' → Rows.fnExactIsValidRationalSpec.post enc Try.prog Try.f5 false true false false W #[v0] (.bool true) W' := fun W' hb =>
    Step.post_true laidOut (by kernel_rfl) (by rfl) Try.underlying4 hW' rfl rfl rfl rfl hb
  obtain ⟨x0, y0, rfl, hx0, hy0⟩ := RatArg.open_rat Try.underlying35 ratOne ratCells Try.underlying3 Try.underlying3 (hval 0 35 v0 rfl rfl) h0
  refine (walk x0 y0 hx0 hy0 W).mono fun e W' ⟨he, bel⟩ => ?_
  subst he
  exact ⟨_, rfl, hend W' bel⟩

theorem proved : Rows.FnExactIsValidRationalSaid :=
  OpenClaim.holds_of_wide 5 Try.f5 rfl rfl rfl rfl rfl rfl rfl ⟨rfl, rfl, rfl, rfl, rfl⟩ rfl rfl rfl rfl rfl (by kernel_rfl) Try.func5 (by kernel_rfl)
    (of_decide_eq_true (by kernel_rfl)) (by unfold Func.isWrapper; first | (rw [if_pos (by decide +kernel)]; kernel_rfl) | (rw [if_neg (by decide +kernel)]; exact ⟨rfl, rfl⟩))
    (fun os started H enc _ => lifted os started H enc)
#print axioms proved

end Go.Proofs.Ytbnnigaepkpfbaa.IsValidRational
