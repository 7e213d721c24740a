/-
  The comparison of rationals (impl.CompareRationals) answers as its model at every two rationals: law FnExactCompareRationals is true. No condition.
-/
import Derived.Test.YthghggnlfnbbgaaRows
import Derived.Test.YthghggnlfnbbgaaStep
import Derived.Test.YthghggnlfnbbgaaRatArg
import Derived.Test.YthghggnlfnbbgaaCmpCalls
import Derived.Test.YthghggnlfnbbgaaKeep
import Derived.Deep.RegionHeld3
namespace Go.Proofs.Ythghggnlfnbbgaa.CompareRationals
open Go.ChangeShapes Go.WideShapes Go.ChangeAt Go.RowKit
open Go.Proofs.Ythghggnlfnbbgaa.Num Go.Proofs.Ythghggnlfnbbgaa.Rat Go.Proofs.Ythghggnlfnbbgaa.New Go.Proofs.Ythghggnlfnbbgaa.RatLaw Go.Proofs.Ythghggnlfnbbgaa.Cells Go.Proofs.Ythghggnlfnbbgaa.Keep Go.Proofs.Ythghggnlfnbbgaa.CmpCalls
set_option linter.unusedVariables false

set_option maxHeartbeats 1000000 in
theorem core (x y u v s : Int) (w : World) (S : RowKit.Hid (∀ W, Calls Try.prog 48 #[.agg #[.int .i64 x, .int .i64 y], .agg #[.int .i64 u, .int .i64 v]] W fun e w' => e = .returned (.int .i64 s) ∧ Below W.heap.size W w')) (I : RowKit.Hid (∀ W, Calls Try.prog 49 #[.agg #[.int .i64 x, .int .i64 y], .agg #[.int .i64 u, .int .i64 v]] W fun e w' => e = .returned (.int .i64 s) ∧ Below W.heap.size W w')) :
    Calls Try.prog 13 #[.agg #[.int .i64 x, .int .i64 y], .agg #[.int .i64 u, .int .i64 v]] w fun e w' => e = .returned (.bool true) ∧ Below w.heap.size w w' := by
  obtain ⟨q0, q1, q2, q3, q4⟩ := two_boxes w (.int .i64 x) (.int .i64 y) (.int .i64 u) (.int .i64 v) 53 53
  go_enter Try.func13, Try.ntmps13
  go_wp2_with fail
  go_region_held3 (fun w' => w'.cell? ⟨w.heap.size, 0, none⟩ = some (.int .i64 x) ∧ w'.cell? ⟨w.heap.size, 1, none⟩ = some (.int .i64 y) ∧ w'.cell? ⟨w.heap.size + 1, 0, none⟩ = some (.int .i64 u) ∧ w'.cell? ⟨w.heap.size + 1, 1, none⟩ = some (.int .i64 v) ∧ Kp w 2 w')
    (first
      | (go_split_ands
         repeat' apply And.intro
         all_goals (first | assumption | exact Kp.drew (by assumption) | exact Kp.cell (by assumption) hb1 (by omega) (by assumption) | exact Kp.call (by assumption) hb1)))
    (first | (go_at_call 40; (with_reducible refine (to_rat _ _ _).mono ?_); rintro e w1 ⟨rfl, hb1⟩) | (go_at_call 48; (with_reducible refine (S.out _).mono ?_); rintro e w1 ⟨rfl, hb1⟩))
  go_wp2_with fail
  go_region_held3 (fun w' => w'.cell? ⟨w.heap.size, 0, none⟩ = some (.int .i64 x) ∧ w'.cell? ⟨w.heap.size, 1, none⟩ = some (.int .i64 y) ∧ w'.cell? ⟨w.heap.size + 1, 0, none⟩ = some (.int .i64 u) ∧ w'.cell? ⟨w.heap.size + 1, 1, none⟩ = some (.int .i64 v) ∧ Kp w 2 w')
    (first
      | (go_split_ands
         repeat' apply And.intro
         all_goals (first | assumption | exact Kp.drew (by assumption) | exact Kp.cell (by assumption) hb1 (by omega) (by assumption) | exact Kp.call (by assumption) hb1)))
    (first | (go_at_call 40; (with_reducible refine (to_rat _ _ _).mono ?_); rintro e w1 ⟨rfl, hb1⟩) | (go_at_call 49; (with_reducible refine (I.out _).mono ?_); rintro e w1 ⟨rfl, hb1⟩))
  go_wp2_with fail
  go_ret
  go_split_ands
  exact ⟨rfl, Kp.bel (n := 2) (by assumption)⟩

theorem walk (x y : Int) (hx : -9223372036854775808 ≤ x ∧ x ≤ 9223372036854775807) (hy : -9223372036854775808 ≤ y ∧ y ≤ 9223372036854775807) (u v : Int) (hu : -9223372036854775808 ≤ u ∧ u ≤ 9223372036854775807) (hv : -9223372036854775808 ≤ v ∧ v ≤ 9223372036854775807) (w : World) :
    Calls Try.prog 13 #[.agg #[.int .i64 x, .int .i64 y], .agg #[.int .i64 u, .int .i64 v]] w fun e w' => e = .returned (.bool true) ∧ Below w.heap.size w w' := by
  cases h : (vr x y && vr u v) with
  | false =>
    exact core x y u v 0 w (fun W => spec_cmp_no x y u v W hx hy hu hv h) (fun W => impl_cmp_no x y u v W hx hy hu hv h)
  | true =>
    rw [Bool.and_eq_true] at h
    exact core x y u v _ w (fun W => spec_cmp_yes x y u v W h.1 h.2) (fun W => impl_cmp_yes x y u v W h.1 h.2)

theorem own : ownKnob Try.prog.godebug = none := by kernel_rfl
theorem laidOut : laidOutB Try.prog = true := by kernel_rfl

theorem ratCells : Try.prog.cellsOf 53 = 2 := by kernel_rfl
theorem ratOne : Go.Deep.oneCellFields Try.prog #[{ name := "Num", type := 3, offset := 0, embedded := false, tag := "", pkgPath := "", byteOffset := 0 }, { name := "Den", type := 3, offset := 1, embedded := false, tag := "", pkgPath := "", byteOffset := 8 }] = true := by kernel_rfl

set_option maxRecDepth 100000 in
theorem lifted (os : Os) (started : os.Started) (H : Type) (enc : TypeId × Value → H) :
    ReturnsInHanded {} Try.checked os 13 .any (Rows.fnExactCompareRationalsSpec.pre6 enc Try.prog Try.f13 Rows.fnExactCompareRationalsRow.domain false) (Rows.fnExactCompareRationalsSpec.post enc Try.prog Try.f13 false true false false) := by
  refine returnsInHanded_of_change (C := Try.checked) own started (by kernel_rfl) Try.func13
    (ChangeSpec.witness6 (enc := enc) (C := Try.checked) false ⟨#[], #[.agg #[.int .i64 0, .int .i64 0], .agg #[.int .i64 0, .int .i64 0]], []⟩ 8 (by kernel_rfl) (by kernel_rfl) (by kernel_rfl) (by kernel_rfl)) ?_
  intro W base args ds gs before hval0 hW hcnd _
  have hval : ∀ (j : Nat) t v, Try.f13.params[j]? = some t → args[j]? = some v → Value.okWide Try.prog W .any 0 t v := fun j t v h1 h2 => (hval0 j t v h1 h2)
  have hW' := hW
  obtain ⟨p, q, hA0, hV, rfl, hfz, hnd⟩ := hW
  have hA : DataW.TrodAll enc Try.prog W 0 (fun _ => true) true Try.f13.params.toList args.toList ds p := hA0
  rw [Try.params13] at hA hval
  obtain ⟨v0, vs0, d0, ds0, p0, q0, hargs, rfl, rfl, h0, r0⟩ := trodAll_cons hA
  obtain ⟨v1, vs1, d1, ds1, p1, q1, rfl, rfl, rfl, h1, r1⟩ := trodAll_cons r0
  obtain ⟨rfl, rfl, rfl⟩ := trodAll_nil r1
  obtain rfl : args = #[v0, v1] := by cases args; simp_all
  have hend : ∀ W', Below W.heap.size W W' → Rows.fnExactCompareRationalsSpec.post enc Try.prog Try.f13 false true false false W #[v0, v1] (.bool true) W' := fun W' hb =>
    Step.post_true laidOut (by kernel_rfl) (by rfl) Try.underlying4 hW' rfl rfl rfl rfl hb
  obtain ⟨x0, y0, rfl, hx0, hy0⟩ := RatArg.open_rat Try.underlying53 ratOne ratCells Try.underlying3 Try.underlying3 (hval 0 53 v0 rfl rfl) h0
  obtain ⟨x1, y1, rfl, hx1, hy1⟩ := RatArg.open_rat Try.underlying53 ratOne ratCells Try.underlying3 Try.underlying3 (hval 1 53 v1 rfl rfl) h1
  refine (walk x0 y0 hx0 hy0 x1 y1 hx1 hy1 W).mono fun e W' ⟨he, bel⟩ => ?_
  subst he
  exact ⟨_, rfl, hend W' bel⟩

theorem proved : Rows.FnExactCompareRationalsSaid :=
  OpenClaim.holds_of_wide 13 Try.f13 rfl rfl rfl rfl rfl rfl rfl ⟨rfl, rfl, rfl, rfl, rfl⟩ rfl rfl rfl rfl rfl (by kernel_rfl) Try.func13 (by kernel_rfl)
    (of_decide_eq_true (by kernel_rfl)) (by unfold Func.isWrapper; first | (rw [if_pos (by decide +kernel)]; kernel_rfl) | (rw [if_neg (by decide +kernel)]; exact ⟨rfl, rfl⟩))
    (fun os started H enc _ => lifted os started H enc)
#print axioms proved

end Go.Proofs.Ythghggnlfnbbgaa.CompareRationals
