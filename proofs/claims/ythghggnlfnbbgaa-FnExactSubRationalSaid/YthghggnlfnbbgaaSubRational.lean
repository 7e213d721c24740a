/-
  The subtraction of rationals (impl.SubRational) answers as its model at every two rationals: law FnExactSubRational is true. No condition.
-/
import Derived.Test.YthghggnlfnbbgaaRows
import Derived.Test.YthghggnlfnbbgaaStep
import Derived.Test.YthghggnlfnbbgaaRatArg
import Derived.Test.YthghggnlfnbbgaaOpsImpl
import Derived.Test.YthghggnlfnbbgaaSubSpec
import Derived.Deep.RegionHeld3
import Derived.Deep.DeepCutAuto
import Derived.Test.YthghggnlfnbbgaaKeep
namespace Go.Proofs.Ythghggnlfnbbgaa.SubRational
open Go.ChangeShapes Go.WideShapes Go.ChangeAt Go.RowKit
open Go.Proofs.Ythghggnlfnbbgaa.Num Go.Proofs.Ythghggnlfnbbgaa.Rat Go.Proofs.Ythghggnlfnbbgaa.New Go.Proofs.Ythghggnlfnbbgaa.RatLaw Go.Proofs.Ythghggnlfnbbgaa.Cells Go.Proofs.Ythghggnlfnbbgaa.Ops Go.Proofs.Ythghggnlfnbbgaa.OpsImpl Go.Proofs.Ythghggnlfnbbgaa.OpsSpec Go.Proofs.Ythghggnlfnbbgaa.Keep
set_option linter.unusedVariables false

set_option maxHeartbeats 1000000 in
theorem core (x y u v X Y : Int) (b : Bool) (w : World)
    (S : RowKit.Hid (∀ W, Calls Try.prog 42 #[.agg #[.int .i64 x, .int .i64 y], .agg #[.int .i64 u, .int .i64 v]] W fun e w' => e = .returned (.tuple #[.agg #[.int .i64 X, .int .i64 Y], .bool b]) ∧ Below W.heap.size W w'))
    (I : RowKit.Hid (∀ W, Calls Try.prog 43 #[.agg #[.int .i64 x, .int .i64 y], .agg #[.int .i64 u, .int .i64 v]] W fun e w' => e = .returned (.tuple #[.agg #[.int .i64 X, .int .i64 Y], .bool b]) ∧ Below W.heap.size W w')) :
    Calls Try.prog 10 #[.agg #[.int .i64 x, .int .i64 y], .agg #[.int .i64 u, .int .i64 v]] w fun e w' => e = .returned (.bool true) ∧ Below w.heap.size w w' := by
  have hS0 := two_boxes w (.int .i64 x) (.int .i64 y) (.int .i64 u) (.int .i64 v) 53 53
  obtain ⟨q0, q1, q2, q3, q4⟩ := hS0
  go_enter Try.func10, Try.ntmps10
  go_upto_region 1 with fail
  go_cut [5, 6] (fun s5 s6 wx => ∃ g : Nat, s5 = .pointer (some ⟨g, 0, none⟩) ∧ s6 = .bool b ∧ Has2 wx g (.int .i64 X) (.int .i64 Y) ∧ wx.cell? ⟨w.heap.size, 0, none⟩ = some (.int .i64 x) ∧ wx.cell? ⟨w.heap.size, 1, none⟩ = some (.int .i64 y) ∧ wx.cell? ⟨w.heap.size + 1, 0, none⟩ = some (.int .i64 u) ∧ wx.cell? ⟨w.heap.size + 1, 1, none⟩ = some (.int .i64 v) ∧ Kp w 2 wx)
  case first =>
    go_region_held3 (fun w' => w'.cell? ⟨w.heap.size, 0, none⟩ = some (.int .i64 x) ∧ w'.cell? ⟨w.heap.size, 1, none⟩ = some (.int .i64 y) ∧ w'.cell? ⟨w.heap.size + 1, 0, none⟩ = some (.int .i64 u) ∧ w'.cell? ⟨w.heap.size + 1, 1, none⟩ = some (.int .i64 v) ∧ Kp w 2 w')
      (first
        | (go_split_ands
           repeat' apply And.intro
           all_goals (first | (with_reducible assumption) | (with_reducible exact cell_drew (by assumption)) | (with_reducible exact Kp.cell (by assumption) hb1 (by omega) (by assumption)) | (with_reducible exact Kp.call (by assumption) hb1) | (with_reducible exact Kp.cell_alloc (by assumption) _ (by omega) (by assumption)) | (with_reducible exact Kp.alloc (by assumption) _) | (with_reducible exact Kp.cell_alloc_drew (by assumption) _ (by omega) (by assumption)) | (with_reducible exact Kp.alloc_drew (by assumption) _) | (with_reducible exact Kp.reall (by assumption) (by omega) _) | (with_reducible exact cell_realloc (by omega) (by assumption) _) | (with_reducible exact cell_set (by assumption) (by omega)) | (with_reducible exact Kp.set (by assumption) (by omega) _ _))))
      (first | (go_at_call 40; (with_reducible refine (to_rat _ _ _).mono ?_); rintro e w1 ⟨rfl, hb1⟩; have hz1 : w.heap.size + 2 ≤ w1.heap.size := (by have hz0 := hb1.size; (try simp at hz0); omega); (try (first | ((with_reducible have HN := hid (HN.out.below hb1)); obtain ⟨n0, n1, nz, n2, n3⟩ := HN.out) | ((with_reducible have HN := hid (new2_kept hb1)); obtain ⟨n0, n1, nz, n2, n3⟩ := HN.out) | ((with_reducible have HN := hid (new2_kept_drew hb1)); (try simp only [World.size_alloc] at HN); obtain ⟨n0, n1, nz, n2, n3⟩ := HN.out)))) | (go_at_call 42; (with_reducible refine (S.out _).mono ?_); rintro e w1 ⟨rfl, hb1⟩; have hz1 : w.heap.size + 2 ≤ w1.heap.size := (by have hz0 := hb1.size; (try simp at hz0); omega); (try (first | ((with_reducible have HN := hid (HN.out.below hb1)); obtain ⟨n0, n1, nz, n2, n3⟩ := HN.out) | ((with_reducible have HN := hid (new2_kept hb1)); obtain ⟨n0, n1, nz, n2, n3⟩ := HN.out) | ((with_reducible have HN := hid (new2_kept_drew hb1)); (try simp only [World.size_alloc] at HN); obtain ⟨n0, n1, nz, n2, n3⟩ := HN.out)))))
    all_goals
      go_wp2_with fail
      go_meet
      go_split_ands
      first
        | exact ⟨_, rfl, rfl, has2_new _ _ _ _, by with_reducible assumption, by with_reducible assumption, by with_reducible assumption, by with_reducible assumption, by with_reducible assumption⟩
        | exact ⟨_, rfl, rfl, has2_set HN.out, by with_reducible assumption, by with_reducible assumption, by with_reducible assumption, by with_reducible assumption, by with_reducible assumption⟩
  case rest =>
    obtain ⟨g, rfl, rfl, hH, r0, r1, r2, r3, hk⟩ := hcut
    clear q0 q1 q2 q3 q4
    obtain ⟨i0, i1, iz, _, _⟩ := hH
    have hkz := hk.sz
    have hr := (kp_refl wc).drew
    go_upto_region 2 with fail
    go_cut [7, 8] (fun s7 s8 wy => ∃ g2 : Nat, s7 = .pointer (some ⟨g2, 0, none⟩) ∧ s8 = .bool b ∧ Has2 wy g2 (.int .i64 X) (.int .i64 Y) ∧ wy.cell? ⟨g, 0, none⟩ = some (.int .i64 X) ∧ wy.cell? ⟨g, 1, none⟩ = some (.int .i64 Y) ∧ Kp wc 0 wy)
    case first =>
      go_region_held3 (fun w' => w'.cell? ⟨w.heap.size, 0, none⟩ = some (.int .i64 x) ∧ w'.cell? ⟨w.heap.size, 1, none⟩ = some (.int .i64 y) ∧ w'.cell? ⟨w.heap.size + 1, 0, none⟩ = some (.int .i64 u) ∧ w'.cell? ⟨w.heap.size + 1, 1, none⟩ = some (.int .i64 v) ∧ w'.cell? ⟨g, 0, none⟩ = some (.int .i64 X) ∧ w'.cell? ⟨g, 1, none⟩ = some (.int .i64 Y) ∧ Kp wc 0 w')
        (first
          | (go_split_ands
             repeat' apply And.intro
             all_goals (first | (with_reducible assumption) | (with_reducible exact cell_drew (by assumption)) | (with_reducible exact Kp.cell (by assumption) hb1 (by omega) (by assumption)) | (with_reducible exact Kp.call (by assumption) hb1) | (with_reducible exact Kp.cell_alloc (by assumption) _ (by omega) (by assumption)) | (with_reducible exact Kp.alloc (by assumption) _) | (with_reducible exact Kp.cell_alloc_drew (by assumption) _ (by omega) (by assumption)) | (with_reducible exact Kp.alloc_drew (by assumption) _) | (with_reducible exact Kp.reall (by assumption) (by omega) _) | (with_reducible exact cell_realloc (by omega) (by assumption) _) | (with_reducible exact cell_set (by assumption) (by omega)) | (with_reducible exact Kp.set (by assumption) (by omega) _ _))))
        (first | (go_at_call 40; (with_reducible refine (to_rat _ _ _).mono ?_); rintro e w1 ⟨rfl, hb1⟩; have hz1 : wc.heap.size ≤ w1.heap.size := (by have hz0 := hb1.size; (try simp at hz0); omega); (try (first | ((with_reducible have HN := hid (HN.out.below hb1)); obtain ⟨n0, n1, nz, n2, n3⟩ := HN.out) | ((with_reducible have HN := hid (new2_kept hb1)); obtain ⟨n0, n1, nz, n2, n3⟩ := HN.out) | ((with_reducible have HN := hid (new2_kept_drew hb1)); (try simp only [World.size_alloc] at HN); obtain ⟨n0, n1, nz, n2, n3⟩ := HN.out)))) | (go_at_call 43; (with_reducible refine (I.out _).mono ?_); rintro e w1 ⟨rfl, hb1⟩; have hz1 : wc.heap.size ≤ w1.heap.size := (by have hz0 := hb1.size; (try simp at hz0); omega); (try (first | ((with_reducible have HN := hid (HN.out.below hb1)); obtain ⟨n0, n1, nz, n2, n3⟩ := HN.out) | ((with_reducible have HN := hid (new2_kept hb1)); obtain ⟨n0, n1, nz, n2, n3⟩ := HN.out) | ((with_reducible have HN := hid (new2_kept_drew hb1)); (try simp only [World.size_alloc] at HN); obtain ⟨n0, n1, nz, n2, n3⟩ := HN.out)))))
      all_goals
        go_wp2_with fail
        go_meet
        go_split_ands
        first
          | exact ⟨_, rfl, rfl, has2_new _ _ _ _, by with_reducible assumption, by with_reducible assumption, by with_reducible assumption⟩
          | exact ⟨_, rfl, rfl, has2_set HN.out, by with_reducible assumption, by with_reducible assumption, by with_reducible assumption⟩
    case rest =>
      obtain ⟨g2, rfl, rfl, hH2, t0, t1, hk2⟩ := hcut
      obtain ⟨j0, j1, jz, _, _⟩ := hH2
      go_wp2_with fail
      refine (eq_self X Y _).mono ?_
      rintro e w5 ⟨rfl, hb5⟩
      go_wp2_with fail
      go_ret
      exact ⟨rfl, ((hk.trans hk2).call hb5).bel⟩

theorem walk (x y : Int) (hx : -9223372036854775808 ≤ x ∧ x ≤ 9223372036854775807) (hy : -9223372036854775808 ≤ y ∧ y ≤ 9223372036854775807) (u v : Int) (hu : -9223372036854775808 ≤ u ∧ u ≤ 9223372036854775807) (hv : -9223372036854775808 ≤ v ∧ v ≤ 9223372036854775807) (w : World) :
    Calls Try.prog 10 #[.agg #[.int .i64 x, .int .i64 y], .agg #[.int .i64 u, .int .i64 v]] w fun e w' => e = .returned (.bool true) ∧ Below w.heap.size w w' := by
  cases h : (vr x y && vr u v) with
  | false =>
    exact core x y u v 0 0 false w (fun W => SubSpec.spec_sub_no x y u v W hx hy hu hv h) (fun W => impl_sub_no x y u v W hx hy hu hv h)
  | true =>
    rw [Bool.and_eq_true] at h
    exact core x y u v _ _ _ w (fun W => SubSpec.spec_sub_yes x y u v W h.1 h.2) (fun W => impl_sub_yes x y u v W h.1 h.2)

theorem own : ownKnob Try.prog.godebug = none := by kernel_rfl
theorem laidOut : laidOutB Try.prog = true := by kernel_rfl

theorem ratCells : Try.prog.cellsOf 53 = 2 := by kernel_rfl
theorem ratOne : Go.Deep.oneCellFields Try.prog #[{ name := "Num", type := 3, offset := 0, embedded := false, tag := "", pkgPath := "", byteOffset := 0 }, { name := "Den", type := 3, offset := 1, embedded := false, tag := "", pkgPath := "", byteOffset := 8 }] = true := by kernel_rfl

set_option maxRecDepth 100000 in
theorem lifted (os : Os) (started : os.Started) (H : Type) (enc : TypeId × Value → H) :
    ReturnsInHanded {} Try.checked os 10 .any (Rows.fnExactSubRationalSpec.pre6 enc Try.prog Try.f10 Rows.fnExactSubRationalRow.domain false) (Rows.fnExactSubRationalSpec.post enc Try.prog Try.f10 false true false false) := by
  refine returnsInHanded_of_change (C := Try.checked) own started (by kernel_rfl) Try.func10
    (ChangeSpec.witness6 (enc := enc) (C := Try.checked) false ⟨#[], #[.agg #[.int .i64 0, .int .i64 0], .agg #[.int .i64 0, .int .i64 0]], []⟩ 8 (by kernel_rfl) (by kernel_rfl) (by kernel_rfl) (by kernel_rfl)) ?_
  intro W base args ds gs before hval0 hW hcnd _
  have hval : ∀ (j : Nat) t v, Try.f10.params[j]? = some t → args[j]? = some v → Value.okWide Try.prog W .any 0 t v := fun j t v h1 h2 => (hval0 j t v h1 h2)
  have hW' := hW
  obtain ⟨p, q, hA0, hV, rfl, hfz, hnd⟩ := hW
  have hA : DataW.TrodAll enc Try.prog W 0 (fun _ => true) true Try.f10.params.toList args.toList ds p := hA0
  rw [Try.params10] at hA hval
  obtain ⟨v0, vs0, d0, ds0, p0, q0, hargs, rfl, rfl, h0, r0⟩ := trodAll_cons hA
  obtain ⟨v1, vs1, d1, ds1, p1, q1, rfl, rfl, rfl, h1, r1⟩ := trodAll_cons r0
  obtain ⟨rfl, rfl, rfl⟩ := trodAll_nil r1
  obtain rfl : args = #[v0, v1] := by cases args; simp_all
  have hend : ∀ W', Below W.heap.size W W' → Rows.fnExactSubRationalSpec.post enc Try.prog Try.f10 false true false false W #[v0, v1] (.bool true) W' := fun W' hb =>
    Step.post_true laidOut (by kernel_rfl) (by rfl) Try.underlying4 hW' rfl rfl rfl rfl hb
  obtain ⟨x0, y0, rfl, hx0, hy0⟩ := RatArg.open_rat Try.underlying53 ratOne ratCells Try.underlying3 Try.underlying3 (hval 0 53 v0 rfl rfl) h0
  obtain ⟨x1, y1, rfl, hx1, hy1⟩ := RatArg.open_rat Try.underlying53 ratOne ratCells Try.underlying3 Try.underlying3 (hval 1 53 v1 rfl rfl) h1
  refine (walk x0 y0 hx0 hy0 x1 y1 hx1 hy1 W).mono fun e W' ⟨he, bel⟩ => ?_
  subst he
  exact ⟨_, rfl, hend W' bel⟩

theorem proved : Rows.FnExactSubRationalSaid :=
  OpenClaim.holds_of_wide 10 Try.f10 rfl rfl rfl rfl rfl rfl rfl ⟨rfl, rfl, rfl, rfl, rfl⟩ rfl rfl rfl rfl rfl (by kernel_rfl) Try.func10 (by kernel_rfl)
    (of_decide_eq_true (by kernel_rfl)) (by unfold Func.isWrapper; first | (rw [if_pos (by decide +kernel)]; kernel_rfl) | (rw [if_neg (by decide +kernel)]; exact ⟨rfl, rfl⟩))
    (fun os started H enc _ => lifted os started H enc)
#print axioms proved

end Go.Proofs.Ythghggnlfnbbgaa.SubRational
