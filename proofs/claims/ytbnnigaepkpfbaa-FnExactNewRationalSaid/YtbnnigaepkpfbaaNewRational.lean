/-
  The maker of rationals (impl.NewRational) answers as its model at every two ints: law FnExactNewRational is true. No condition.
-/
import Derived.Test.YtbnnigaepkpfbaaRows
import Derived.Test.YtbnnigaepkpfbaaStep
import Derived.Test.YtbnnigaepkpfbaaRatArg
import Derived.Test.YtbnnigaepkpfbaaRatLaw
import Derived.Test.YtbnnigaepkpfbaaCells
namespace Go.Proofs.Ytbnnigaepkpfbaa.NewRational
open Go.ChangeShapes Go.WideShapes Go.ChangeAt Go.RowKit
open Go.ChangeMaps (open_string shut_string)
open Go.Proofs.Ytbnnigaepkpfbaa.Num Go.Proofs.Ytbnnigaepkpfbaa.Rat Go.Proofs.Ytbnnigaepkpfbaa.Gcd Go.Proofs.Ytbnnigaepkpfbaa.Valid Go.Proofs.Ytbnnigaepkpfbaa.New Go.Proofs.Ytbnnigaepkpfbaa.NewSpec Go.Proofs.Ytbnnigaepkpfbaa.RatLaw Go.Proofs.Ytbnnigaepkpfbaa.Cells
set_option linter.unusedVariables false

theorem walk (n : Int) (hn : -9223372036854775808 ≤ n ∧ n ≤ 9223372036854775807) (d : Int) (hd : -9223372036854775808 ≤ d ∧ d ≤ 9223372036854775807) (w : World) :
    Calls Try.prog 6 #[.int .i64 n, .int .i64 d] w fun e w' => e = .returned (.bool true) ∧ Below w.heap.size w w' := by
  obtain ⟨hx0, hx1⟩ := hn
  obtain ⟨hy0, hy1⟩ := hd
  have S := hid fun W => spec_new n d W hx0 hx1 hy0 hy1
  have I := hid fun W => impl_new n d W hx0 hx1 hy0 hy1
  simp only [ratEnd_is] at S I
  generalize rx (nok n d) (nx n d) = x at S I
  generalize rx (nok n d) (ny n d) = y at S I
  generalize nok n d = b at S I
  go_enter Try.func6, Try.ntmps6
  go_wp2_with fail
  refine (S.out _).mono ?_
  rintro e w1 ⟨rfl, hb1⟩
  have z1 := hb1.size
  have K1 := hid (has2_new w1 (.int .i64 x) (.int .i64 y) 25)
  go_wp2_with fail
  refine (I.out _).mono ?_
  rintro e w2 ⟨rfl, hb2⟩
  obtain ⟨k0, k1, kz⟩ := K1.out.below hb2
  go_wp2_with fail
  refine (eq_self x y _).mono ?_
  rintro e w3 ⟨rfl, hb3⟩
  go_wp2_with fail
  go_ret
  exact ⟨rfl, ((hb1.alloc (by omega) _).trans (hb2.mono (by simp; omega))).alloc (by omega) _ |>.trans (hb3.mono (by simp; omega))⟩

theorem own : ownKnob Try.prog.godebug = none := by kernel_rfl
theorem laidOut : laidOutB Try.prog = true := by kernel_rfl

set_option maxRecDepth 100000 in
theorem lifted (os : Os) (started : os.Started) (H : Type) (enc : TypeId × Value → H) :
    ReturnsInHanded {} Try.checked os 6 .any (Rows.fnExactNewRationalSpec.pre6 enc Try.prog Try.f6 Rows.fnExactNewRationalRow.domain false) (Rows.fnExactNewRationalSpec.post enc Try.prog Try.f6 false true false false) := by
  refine returnsInHanded_of_change (C := Try.checked) own started (by kernel_rfl) Try.func6
    (ChangeSpec.witness6 (enc := enc) (C := Try.checked) false ⟨#[], #[.int .i64 0, .int .i64 0], []⟩ 8 (by kernel_rfl) (by kernel_rfl) (by kernel_rfl) (by kernel_rfl)) ?_
  intro W base args ds gs before hval0 hW hcnd _
  have hval : ∀ (j : Nat) t v, Try.f6.params[j]? = some t → args[j]? = some v → Value.okWide Try.prog W .any 0 t v := fun j t v h1 h2 => (hval0 j t v h1 h2)
  have hW' := hW
  obtain ⟨p, q, hA0, hV, rfl, hfz, hnd⟩ := hW
  have hA : DataW.TrodAll enc Try.prog W 0 (fun _ => true) true Try.f6.params.toList args.toList ds p := hA0
  rw [Try.params6] at hA hval
  obtain ⟨v0, vs0, d0, ds0, p0, q0, hargs, rfl, rfl, h0, r0⟩ := trodAll_cons hA
  obtain ⟨v1, vs1, d1, ds1, p1, q1, rfl, rfl, rfl, h1, r1⟩ := trodAll_cons r0
  obtain ⟨rfl, rfl, rfl⟩ := trodAll_nil r1
  obtain rfl : args = #[v0, v1] := by cases args; simp_all
  have hend : ∀ W', Below W.heap.size W W' → Rows.fnExactNewRationalSpec.post enc Try.prog Try.f6 false true false false W #[v0, v1] (.bool true) W' := fun W' hb =>
    Step.post_true laidOut (by kernel_rfl) (by rfl) Try.underlying4 hW' rfl rfl rfl rfl hb
  obtain ⟨a0, rfl, rfl, rfl, w0⟩ := open_int Try.underlying3 (hval 0 3 v0 rfl rfl) h0
  obtain ⟨a1, rfl, rfl, rfl, w1⟩ := open_int Try.underlying3 (hval 1 3 v1 rfl rfl) h1
  refine (walk a0 (bounds_i64 w0) a1 (bounds_i64 w1) W).mono fun e W' ⟨he, bel⟩ => ?_
  subst he
  exact ⟨_, rfl, hend W' bel⟩

theorem proved : Rows.FnExactNewRationalSaid :=
  OpenClaim.holds_of_wide 6 Try.f6 rfl rfl rfl rfl rfl rfl rfl ⟨rfl, rfl, rfl, rfl, rfl⟩ rfl rfl rfl rfl rfl (by kernel_rfl) Try.func6 (by kernel_rfl)
    (of_decide_eq_true (by kernel_rfl)) (by unfold Func.isWrapper; first | (rw [if_pos (by decide +kernel)]; kernel_rfl) | (rw [if_neg (by decide +kernel)]; exact ⟨rfl, rfl⟩))
    (fun os started H enc _ => lifted os started H enc)
#print axioms proved

end Go.Proofs.Ytbnnigaepkpfbaa.NewRational
