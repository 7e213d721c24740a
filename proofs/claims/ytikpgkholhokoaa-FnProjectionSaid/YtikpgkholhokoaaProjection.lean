/-
  At every code the law of projections holds: a projection is the model's, has no more rows and none just where there were none, and the projection to all columns is the relation.
-/
import Derived.Test.YtikpgkholhokoaaRows
import Derived.Test.YtikpgkholhokoaaStep
import Derived.ChangeMaps5
import Derived.Test.YtikpgkholhokoaaCodeArg
import Derived.Test.YtikpgkholhokoaaProjectionW
namespace Go.Proofs.Ytikpgkholhokoaa.Projection
open Go.ChangeShapes Go.WideShapes Go.ChangeAt Go.RowKit
open Go.ChangeMaps (open_string)
open Go.Proofs.Ytikpgkholhokoaa.ProjectionW
set_option linter.unusedVariables false

theorem own : ownKnob Try.prog.godebug = none := by kernel_rfl
theorem laidOut : laidOutB Try.prog = true := by kernel_rfl

theorem cellsByte : Try.prog.cellsOf 5 = 1 := by kernel_rfl

set_option maxRecDepth 100000 in
theorem lifted (os : Os) (started : os.Started) (H : Type) (enc : TypeId × Value → H) :
    ReturnsInHanded {} Try.checked os 3 .any (Rows.fnProjectionSpec.pre6 enc Try.prog Try.f3 Rows.fnProjectionRow.domain false) (Rows.fnProjectionSpec.post enc Try.prog Try.f3 false true false false) := by
  refine returnsInHanded_of_change (C := Try.checked) own started (by kernel_rfl) Try.func3
    (ChangeSpec.witness6 (enc := enc) (C := Try.checked) false ⟨#[], #[.slice none 0 0], []⟩ 8 (by kernel_rfl) (by kernel_rfl) (by kernel_rfl) (by kernel_rfl)) ?_
  intro W base args ds gs before hval0 hW hcnd _
  have hval : ∀ (j : Nat) t v, Try.f3.params[j]? = some t → args[j]? = some v → Value.okWide Try.prog W .any 0 t v := fun j t v h1 h2 => (hval0 j t v h1 h2)
  have hW' := hW
  obtain ⟨p, q, hA0, hV, rfl, hfz, hnd⟩ := hW
  have hA : DataW.TrodAll enc Try.prog W 0 (fun _ => true) true Try.f3.params.toList args.toList ds p := hA0
  rw [Try.params3] at hA hval
  obtain ⟨v0, vs0, d0, ds0, p0, q0, hargs, rfl, rfl, h0, r0⟩ := trodAll_cons hA
  obtain ⟨rfl, rfl, rfl⟩ := trodAll_nil r0
  obtain rfl : args = #[v0] := by cases args; simp_all
  have hend : ∀ W', Below W.heap.size W W' → Rows.fnProjectionSpec.post enc Try.prog Try.f3 false true false false W #[v0] (.bool true) W' := fun W' hb =>
    Step.post_true laidOut (by kernel_rfl) (by rfl) Try.underlying4 hW' rfl rfl rfl rfl hb
  rcases CodeArg.open_code Try.underlying22 Try.underlying5 cellsByte (hval 0 22 v0 rfl rfl) h0 with ⟨l, hl, hc⟩ | ⟨a, n, cap, rfl, h1, h2⟩
  · refine (walk W v0 l hl hc).mono fun e W' ⟨he, bel⟩ => ?_
    subst he
    exact ⟨_, rfl, hend W' bel⟩
  · refine (walk_big W a n cap h1 h2).mono fun e W' ⟨he, bel⟩ => ?_
    subst he
    exact ⟨_, rfl, hend W' bel⟩

theorem proved : Rows.FnProjectionSaid :=
  OpenClaim.holds_of_wide 3 Try.f3 rfl rfl rfl rfl rfl rfl rfl ⟨rfl, rfl, rfl, rfl, rfl⟩ rfl rfl rfl rfl rfl (by kernel_rfl) Try.func3 (by kernel_rfl)
    (of_decide_eq_true (by kernel_rfl)) (by unfold Func.isWrapper; first | (rw [if_pos (by decide +kernel)]; kernel_rfl) | (rw [if_neg (by decide +kernel)]; exact ⟨rfl, rfl⟩))
    (fun os started H enc _ => lifted os started H enc)
#print axioms proved

end Go.Proofs.Ytikpgkholhokoaa.Projection
