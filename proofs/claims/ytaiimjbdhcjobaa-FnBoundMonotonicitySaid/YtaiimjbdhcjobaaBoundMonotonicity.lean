/-
  The bound is monotone in the number of rows and the comparison of two bounds is antisymmetric, and both agree with their model, at whatever the draws give: law FnBoundMonotonicity is true. No condition.
-/
import Derived.Test.YtaiimjbdhcjobaaRows
import Derived.Test.YtaiimjbdhcjobaaStep
import Derived.ChangeMaps5
import Derived.Test.YtaiimjbdhcjobaaCodeArg
import Derived.Test.YtaiimjbdhcjobaaBoundMonotonicityW
namespace Go.Proofs.Ytaiimjbdhcjobaa.BoundMonotonicity
open Go.ChangeShapes Go.WideShapes Go.ChangeAt Go.RowKit
open Go.ChangeMaps (open_string)
open Go.Proofs.Ytaiimjbdhcjobaa.BoundMonotonicityW
set_option linter.unusedVariables false

theorem own : ownKnob Try.prog.godebug = none := by kernel_rfl
theorem laidOut : laidOutB Try.prog = true := by kernel_rfl

theorem cellsByte : Try.prog.cellsOf 5 = 1 := by kernel_rfl

set_option maxRecDepth 100000 in
theorem lifted (os : Os) (started : os.Started) (H : Type) (enc : TypeId × Value → H) :
    ReturnsInHanded {} Try.checked os 5 .any (Rows.fnBoundMonotonicitySpec.pre6 enc Try.prog Try.f5 Rows.fnBoundMonotonicityRow.domain false) (Rows.fnBoundMonotonicitySpec.post enc Try.prog Try.f5 false true false false) := by
  refine returnsInHanded_of_change (C := Try.checked) own started (by kernel_rfl) Try.func5
    (ChangeSpec.witness6 (enc := enc) (C := Try.checked) false ⟨#[], #[.slice none 0 0], []⟩ 8 (by kernel_rfl) (by kernel_rfl) (by kernel_rfl) (by kernel_rfl)) ?_
  intro W base args ds gs before hval0 hW hcnd _
  have hval : ∀ (j : Nat) t v, Try.f5.params[j]? = some t → args[j]? = some v → Value.okWide Try.prog W .any 0 t v := fun j t v h1 h2 => (hval0 j t v h1 h2)
  have hW' := hW
  obtain ⟨p, q, hA0, hV, rfl, hfz, hnd⟩ := hW
  have hA : DataW.TrodAll enc Try.prog W 0 (fun _ => true) true Try.f5.params.toList args.toList ds p := hA0
  rw [Try.params5] at hA hval
  obtain ⟨v0, vs0, d0, ds0, p0, q0, hargs, rfl, rfl, h0, r0⟩ := trodAll_cons hA
  obtain ⟨rfl, rfl, rfl⟩ := trodAll_nil r0
  obtain rfl : args = #[v0] := by cases args; simp_all
  have hend : ∀ W', Below W.heap.size W W' → Rows.fnBoundMonotonicitySpec.post enc Try.prog Try.f5 false true false false W #[v0] (.bool true) W' := fun W' hb =>
    Step.post_true laidOut (by kernel_rfl) (by rfl) Try.underlying4 hW' rfl rfl rfl rfl hb
  rcases CodeArg.open_code Try.underlying22 Try.underlying5 cellsByte (hval 0 22 v0 rfl rfl) h0 with ⟨l, hl, hc⟩ | ⟨a, n, cap, rfl, h1, h2⟩
  · refine (walk W v0 l hl hc).mono fun e W' ⟨he, bel⟩ => ?_
    subst he
    exact ⟨_, rfl, hend W' bel⟩
  · refine (walk_big W a n cap h1 h2).mono fun e W' ⟨he, bel⟩ => ?_
    subst he
    exact ⟨_, rfl, hend W' bel⟩

theorem proved : Rows.FnBoundMonotonicitySaid :=
  OpenClaim.holds_of_wide 5 Try.f5 rfl rfl rfl rfl rfl rfl rfl ⟨rfl, rfl, rfl, rfl, rfl⟩ rfl rfl rfl rfl rfl (by kernel_rfl) Try.func5 (by kernel_rfl)
    (of_decide_eq_true (by kernel_rfl)) (by unfold Func.isWrapper; first | (rw [if_pos (by decide +kernel)]; kernel_rfl) | (rw [if_neg (by decide +kernel)]; exact ⟨rfl, rfl⟩))
    (fun os started H enc _ => lifted os started H enc)
#print axioms proved

end Go.Proofs.Ytaiimjbdhcjobaa.BoundMonotonicity
