/-
  The sum of a list of rationals (impl.SumRationals) answers as its model at every list: law FnExactSumRationals is true. No condition.
-/
import Derived.Test.YthghggnlfnbbgabRows
import Derived.Test.YthghggnlfnbbgabStep
import Derived.ChangeMaps5
import Derived.Test.YthghggnlfnbbgabRats
import Derived.Test.YthghggnlfnbbgabSumRationalsW
namespace Go.Proofs.Ythghggnlfnbbgab.SumRationals
open Go.ChangeShapes Go.WideShapes Go.ChangeAt Go.RowKit
open Go.ChangeMaps (open_string)
open Go.Proofs.Ythghggnlfnbbgab.SumRationalsW
set_option linter.unusedVariables false

theorem own : ownKnob Try.prog.godebug = none := by kernel_rfl
theorem laidOut : laidOutB Try.prog = true := by kernel_rfl

set_option maxRecDepth 100000 in
theorem lifted (os : Os) (started : os.Started) (H : Type) (enc : TypeId × Value → H) :
    ReturnsInHanded {} Try.checked os 3 .any (Rows.fnExactSumRationalsSpec.pre6 enc Try.prog Try.f3 Rows.fnExactSumRationalsRow.domain false) (Rows.fnExactSumRationalsSpec.post enc Try.prog Try.f3 false true false false) := by
  refine returnsInHanded_of_change (C := Try.checked) own started (by kernel_rfl) Try.func3
    (ChangeSpec.witness6 (enc := enc) (C := Try.checked) false ⟨#[], #[.slice none 0 0], []⟩ 8 (by kernel_rfl) (by kernel_rfl) (by kernel_rfl) (by kernel_rfl)) ?_
  intro W base args ds gs before hval0 hW hcnd _
  have hval : ∀ (j : Nat) t v, Try.f3.params[j]? = some t → args[j]? = some v → Value.okWide Try.prog W .any 0 t v := fun j t v h1 h2 => (hval0 j t v h1 h2)
  have hW' := hW
  obtain ⟨p, q, hA0, hV, rfl, hfz, hnd⟩ := hW
  have hA : DataW.TrodAll enc Try.prog W 0 (fun _ => true) true Try.f3.params.toList args.toList ds p := hA0
  rw [Try.params3] at hA hval
  obtain ⟨v0, vs0, d0, ds0, p0, q0, hargs, rfl, rfl, h0, r0⟩ := trodAll_cons hA
  obtain ⟨rfl, rfl, rfl⟩ := trodAll_nil r0
  obtain rfl : args = #[v0] := by cases args; simp_all
  have hend : ∀ W', Below W.heap.size W W' → Rows.fnExactSumRationalsSpec.post enc Try.prog Try.f3 false true false false W #[v0] (.bool true) W' := fun W' hb =>
    Step.post_true laidOut (by kernel_rfl) (by rfl) Try.underlying4 hW' rfl rfl rfl rfl hb
  obtain ⟨a0, x0, cap0, rfl, hn0, hr0⟩ := Rats.open_sl Try.underlying22 Rats.opn_rats (hval 0 22 v0 rfl rfl) h0
  refine (walk a0 cap0 x0 hn0 W hr0).mono fun e W' ⟨he, bel⟩ => ?_
  subst he
  exact ⟨_, rfl, hend W' bel⟩

theorem proved : Rows.FnExactSumRationalsSaid :=
  OpenClaim.holds_of_wide 3 Try.f3 rfl rfl rfl rfl rfl rfl rfl ⟨rfl, rfl, rfl, rfl, rfl⟩ rfl rfl rfl rfl rfl (by kernel_rfl) Try.func3 (by kernel_rfl)
    (of_decide_eq_true (by kernel_rfl)) (by unfold Func.isWrapper; first | (rw [if_pos (by decide +kernel)]; kernel_rfl) | (rw [if_neg (by decide +kernel)]; exact ⟨rfl, rfl⟩))
    (fun os started H enc _ => lifted os started H enc)
#print axioms proved

end Go.Proofs.Ythghggnlfnbbgab.SumRationals
