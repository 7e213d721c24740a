/-
  The comparison of two bounds (impl.CompareAGMBounds) answers as its model at every list of sizes and every two lists of rationals: law FnExactCompareAGMBounds is true. No condition.
-/
import Derived.Test.YtaiimjbdhcjobaaRows
import Derived.Test.YtaiimjbdhcjobaaStep
import Derived.ChangeMaps5
import Derived.Test.YtaiimjbdhcjobaaIntsA
import Derived.Test.YtaiimjbdhcjobaaRats
import Derived.Test.YtaiimjbdhcjobaaCompareAGMBoundsW
namespace Go.Proofs.Ytaiimjbdhcjobaa.CompareAGMBounds
open Go.ChangeShapes Go.WideShapes Go.ChangeAt Go.RowKit
open Go.ChangeMaps (open_string)
open Go.Proofs.Ytaiimjbdhcjobaa.CompareAGMBoundsW
set_option linter.unusedVariables false

theorem own : ownKnob Try.prog.godebug = none := by kernel_rfl
theorem laidOut : laidOutB Try.prog = true := by kernel_rfl

set_option maxRecDepth 100000 in
theorem lifted (os : Os) (started : os.Started) (H : Type) (enc : TypeId × Value → H) :
    ReturnsInHanded {} Try.checked os 12 .any (Rows.fnExactCompareAGMBoundsSpec.pre6 enc Try.prog Try.f12 Rows.fnExactCompareAGMBoundsRow.domain false) (Rows.fnExactCompareAGMBoundsSpec.post enc Try.prog Try.f12 false true false false) := by
  refine returnsInHanded_of_change (C := Try.checked) own started (by kernel_rfl) Try.func12
    (ChangeSpec.witness6 (enc := enc) (C := Try.checked) false ⟨#[], #[.slice none 0 0, .slice none 0 0, .slice none 0 0], []⟩ 8 (by kernel_rfl) (by kernel_rfl) (by kernel_rfl) (by kernel_rfl)) ?_
  intro W base args ds gs before hval0 hW hcnd _
  have hval : ∀ (j : Nat) t v, Try.f12.params[j]? = some t → args[j]? = some v → Value.okWide Try.prog W .any 0 t v := fun j t v h1 h2 => (hval0 j t v h1 h2)
  have hW' := hW
  obtain ⟨p, q, hA0, hV, rfl, hfz, hnd⟩ := hW
  have hA : DataW.TrodAll enc Try.prog W 0 (fun _ => true) true Try.f12.params.toList args.toList ds p := hA0
  rw [Try.params12] at hA hval
  obtain ⟨v0, vs0, d0, ds0, p0, q0, hargs, rfl, rfl, h0, r0⟩ := trodAll_cons hA
  obtain ⟨v1, vs1, d1, ds1, p1, q1, rfl, rfl, rfl, h1, r1⟩ := trodAll_cons r0
  obtain ⟨v2, vs2, d2, ds2, p2, q2, rfl, rfl, rfl, h2, r2⟩ := trodAll_cons r1
  obtain ⟨rfl, rfl, rfl⟩ := trodAll_nil r2
  obtain rfl : args = #[v0, v1, v2] := by cases args; simp_all
  have hend : ∀ W', Below W.heap.size W W' → Rows.fnExactCompareAGMBoundsSpec.post enc Try.prog Try.f12 false true false false W #[v0, v1, v2] (.bool true) W' := fun W' hb =>
    Step.post_true laidOut (by kernel_rfl) (by rfl) Try.underlying4 hW' rfl rfl rfl rfl hb
  obtain ⟨a0, x0, cap0, rfl, hn0, hr0⟩ := Rats.open_sl Try.underlying42 IntsA.opn_ints (hval 0 42 v0 rfl rfl) h0
  obtain ⟨a1, x1, cap1, rfl, hn1, hr1⟩ := Rats.open_sl Try.underlying58 Rats.opn_rats (hval 1 58 v1 rfl rfl) h1
  obtain ⟨a2, x2, cap2, rfl, hn2, hr2⟩ := Rats.open_sl Try.underlying58 Rats.opn_rats (hval 2 58 v2 rfl rfl) h2
  refine (walk a0 cap0 x0 hn0 a1 cap1 x1 hn1 a2 cap2 x2 hn2 W hr0 hr1 hr2).mono fun e W' ⟨he, bel⟩ => ?_
  subst he
  exact ⟨_, rfl, hend W' bel⟩

theorem proved : Rows.FnExactCompareAGMBoundsSaid :=
  OpenClaim.holds_of_wide 12 Try.f12 rfl rfl rfl rfl rfl rfl rfl ⟨rfl, rfl, rfl, rfl, rfl⟩ rfl rfl rfl rfl rfl (by kernel_rfl) Try.func12 (by kernel_rfl)
    (of_decide_eq_true (by kernel_rfl)) (by unfold Func.isWrapper; first | (rw [if_pos (by decide +kernel)]; kernel_rfl) | (rw [if_neg (by decide +kernel)]; exact ⟨rfl, rfl⟩))
    (fun os started H enc _ => lifted os started H enc)
#print axioms proved

end Go.Proofs.Ytaiimjbdhcjobaa.CompareAGMBounds
