/-
  The check of a bound (impl.IsWithinAGMBound) answers as its model at every list of sizes, every list of rationals and every int: law FnExactIsWithinAGMBound is true. No condition.
-/
import Derived.Test.YtaiimjbdhcjobaaRows
import Derived.Test.YtaiimjbdhcjobaaStep
import Derived.ChangeMaps5
import Derived.Test.YtaiimjbdhcjobaaIntsA
import Derived.Test.YtaiimjbdhcjobaaRats
import Derived.Test.YtaiimjbdhcjobaaIsWithinAGMBoundW
namespace Go.Proofs.Ytaiimjbdhcjobaa.IsWithinAGMBound
open Go.ChangeShapes Go.WideShapes Go.ChangeAt Go.RowKit
open Go.ChangeMaps (open_string)
open Go.Proofs.Ytaiimjbdhcjobaa.IsWithinAGMBoundW
set_option linter.unusedVariables false

theorem own : ownKnob Try.prog.godebug = none := by kernel_rfl
theorem laidOut : laidOutB Try.prog = true := by kernel_rfl

set_option maxRecDepth 100000 in
theorem lifted (os : Os) (started : os.Started) (H : Type) (enc : TypeId × Value → H) :
    ReturnsInHanded {} Try.checked os 11 .any (Rows.fnExactIsWithinAGMBoundSpec.pre6 enc Try.prog Try.f11 Rows.fnExactIsWithinAGMBoundRow.domain false) (Rows.fnExactIsWithinAGMBoundSpec.post enc Try.prog Try.f11 false true false false) := by
  refine returnsInHanded_of_change (C := Try.checked) own started (by kernel_rfl) Try.func11
    (ChangeSpec.witness6 (enc := enc) (C := Try.checked) false ⟨#[], #[.slice none 0 0, .slice none 0 0, .int .i64 0], []⟩ 8 (by kernel_rfl) (by kernel_rfl) (by kernel_rfl) (by kernel_rfl)) ?_
  intro W base args ds gs before hval0 hW hcnd _
  have hval : ∀ (j : Nat) t v, Try.f11.params[j]? = some t → args[j]? = some v → Value.okWide Try.prog W .any 0 t v := fun j t v h1 h2 => (hval0 j t v h1 h2)
  have hW' := hW
  obtain ⟨p, q, hA0, hV, rfl, hfz, hnd⟩ := hW
  have hA : DataW.TrodAll enc Try.prog W 0 (fun _ => true) true Try.f11.params.toList args.toList ds p := hA0
  rw [Try.params11] at hA hval
  obtain ⟨v0, vs0, d0, ds0, p0, q0, hargs, rfl, rfl, h0, r0⟩ := trodAll_cons hA
  obtain ⟨v1, vs1, d1, ds1, p1, q1, rfl, rfl, rfl, h1, r1⟩ := trodAll_cons r0
  obtain ⟨v2, vs2, d2, ds2, p2, q2, rfl, rfl, rfl, h2, r2⟩ := trodAll_cons r1
  obtain ⟨rfl, rfl, rfl⟩ := trodAll_nil r2
  obtain rfl : args = #[v0, v1, v2] := by cases args; simp_all
  have hend : ∀ W', Below W.heap.size W W' → Rows.fnExactIsWithinAGMBoundSpec.post enc Try.prog Try.f11 false true false false W #[v0, v1, v2] (.bool true) W' := fun W' hb =>
    Step.post_true laidOut (by kernel_rfl) (by rfl) Try.underlying4 hW' rfl rfl rfl rfl hb
  obtain ⟨a0, x0, cap0, rfl, hn0, hr0⟩ := Rats.open_sl Try.underlying42 IntsA.opn_ints (hval 0 42 v0 rfl rfl) h0
  obtain ⟨a1, x1, cap1, rfl, hn1, hr1⟩ := Rats.open_sl Try.underlying58 Rats.opn_rats (hval 1 58 v1 rfl rfl) h1
  obtain ⟨a2, rfl, rfl, rfl, w2⟩ := open_int Try.underlying3 (hval 2 3 v2 rfl rfl) h2
  refine (walk a0 cap0 x0 hn0 a1 cap1 x1 hn1 a2 (bounds_i64 w2) W hr0 hr1).mono fun e W' ⟨he, bel⟩ => ?_
  subst he
  exact ⟨_, rfl, hend W' bel⟩

theorem proved : Rows.FnExactIsWithinAGMBoundSaid :=
  OpenClaim.holds_of_wide 11 Try.f11 rfl rfl rfl rfl rfl rfl rfl ⟨rfl, rfl, rfl, rfl, rfl⟩ rfl rfl rfl rfl rfl (by kernel_rfl) Try.func11 (by kernel_rfl)
    (of_decide_eq_true (by kernel_rfl)) (by unfold Func.isWrapper; first | (rw [if_pos (by decide +kernel)]; kernel_rfl) | (rw [if_neg (by decide +kernel)]; exact ⟨rfl, rfl⟩))
    (fun os started H enc _ => lifted os started H enc)
#print axioms proved

end Go.Proofs.Ytaiimjbdhcjobaa.IsWithinAGMBound
