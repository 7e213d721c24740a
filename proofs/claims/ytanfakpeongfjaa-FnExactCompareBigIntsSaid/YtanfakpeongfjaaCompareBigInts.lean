/-
  The comparison of big integers (impl.CompareBigInts) answers as its model at every two big integers, and turns nothing of its arguments: law FnExactCompareBigInts is true. No condition.
-/
import Derived.Test.YtanfakpeongfjaaRows
import Derived.Test.YtanfakpeongfjaaStep
import Derived.Test.YtanfakpeongfjaaBigArg
import Derived.Test.YtanfakpeongfjaaCompareBigIntsW
namespace Go.Proofs.Ytanfakpeongfjaa.CompareBigInts
open Go.ChangeShapes Go.WideShapes Go.ChangeAt Go.RowKit
open Go.Proofs.Ytanfakpeongfjaa.CompareBigIntsW
set_option linter.unusedVariables false

theorem own : ownKnob Try.prog.godebug = none := by kernel_rfl
theorem laidOut : laidOutB Try.prog = true := by kernel_rfl

theorem bigCells : Try.prog.cellsOf 47 = 1 := by kernel_rfl
theorem rowCells : Try.prog.cellsOf 32 = 1 := by kernel_rfl
theorem intCells : Try.prog.cellsOf 3 = 1 := by kernel_rfl

set_option maxRecDepth 100000 in
theorem lifted (os : Os) (started : os.Started) (H : Type) (enc : TypeId × Value → H) :
    ReturnsInHanded {} Try.checked os 11 .any (Rows.fnExactCompareBigIntsSpec.pre6 enc Try.prog Try.f11 Rows.fnExactCompareBigIntsRow.domain false) (Rows.fnExactCompareBigIntsSpec.post enc Try.prog Try.f11 false true false false) := by
  refine returnsInHanded_of_change (C := Try.checked) own started (by kernel_rfl) Try.func11
    (ChangeSpec.witness6 (enc := enc) (C := Try.checked) false ⟨#[], #[.agg #[.slice none 0 0], .agg #[.slice none 0 0]], []⟩ 8 (by kernel_rfl) (by kernel_rfl) (by kernel_rfl) (by kernel_rfl)) ?_
  intro W base args ds gs before hval0 hW hcnd _
  have hval : ∀ (j : Nat) t v, Try.f11.params[j]? = some t → args[j]? = some v → Value.okWide Try.prog W .any 0 t v := fun j t v h1 h2 => (hval0 j t v h1 h2)
  have hW' := hW
  obtain ⟨p, q, hA0, hV, rfl, hfz, hnd⟩ := hW
  have hA : DataW.TrodAll enc Try.prog W 0 (fun _ => true) true Try.f11.params.toList args.toList ds p := hA0
  rw [Try.params11] at hA hval
  obtain ⟨v0, vs0, d0, ds0, p0, q0, hargs, rfl, rfl, h0, r0⟩ := trodAll_cons hA
  obtain ⟨v1, vs1, d1, ds1, p1, q1, rfl, rfl, rfl, h1, r1⟩ := trodAll_cons r0
  obtain ⟨rfl, rfl, rfl⟩ := trodAll_nil r1
  obtain rfl : args = #[v0, v1] := by cases args; simp_all
  have hend : ∀ W', Below W.heap.size W W' → Rows.fnExactCompareBigIntsSpec.post enc Try.prog Try.f11 false true false false W #[v0, v1] (.bool true) W' := fun W' hb =>
    Step.post_true laidOut (by kernel_rfl) (by rfl) Try.underlying4 hW' rfl rfl rfl rfl hb
  obtain ⟨a0, n0, cap0, rfl, hn0, xs0, hl0, hr0⟩ := BigArg.open_big Try.underlying47 rfl bigCells Try.underlying32 rowCells Try.underlying3 intCells (hval 0 47 v0 rfl rfl) h0
  obtain ⟨a1, n1, cap1, rfl, hn1, xs1, hl1, hr1⟩ := BigArg.open_big Try.underlying47 rfl bigCells Try.underlying32 rowCells Try.underlying3 intCells (hval 1 47 v1 rfl rfl) h1
  refine (walk a0 n0 cap0 hn0 xs0 hl0 a1 n1 cap1 hn1 xs1 hl1 W hr0 hr1).mono fun e W' ⟨he, bel⟩ => ?_
  subst he
  exact ⟨_, rfl, hend W' bel⟩

theorem proved : Rows.FnExactCompareBigIntsSaid :=
  OpenClaim.holds_of_wide 11 Try.f11 rfl rfl rfl rfl rfl rfl rfl ⟨rfl, rfl, rfl, rfl, rfl⟩ rfl rfl rfl rfl rfl (by kernel_rfl) Try.func11 (by kernel_rfl)
    (of_decide_eq_true (by kernel_rfl)) (by unfold Func.isWrapper; first | (rw [if_pos (by decide +kernel)]; kernel_rfl) | (rw [if_neg (by decide +kernel)]; exact ⟨rfl, rfl⟩))
    (fun os started H enc _ => lifted os started H enc)
#print axioms proved

end Go.Proofs.Ytanfakpeongfjaa.CompareBigInts
