/-
  The format of big integers (impl.FormatBigInt) answers as its model at every big integer, and turns nothing of its argument: law FnExactFormatBigInt is true. No condition.
-/
import Derived.Test.YtanfakpeongfjaaRows
import Derived.Test.YtanfakpeongfjaaStep
import Derived.Test.YtanfakpeongfjaaBigArg
import Derived.Test.YtanfakpeongfjaaFormatBigIntW
namespace Go.Proofs.Ytanfakpeongfjaa.FormatBigInt
open Go.ChangeShapes Go.WideShapes Go.ChangeAt Go.RowKit
open Go.Proofs.Ytanfakpeongfjaa.FormatBigIntW
set_option linter.unusedVariables false

theorem own : ownKnob Try.prog.godebug = none := by kernel_rfl
theorem laidOut : laidOutB Try.prog = true := by kernel_rfl

theorem bigCells : Try.prog.cellsOf 47 = 1 := by kernel_rfl
theorem rowCells : Try.prog.cellsOf 32 = 1 := by kernel_rfl
theorem intCells : Try.prog.cellsOf 3 = 1 := by kernel_rfl

set_option maxRecDepth 100000 in
theorem lifted (os : Os) (started : os.Started) (H : Type) (enc : TypeId × Value → H) :
    ReturnsInHanded {} Try.checked os 12 .any (Rows.fnExactFormatBigIntSpec.pre6 enc Try.prog Try.f12 Rows.fnExactFormatBigIntRow.domain false) (Rows.fnExactFormatBigIntSpec.post enc Try.prog Try.f12 false true false false) := by
  refine returnsInHanded_of_change (C := Try.checked) own started (by kernel_rfl) Try.func12
    (ChangeSpec.witness6 (enc := enc) (C := Try.checked) false ⟨#[], #[.agg #[.slice none 0 0]], []⟩ 8 (by kernel_rfl) (by kernel_rfl) (by kernel_rfl) (by kernel_rfl)) ?_
  intro W base args ds gs before hval0 hW hcnd _
  have hval : ∀ (j : Nat) t v, Try.f12.params[j]? = some t → args[j]? = some v → Value.okWide Try.prog W .any 0 t v := fun j t v h1 h2 => (hval0 j t v h1 h2)
  have hW' := hW
  obtain ⟨p, q, hA0, hV, rfl, hfz, hnd⟩ := hW
  have hA : DataW.TrodAll enc Try.prog W 0 (fun _ => true) true Try.f12.params.toList args.toList ds p := hA0
  rw [Try.params12] at hA hval
  obtain ⟨v0, vs0, d0, ds0, p0, q0, hargs, rfl, rfl, h0, r0⟩ := trodAll_cons hA
  obtain ⟨rfl, rfl, rfl⟩ := trodAll_nil r0
  obtain rfl : args = #[v0] := by cases args; simp_all
  have hend : ∀ W', Below W.heap.size W W' → Rows.fnExactFormatBigIntSpec.post enc Try.prog Try.f12 false true false false W #[v0] (.bool true) W' := fun W' hb =>
    Step.post_true laidOut (by kernel_rfl) (by rfl) Try.underlying4 hW' rfl rfl rfl rfl hb
  obtain ⟨a0, n0, cap0, rfl, hn0, xs0, hl0, hr0⟩ := BigArg.open_big Try.underlying47 rfl bigCells Try.underlying32 rowCells Try.underlying3 intCells (hval 0 47 v0 rfl rfl) h0
  refine (walk a0 n0 cap0 hn0 xs0 hl0 W hr0).mono fun e W' ⟨he, bel⟩ => ?_
  subst he
  exact ⟨_, rfl, hend W' bel⟩

theorem proved : Rows.FnExactFormatBigIntSaid :=
  OpenClaim.holds_of_wide 12 Try.f12 rfl rfl rfl rfl rfl rfl rfl ⟨rfl, rfl, rfl, rfl, rfl⟩ rfl rfl rfl rfl rfl (by kernel_rfl) Try.func12 (by kernel_rfl)
    (of_decide_eq_true (by kernel_rfl)) (by unfold Func.isWrapper; first | (rw [if_pos (by decide +kernel)]; kernel_rfl) | (rw [if_neg (by decide +kernel)]; exact ⟨rfl, rfl⟩))
    (fun os started H enc _ => lifted os started H enc)
#print axioms proved

end Go.Proofs.Ytanfakpeongfjaa.FormatBigInt
