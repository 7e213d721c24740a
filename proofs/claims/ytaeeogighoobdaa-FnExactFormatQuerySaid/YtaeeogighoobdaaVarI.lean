/- impl.VariableName at every int. -/
import Derived.Test.YtaeeogighoobdaaVarName
namespace Go.Proofs.Ytaeeogighoobdaa.VarI
open Go.RowKit
open Go.Proofs.Ytaeeogighoobdaa.Num Go.Proofs.Ytaeeogighoobdaa.VarName
set_option linter.unusedVariables false

theorem impl_var (v : Int) (w : World) : Calls Try.prog 75 #[.int .i64 v] w fun e w' => e = .returned (.string (vname v)) ∧ w = w' := by
  by_cases h : v < 0 ∨ 4 < v
  · have H := hid (vname_no h)
    have L := hid (fun W => isv_is v 5 false W (isv_no (by omega)))
    clear h
    go_enter Try.func75, Try.ntmps75
    go_wp2_with fail
    refine (L.out _).mono ?_
    rintro e w' ⟨rfl, rfl⟩
    go_wp2
    go_ret
    exact ⟨by rw [H.out]; rfl, rfl⟩
  · rcases (by omega : v = 0 ∨ v = 1 ∨ v = 2 ∨ v = 3 ∨ v = 4) with rfl | rfl | rfl | rfl | rfl <;>
    · go_enter Try.func75, Try.ntmps75
      go_wp2_with fail
      refine (isv_is _ 5 true _ (by decide)).mono ?_
      rintro e w' ⟨rfl, rfl⟩
      go_wp2
      go_ret
      exact ⟨by rfl, rfl⟩
end Go.Proofs.Ytaeeogighoobdaa.VarI
