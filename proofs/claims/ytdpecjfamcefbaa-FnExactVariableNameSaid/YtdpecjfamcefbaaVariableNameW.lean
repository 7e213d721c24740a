/- The walk of law FnExactVariableName, at every int. -/
import Derived.Test.YtdpecjfamcefbaaVarName
namespace Go.Proofs.Ytdpecjfamcefbaa.VariableNameW
open Go.RowKit
open Go.Proofs.Ytdpecjfamcefbaa.Num Go.Proofs.Ytdpecjfamcefbaa.VarName
set_option linter.unusedVariables false

theorem walk (v : Int) (hv : -9223372036854775808 ≤ v ∧ v ≤ 9223372036854775807) (w : World) :
    Calls Try.prog 9 #[.int .i64 v] w fun e w' => e = .returned (.bool true) ∧ Below w.heap.size w w' := by
  obtain ⟨s, hs⟩ : ∃ s, vname v = s := ⟨_, rfl⟩
  have S := hid (spec_var v w)
  have I := hid (impl_var v w)
  rw [hs] at S I
  clear hs
  go_enter Try.func9, Try.ntmps9
  go_wp2_with fail
  refine S.out.mono ?_
  rintro e w2 ⟨rfl, rfl⟩
  go_wp2_with fail
  refine I.out.mono ?_
  rintro e w2 ⟨rfl, rfl⟩
  go_wp2
  go_ret
  exact ⟨rfl, Below.refl _ _⟩
end Go.Proofs.Ytdpecjfamcefbaa.VariableNameW
