/- The walk of law FnExactIsValidName, at every argument. -/
import Derived.Test.YtnnoicabfpbemabNames
namespace Go.Proofs.Ytnnoicabfpbemab.IsValidNameW
open Go.RowKit
open Go.Proofs.Ytnnoicabfpbemab.Num Go.Proofs.Ytnnoicabfpbemab.Names
set_option linter.unusedVariables false

theorem walk (s0 : ByteArray) (hs0 : s0.size ≤ 9223372036854775807) (w : World) :
    Calls Try.prog 3 #[.string s0] w fun e w' => e = .returned (.bool true) ∧ Below w.heap.size w w' := by
  by_cases h : (1048576 : Int) < (s0.size : Int)
  · go_enter Try.func3, Try.ntmps3
    go_wp2
    go_ret
    exact ⟨rfl, Below.refl _ _⟩
  · obtain ⟨ok, hok⟩ : ∃ z, nameOk s0 = z := ⟨_, rfl⟩
    have S := hid (spec_name s0 w (by omega))
    have I := hid (impl_name s0 w (by omega))
    rw [hok] at S I
    have hne : (ok != ok) = false := by simp
    clear hok
    go_enter Try.func3, Try.ntmps3
    go_wp2_with fail
    refine S.out.mono ?_
    rintro e w2 ⟨rfl, rfl⟩
    go_wp2_with fail
    refine I.out.mono ?_
    rintro e w2 ⟨rfl, rfl⟩
    go_wp2
    go_ret
    exact ⟨rfl, Below.refl _ _⟩
end Go.Proofs.Ytnnoicabfpbemab.IsValidNameW
