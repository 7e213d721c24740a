/- The range test of an unreduced part (impl.isUnreducedPart). -/
import Derived.Test.YtaiimjbdhcjobaaValid
namespace Go.Proofs.Ytaiimjbdhcjobaa.Part
open Go.ChangeShapes Go.WideShapes Go.ChangeAt Go.RowKit
open Go.Proofs.Ytaiimjbdhcjobaa.Num Go.Proofs.Ytaiimjbdhcjobaa.Rat Go.Proofs.Ytaiimjbdhcjobaa.Valid
set_option linter.unusedVariables false

theorem impl_part (x : Int) (w : World) : Calls Try.prog 177 #[.int .i64 x] w fun e w' => e = .returned (.bool (inR x (-4000000000000000000) 4000000000000000000)) ∧ w = w' := by
  by_cases h : -4000000000000000000 ≤ x
  · by_cases h2 : x ≤ 4000000000000000000
    · have H := hid (inR_mk h h2)
      go_enter Try.func177, Try.ntmps177
      go_wp2
      go_ret
      exact ⟨by rw [H.out]; rfl, rfl⟩
    · have H := hid (inR_not (lo := -4000000000000000000) (Or.inr (Int.not_le.1 h2)))
      go_enter Try.func177, Try.ntmps177
      go_wp2
      go_ret
      exact ⟨by rw [H.out]; rfl, rfl⟩
  · have H := hid (inR_not (hi := 4000000000000000000) (Or.inl (Int.not_le.1 h)))
    go_enter Try.func177, Try.ntmps177
    go_wp2
    go_ret
    exact ⟨by rw [H.out]; rfl, rfl⟩

theorem part_yes (x : Int) (w : World) (h : inR x (-4000000000000000000) 4000000000000000000 = true) : Calls Try.prog 177 #[.int .i64 x] w fun e w' => e = .returned (.bool true) ∧ w = w' := by
  have := impl_part x w; rw [h] at this; exact this
theorem part_no (x : Int) (w : World) (h : inR x (-4000000000000000000) 4000000000000000000 = false) : Calls Try.prog 177 #[.int .i64 x] w fun e w' => e = .returned (.bool false) ∧ w = w' := by
  have := impl_part x w; rw [h] at this; exact this

end Go.Proofs.Ytaiimjbdhcjobaa.Part
