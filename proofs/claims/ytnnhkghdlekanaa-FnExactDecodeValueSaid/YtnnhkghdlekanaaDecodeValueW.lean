/- The walk of law FnExactDecodeValue, at every string and offset. -/
import Derived.Test.YtnnhkghdlekanaaRows
import Derived.Test.YtnnhkghdlekanaaRowDec
namespace Go.Proofs.Ytnnhkghdlekanaa.DecodeValueW
open Go.RowKit
open Go.Proofs.Ytnnhkghdlekanaa.Num Go.Proofs.Ytnnhkghdlekanaa.Vals Go.Proofs.Ytnnhkghdlekanaa.RowDec
set_option linter.unusedVariables false

theorem core (s : ByteArray) (k : Int) (z : Int) (b : Bool) (w : World) (hs : s.size ≤ 1048576)
    (S : RowKit.Hid (∀ w, Calls Try.prog 25 #[.string s, .int .i64 k] w fun e w' => e = .returned (.tuple #[.int .i64 z, .bool b]) ∧ w = w'))
    (I : RowKit.Hid (∀ w, Calls Try.prog 21 #[.string s, .int .i64 k] w fun e w' => e = .returned (.tuple #[.int .i64 z, .bool b]) ∧ w = w')) :
    Calls Try.prog 5 #[.string s, .int .i64 k] w fun e w' => e = .returned (.bool true) ∧ Below w.heap.size w w' := by
  have h1 : ¬ (1048576 : Int) < (s.size : Int) := by omega
  have hz : (z != z) = false := by simp
  have hb : (b != b) = false := by simp
  go_enter Try.func5, Try.ntmps5
  go_wp2_with fail
  refine (S.out _).mono ?_
  rintro e w1 ⟨rfl, rfl⟩
  go_wp2_with fail
  refine (I.out _).mono ?_
  rintro e w2 ⟨rfl, rfl⟩
  go_wp2_with fail
  go_ret
  exact ⟨rfl, Below.refl _ _⟩

theorem walk (s : ByteArray) (hs : s.size ≤ maxLen) (k : Int) (h : -9223372036854775808 ≤ k ∧ k ≤ 9223372036854775807) (w : World) :
    Calls Try.prog 5 #[.string s, .int .i64 k] w fun e w' => e = .returned (.bool true) ∧ Below w.heap.size w w' := by
  by_cases hb : 1048576 < s.size
  · have hb' : (1048576 : Int) < (s.size : Int) := by omega
    unfold maxLen at hs
    go_enter Try.func5, Try.ntmps5
    go_wp2
    go_ret
    exact ⟨rfl, Below.refl _ _⟩
  · by_cases ho : k < 0 ∨ (s.size : Int) ≤ k
    · exact core s k 0 false w (by omega) (hid fun w => spec_dv_out s k w (by omega) ho) (hid fun w => impl_dv_out s k w (by omega) ho)
    · obtain ⟨n, rfl⟩ := Int.eq_ofNat_of_zero_le (show 0 ≤ k by omega)
      have hn : n < s.size := by omega
      exact core s n _ _ w (by omega) (hid fun w => spec_dv_in s n _ _ w (by omega) hn rfl rfl) (hid fun w => impl_dv_in s n _ _ w (by omega) hn rfl rfl)
end Go.Proofs.Ytnnhkghdlekanaa.DecodeValueW
