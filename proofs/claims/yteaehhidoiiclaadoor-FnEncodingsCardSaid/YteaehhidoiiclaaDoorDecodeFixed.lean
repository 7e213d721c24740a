/- Contracts: taken by program (wip/tools/contracts.py) out of the law's template of this name. -/
import Derived.Test.YteaehhidoiiclaaDoorRows
import Derived.Test.YteaehhidoiiclaaDoorNum
import Derived.WalkKit
import Derived.ProofKit
import Derived.OpenShut
import Derived.ShutString
import Derived.IntWalk
import Derived.BigQuiet
import Derived.Deep.QuietTactic
namespace Go.Proofs.YteaehhidoiiclaaDoor.DecodeFixed
open Go.ChangeShapes Go.WideShapes Go.ChangeAt Go.RowKit
open Go.ChangeMaps (open_string shut_string)
open Go.Proofs.YteaehhidoiiclaaDoor.Num
set_option linter.unusedVariables false

theorem impl_no (s : ByteArray) (k : Int) (w : World) (hs : s.size ≤ maxLen) (h : k < 1 ∨ 7 < k ∨ (s.size : Int) < k) :
    Calls Tryd.prog 12 #[.string s, .int .i64 k] w fun e w' => e = .returned (.tuple #[.int .i64 0, .bool false]) ∧ w = w' := by
  unfold maxLen at hs
  rcases (by omega : k < 1 ∨ 7 < k ∨ (1 ≤ k ∧ k ≤ 7 ∧ (s.size : Int) < k)) with h | h | ⟨h1, h2, h3⟩ <;>
  · go_enter Tryd.func12, Tryd.ntmps12
    go_wp2
    go_ret2
    exact ⟨rfl, rfl⟩

theorem impl_yes (s : ByteArray) (k : Nat) (w : World) (hs : s.size ≤ maxLen) (h1 : 1 ≤ k) (h2 : k ≤ 7) (h3 : k ≤ s.size) :
    Calls Tryd.prog 12 #[.string s, .int .i64 k] w fun e w' => e = .returned (.tuple #[.int .i64 (decB (s.data.toList.take k)), .bool true]) ∧ w = w' := by
  unfold maxLen at hs
  go_enter Tryd.func12, Tryd.ntmps12
  go_wp2
  go_loop [6, 18] (fun n i => ∃ j : Nat, j ≤ k ∧ i = .int .i64 j ∧ n = .int .i64 (decB (s.data.toList.take j))) (fun _ i => k - (intOf i).toNat)
  case atStart => exact ⟨0, Nat.zero_le _, rfl, rfl⟩
  case round =>
    obtain ⟨j, hj, rfl, rfl⟩ := hrel
    have d0 := decB_nonneg (s.data.toList.take j)
    by_cases hlt : j < k
    · have hjs : j < s.size := by omega
      have d1 := decB_small (s.data.toList.take j) (by simp; omega)
      have hsn := hid (show decB (s.data.toList.take (j + 1)) = decB (s.data.toList.take j) * 256 + (s[j].toNat : Int) by rw [take_snoc s j hjs, decB_snoc])
      have hb := s[j].toNat_lt
      go_wp2
      go_round
      case rel => exact ⟨j + 1, by omega, by go_num, by rw [hsn.out, or256 _ _ d0 (by omega) (by omega) d1]⟩
      case measure => simp [intOf]; omega
    · go_wp2
      go_ret2
      have e : j = k := by omega
      subst e
      exact ⟨rfl, rfl⟩

end Go.Proofs.YteaehhidoiiclaaDoor.DecodeFixed
