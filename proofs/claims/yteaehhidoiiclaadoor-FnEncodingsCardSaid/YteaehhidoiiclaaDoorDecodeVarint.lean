/- Contracts: taken by program (wip/tools/contracts.py) out of the law's template of this name. -/
import Derived.Test.YteaehhidoiiclaaDoorRows
import Derived.Test.YteaehhidoiiclaaDoorNum
import Derived.Test.YteaehhidoiiclaaDoorVar
import Derived.Test.YteaehhidoiiclaaDoorEncodeVarint
import Derived.WalkKit
import Derived.ProofKit
import Derived.OpenShut
import Derived.ShutString
import Derived.IntWalk
import Derived.BigQuiet
import Derived.Deep.QuietTactic
import Derived.Deep.RegionWith
namespace Go.Proofs.YteaehhidoiiclaaDoor.DecodeVarint
open Go.ChangeShapes Go.WideShapes Go.ChangeAt Go.RowKit
open Go.ChangeMaps (open_string shut_string)
open Go.Proofs.YteaehhidoiiclaaDoor.Num Go.Proofs.YteaehhidoiiclaaDoor.Row Go.Proofs.YteaehhidoiiclaaDoor.Var
set_option linter.unusedVariables false

/-- How a decoder ends: with the answer; nothing else has turned below block number B. -/
def Post (s : ByteArray) (B : Nat) (w : World) (e : Ending) (w' : World) : Prop :=
  ∃ x k : Nat, SAns s x k ∧ e = .returned (.tuple #[.int .i64 x, .int .i64 k]) ∧ Below B w w'

theorem post_of {s : ByteArray} {B x k : Nat} {w w' : World} {a b : Int} (h : SAns s x k) (ha : a = (x : Int)) (hb : b = (k : Int)) (hw : Below B w w') :
    Post s B w (.returned (.tuple #[.int .i64 a, .int .i64 b])) w' := by
  subst ha hb
  exact ⟨x, k, h, rfl, hw⟩

set_option maxRecDepth 100000 in
theorem impl_any (s : ByteArray) (w : World) (hs : s.size ≤ 1048576) :
    Calls Tryd.prog 10 #[.string s] w fun e w' => Post s w.heap.size w e w' := by
  go_enter Tryd.func10, Tryd.ntmps10
  go_wp2
  go_loop [4, 5] (fun n i => ∃ k : Nat, k ≤ 7 ∧ k ≤ s.size ∧ Hid (High s k) ∧ i = .int .i64 k ∧ n = .int .i64 (sval s k : Nat)) (fun _ i => 8 - (intOf i).toNat)
  case atStart => exact ⟨0, Nat.zero_le _, Nat.zero_le _, hid (high_zero s), rfl, by rw [sval_zero]; rfl⟩
  case round =>
    obtain ⟨k, hk7, hks, hh, rfl, rfl⟩ := hrel
    by_cases hlt : k < s.size
    · go_wp2
      · have hc : 128 ≤ ((s[k].toNat : Nat) : Int) := by assumption
        have h7 : (k : Int) < 7 := by assumption
        go_round
        case rel => exact ⟨k + 1, by omega, by omega, hid (high_more s k hlt hh.out hc), by go_num, by rw [sval_or s k hlt (by omega)]⟩
        case measure => simp [intOf]; omega
      · have hc : ((s[k].toNat : Nat) : Int) < 128 := by assumption
        have h7 : (k : Int) < 7 := by assumption
        have hz : ((s[k].toNat : Nat) : Int) % 128 = 0 := by assumption
        have h0 : 0 < k := by assumption
        go_ret2
        exact post_of (sans_zero s k hlt (by omega) hh.out hc hz h0) rfl rfl (Below.refl _ _)
      · have hc : ((s[k].toNat : Nat) : Int) < 128 := by assumption
        have h7 : (k : Int) < 7 := by assumption
        have hz : ((s[k].toNat : Nat) : Int) % 128 = 0 := by assumption
        have h0 : ¬ 0 < k := by assumption
        go_ret2
        refine post_of (sans_some s k hlt (by omega) hh.out hc (by omega)) ?_ (by omega) (Below.refl _ _)
        have := sval_or s k hlt (by omega)
        rw [hz, Int.zero_mul] at this
        exact this
      · have hc : ((s[k].toNat : Nat) : Int) < 128 := by assumption
        have h7 : (k : Int) < 7 := by assumption
        have hz : ¬ ((s[k].toNat : Nat) : Int) % 128 = 0 := by assumption
        go_ret2
        exact post_of (sans_some s k hlt (by omega) hh.out hc (Or.inr hz)) (sval_or s k hlt (by omega)) (by omega) (Below.refl _ _)
      · have h7 : 7 ≤ (k : Int) := by assumption
        go_ret2
        exact post_of (sans_stop s k (by omega) hk7 hh.out) rfl rfl (Below.refl _ _)
    · go_wp2
      go_ret2
      exact post_of (sans_stop s k (by omega) hk7 hh.out) rfl rfl (Below.refl _ _)

end Go.Proofs.YteaehhidoiiclaaDoor.DecodeVarint
