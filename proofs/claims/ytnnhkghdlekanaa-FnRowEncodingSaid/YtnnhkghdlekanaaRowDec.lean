/- The values of codes (DecodeValue, DecodeRow), the program's and the model's. -/
import Derived.Test.YtnnhkghdlekanaaRows
import Derived.Test.YtnnhkghdlekanaaNum
import Derived.Test.YtnnhkghdlekanaaRow
import Derived.Test.YtnnhkghdlekanaaIntRow
import Derived.Test.YtnnhkghdlekanaaIntLaw
import Derived.Test.YtnnhkghdlekanaaVals
import Derived.WalkKit
import Derived.IntWalk
import Derived.BigQuiet
import Derived.Deep.QuietTactic
namespace Go.Proofs.Ytnnhkghdlekanaa.RowDec
open Go.RowKit
open Go.Proofs.Ytnnhkghdlekanaa.Num Go.Proofs.Ytnnhkghdlekanaa.IntRow Go.Proofs.Ytnnhkghdlekanaa.IntLaw Go.Proofs.Ytnnhkghdlekanaa.Vals
set_option linter.unusedVariables false

/-- The ints that a code's bytes stand for, valid or not. -/
def decr (s : ByteArray) : List Int := s.data.toList.map fun c => ((c.toNat : Nat) : Int) - 1
theorem decr_length (s : ByteArray) : (decr s).length = s.size := by simp [decr]
theorem decr_at (s : ByteArray) (k : Nat) (h : k < s.size) (h' : k < (decr s).length) : (decr s)[k] = ((s[k].toNat : Nat) : Int) - 1 := by
  simp [decr]
  rfl

theorem in_yes (a b c : Int) (w : World) (h1 : b ≤ a) (h2 : a ≤ c) :
    Calls Try.prog 39 #[.int .i64 a, .int .i64 b, .int .i64 c] w fun e w' => e = .returned (.bool true) ∧ w = w' := by
  go_enter Try.func39, Try.ntmps39
  go_wp2
  go_ret
  exact ⟨rfl, rfl⟩
theorem in_no (a b c : Int) (w : World) (h : a < b ∨ c < a) :
    Calls Try.prog 39 #[.int .i64 a, .int .i64 b, .int .i64 c] w fun e w' => e = .returned (.bool false) ∧ w = w' := by
  rcases (by omega : ¬ b ≤ a ∨ (b ≤ a ∧ ¬ a ≤ c)) with h | ⟨h0, h⟩ <;>
  · go_enter Try.func39, Try.ntmps39
    go_wp2
    go_ret
    exact ⟨rfl, rfl⟩

theorem spec_dv_out (s : ByteArray) (k : Int) (w : World) (hs : s.size ≤ 1048576) (h : k < 0 ∨ (s.size : Int) ≤ k) :
    Calls Try.prog 25 #[.string s, .int .i64 k] w fun e w' => e = .returned (.tuple #[.int .i64 0, .bool false]) ∧ w = w' := by
  have I := hid (in_no k 0 ((s.size : Int) - 1) w (by omega))
  clear h
  go_enter Try.func25, Try.ntmps25
  go_wp2_with fail
  refine I.out.mono ?_
  rintro e w' ⟨rfl, rfl⟩
  go_wp2_with fail
  go_ret2
  exact ⟨rfl, rfl⟩
theorem spec_dv_in (s : ByteArray) (k : Nat) (b : Bool) (z : Int) (w : World) (hs : s.size ≤ 1048576) (h : k < s.size) (hb : okv (((s[k].toNat : Nat) : Int) - 1) = b) (hz : z = bif b then ((s[k].toNat : Nat) : Int) - 1 else 0) :
    Calls Try.prog 25 #[.string s, .int .i64 k] w fun e w' => e = .returned (.tuple #[.int .i64 z, .bool b]) ∧ w = w' := by
  have I := hid (in_yes (k : Int) 0 ((s.size : Int) - 1) w (by omega) (by omega))
  have V := hid (in_val_is (((s[k].toNat : Nat) : Int) - 1) b w hb)
  have hlt := s[k].toNat_lt
  have h0 : (0 : Int) ≤ (k : Int) := by omega
  have h1 : (k : Int) < (s.size : Int) := by omega
  clear hb
  cases b with
  | false =>
    have hz' : z = 0 := hz
    subst hz'
    clear hz
    go_enter Try.func25, Try.ntmps25
    go_wp2_with fail
    refine I.out.mono ?_
    rintro e w' ⟨rfl, rfl⟩
    go_wp2_with fail
    refine V.out.mono ?_
    rintro e w' ⟨rfl, rfl⟩
    go_wp2_with fail
    go_ret2
    exact ⟨rfl, rfl⟩
  | true =>
    have hz' : z = ((s[k].toNat : Nat) : Int) - 1 := hz
    subst hz'
    clear hz
    go_enter Try.func25, Try.ntmps25
    go_wp2_with fail
    refine I.out.mono ?_
    rintro e w' ⟨rfl, rfl⟩
    go_wp2_with fail
    refine V.out.mono ?_
    rintro e w' ⟨rfl, rfl⟩
    go_wp2_with fail
    go_ret2
    exact ⟨rfl, rfl⟩

theorem impl_dv_out (s : ByteArray) (k : Int) (w : World) (hs : s.size ≤ 1048576) (h : k < 0 ∨ (s.size : Int) ≤ k) :
    Calls Try.prog 21 #[.string s, .int .i64 k] w fun e w' => e = .returned (.tuple #[.int .i64 0, .bool false]) ∧ w = w' := by
  rcases (by omega : k < 0 ∨ (¬ k < 0 ∧ (s.size : Int) ≤ k)) with h | ⟨h0, h⟩ <;>
  · go_enter Try.func21, Try.ntmps21
    go_wp2
    go_ret2
    exact ⟨rfl, rfl⟩
theorem impl_dv_in (s : ByteArray) (k : Nat) (b : Bool) (z : Int) (w : World) (hs : s.size ≤ 1048576) (h : k < s.size) (hb : okv (((s[k].toNat : Nat) : Int) - 1) = b) (hz : z = bif b then ((s[k].toNat : Nat) : Int) - 1 else 0) :
    Calls Try.prog 21 #[.string s, .int .i64 k] w fun e w' => e = .returned (.tuple #[.int .i64 z, .bool b]) ∧ w = w' := by
  have V := hid (is_val_is (((s[k].toNat : Nat) : Int) - 1) b w hb)
  have hlt := s[k].toNat_lt
  have h0 : (0 : Int) ≤ (k : Int) := by omega
  have h1 : (k : Int) < (s.size : Int) := by omega
  clear hb
  cases b with
  | false =>
    have hz' : z = 0 := hz
    subst hz'
    clear hz
    go_enter Try.func21, Try.ntmps21
    go_wp2_with fail
    refine V.out.mono ?_
    rintro e w' ⟨rfl, rfl⟩
    go_wp2_with fail
    go_ret2
    exact ⟨rfl, rfl⟩
  | true =>
    have hz' : z = ((s[k].toNat : Nat) : Int) - 1 := hz
    subst hz'
    clear hz
    go_enter Try.func21, Try.ntmps21
    go_wp2_with fail
    refine V.out.mono ?_
    rintro e w' ⟨rfl, rfl⟩
    go_wp2_with fail
    go_ret2
    exact ⟨rfl, rfl⟩
end Go.Proofs.Ytnnhkghdlekanaa.RowDec
