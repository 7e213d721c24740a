/- Contracts: taken by program (wip/tools/contracts.py) out of the law's template of this name. -/
import Derived.Test.YteaehhidoiiclaaDoorRows
import Derived.Test.YteaehhidoiiclaaDoorNum
import Derived.Test.YteaehhidoiiclaaDoorRow
import Derived.WalkKit
import Derived.ProofKit
import Derived.OpenShut
import Derived.ShutString
import Derived.IntWalk
import Derived.BigQuiet
import Derived.Deep.QuietTactic
namespace Go.Proofs.YteaehhidoiiclaaDoor.EncodeFixed
open Go.ChangeShapes Go.WideShapes Go.ChangeAt Go.RowKit
open Go.ChangeMaps (open_string shut_string)
open Go.Proofs.YteaehhidoiiclaaDoor.Num Go.Proofs.YteaehhidoiiclaaDoor.Row
set_option linter.unusedVariables false

theorem info : (Tryd.prog.info? 5).map (fun i => (i.zero, i.size, i.bytes)) = some (some (.int .u8 0), 1, 1) := by kernel_rfl

theorem l1in (a b c : Int) (w : World) (h1 : b ≤ a) (h2 : a ≤ c) :
    Calls Tryd.prog 36 #[.int .i64 a, .int .i64 b, .int .i64 c] w fun e w' => e = .returned (.bool true) ∧ w = w' := by
  go_enter Tryd.func36, Tryd.ntmps36
  go_wp2
  go_ret
  exact ⟨rfl, rfl⟩

theorem l1in_no (a b c : Int) (w : World) (h : a < b ∨ c < a) :
    Calls Tryd.prog 36 #[.int .i64 a, .int .i64 b, .int .i64 c] w fun e w' => e = .returned (.bool false) ∧ w = w' := by
  rcases (by omega : ¬ b ≤ a ∨ (b ≤ a ∧ ¬ a ≤ c)) with h | ⟨h0, h⟩ <;>
  · go_enter Tryd.func36, Tryd.ntmps36
    go_wp2
    go_ret
    exact ⟨rfl, rfl⟩

theorem width (a : Int) (w : World) (h1 : 1 ≤ a) (h2 : a ≤ 7) :
    Calls Tryd.prog 23 #[.int .i64 a] w fun e w' => e = .returned (.bool true) ∧ w = w' := by
  go_enter Tryd.func23, Tryd.ntmps23
  go_wp2
  go_ret
  exact ⟨rfl, rfl⟩

theorem width_no (a : Int) (w : World) (h : a < 1 ∨ 7 < a) :
    Calls Tryd.prog 23 #[.int .i64 a] w fun e w' => e = .returned (.bool false) ∧ w = w' := by
  rcases (by omega : ¬ 1 ≤ a ∨ (1 ≤ a ∧ ¬ a ≤ 7)) with h | ⟨h0, h⟩ <;>
  · go_enter Tryd.func23, Tryd.ntmps23
    go_wp2
    go_ret
    exact ⟨rfl, rfl⟩

/-- What both encoders answer at a width from 1 to 7 and a number that is not negative. -/
def fixS (n k : Nat) : ByteArray := if n / 256 ^ k = 0 then ⟨(fixB n k).toArray⟩ else ⟨#[]⟩

theorem pow_same (n k : Nat) : (n : Int) / 2 ^ (8 * k) = ((n / 256 ^ k : Nat) : Int) := by
  have e : (2 : Int) ^ (8 * k) = ((256 ^ k : Nat) : Int) := by
    rw [Int.pow_mul]
    simp
  rw [e]
  rfl

theorem impl_big (n k : Nat) (w : World) (hn : n ≤ 9223372036854775807) (h1 : 1 ≤ k) (h2 : k ≤ 7) (hb : ¬ n / 256 ^ k = 0) :
    Calls Tryd.prog 11 #[.int .i64 n, .int .i64 k] w fun e w' => e = .returned (.string (fixS n k)) ∧ Below w.heap.size w w' := by
  have hb1 : ((n : Int) / 2 ^ (8 * k) != 0) = true := by
    rw [pow_same]
    simp only [bne_iff_ne]
    omega
  have hfix := hid (show fixS n k = ⟨#[]⟩ by unfold fixS; rw [if_neg hb])
  clear hb
  go_enter Tryd.func11, Tryd.ntmps11
  go_wp2_with (go_at_call 23; refine (width _ _ (by omega) (by omega)).mono ?_; rintro e w' ⟨rfl, rfl⟩)
  go_ret
  exact ⟨by rw [hfix.out]; rfl, Below.refl _ _⟩

theorem impl_fits (n k : Nat) (w : World) (hn : n ≤ 9223372036854775807) (h1 : 1 ≤ k) (h2 : k ≤ 7) (hb : n / 256 ^ k = 0) :
    Calls Tryd.prog 11 #[.int .i64 n, .int .i64 k] w fun e w' => e = .returned (.string (fixS n k)) ∧ Below w.heap.size w w' := by
  obtain ⟨i0, hi, hz0, hz1, hz2⟩ := info_parts info
  have hb1 : ((n : Int) / 2 ^ (8 * k) != 0) = false := by
    rw [pow_same, hb]
    rfl
  have hfix := hid (show fixS n k = ⟨(fixB n k).toArray⟩ by unfold fixS; rw [if_pos hb])
  clear hb
  have hmk := make_bytes (P := Tryd.prog) w 22 5 i0 Tryd.underlying22 hi hz0 hz1 hz2 k k (by omega) (by omega) (by omega)
  simp only [Int.toNat_natCast, zrow_made] at hmk
  go_enter Tryd.func11, Tryd.ntmps11
  go_wp2_with (go_at_call 23; refine (width _ _ (by omega) (by omega)).mono ?_; rintro e w' ⟨rfl, rfl⟩)
  go_loopw [0, 6] (fun m i wr => ∃ (j p x : Nat) (z : Int), Hid (p + j = k) ∧ Hid (z = p - 1) ∧ x ≤ n ∧ m = .int .i64 x ∧ i = .int .i64 z ∧ Hid (x = n / 256 ^ j) ∧ wr = w.alloc (.cells (zrow p (fixB n j)) 5)) (fun _ i _ => (intOf i + 1).toNat)
  case atStart => exact ⟨0, k, n, _, hid rfl, hid rfl, Nat.le_refl _, rfl, rfl, hid (by simp), rfl⟩
  case round =>
    obtain ⟨j, p, x, z, hp, hz, hx, rfl, rfl, hxj, rfl⟩ := hrel
    have hpk := hp.out
    have hzp := hz.out
    rcases p with _ | q
    · obtain rfl : z = -1 := by omega
      obtain rfl : j = k := by omega
      have hcv := convert_block (P := Tryd.prog) w 22 5 9 Tryd.underlying22 Tryd.underlying5 Tryd.underlying9 (fixB n j) j j (fixB_length _ _)
      clear hpk hzp
      go_wp2
      go_ret
      refine ⟨?_, (Below.refl _ _).alloc (Nat.le_refl _) _⟩
      rw [hfix.out]
      rfl
    · obtain rfl : z = (q : Int) := by omega
      have hat := zrow_at q (fixB n j)
      have hset := zrow_set q (byteAt n j) (fixB n j)
      rw [byteAt_int n j x hxj.out] at hset
      have hq : q < k := by omega
      have hj : Hid (q + (j + 1) = k) := by show q + (j + 1) = k; omega
      clear hpk hzp hp hz
      go_wp2
      go_roundw
      case rel => exact ⟨j + 1, q, x / 256, _, hj, hid rfl, Nat.le_trans (Nat.div_le_self _ _) hx, by go_num, rfl, hid (div_step n j x hxj.out), rfl⟩
      case measure => simp [intOf]

theorem impl_yes (n k : Nat) (w : World) (hn : n ≤ 9223372036854775807) (h1 : 1 ≤ k) (h2 : k ≤ 7) :
    Calls Tryd.prog 11 #[.int .i64 n, .int .i64 k] w fun e w' => e = .returned (.string (fixS n k)) ∧ Below w.heap.size w w' := by
  by_cases hb : n / 256 ^ k = 0
  · exact impl_fits n k w hn h1 h2 hb
  · exact impl_big n k w hn h1 h2 hb

theorem impl_no (n k : Int) (w : World) (h : n < 0 ∨ k < 1 ∨ 7 < k) :
    Calls Tryd.prog 11 #[.int .i64 n, .int .i64 k] w fun e w' => e = .returned (.string ⟨#[]⟩) ∧ w = w' := by
  by_cases hk : k < 1 ∨ 7 < k
  · go_enter Tryd.func11, Tryd.ntmps11
    go_wp2_with (go_at_call 23; refine (width_no _ _ (by omega)).mono ?_; rintro e w' ⟨rfl, rfl⟩)
    go_ret
    exact ⟨rfl, rfl⟩
  · have hn : n < 0 := by omega
    go_enter Tryd.func11, Tryd.ntmps11
    go_wp2_with (go_at_call 23; refine (width _ _ (by omega) (by omega)).mono ?_; rintro e w' ⟨rfl, rfl⟩)
    go_ret
    exact ⟨rfl, rfl⟩

end Go.Proofs.YteaehhidoiiclaaDoor.EncodeFixed
