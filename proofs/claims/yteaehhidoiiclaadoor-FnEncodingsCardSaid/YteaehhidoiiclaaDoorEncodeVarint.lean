/- Contracts: taken by program (wip/tools/contracts.py) out of the law's template of this name. -/
import Derived.Test.YteaehhidoiiclaaDoorRows
import Derived.Test.YteaehhidoiiclaaDoorNum
import Derived.Test.YteaehhidoiiclaaDoorRow
import Derived.WalkKit
import Derived.ProofKit
import Derived.OpenShut
import Derived.ShutString
import Derived.IntWalk
import Derived.BigQuiet
import Derived.Deep.QuietTactic
namespace Go.Proofs.YteaehhidoiiclaaDoor.EncodeVarint
open Go.ChangeShapes Go.WideShapes Go.ChangeAt Go.RowKit
open Go.ChangeMaps (open_string shut_string)
open Go.Proofs.YteaehhidoiiclaaDoor.Num Go.Proofs.YteaehhidoiiclaaDoor.Row
set_option linter.unusedVariables false

theorem info : (Tryd.prog.info? 5).map (fun i => (i.zero, i.size, i.bytes)) = some (some (.int .u8 0), 1, 1) := by kernel_rfl

theorem l1in (a b c : Int) (w : World) (h1 : b ≤ a) (h2 : a ≤ c) :
    Calls Tryd.prog 36 #[.int .i64 a, .int .i64 b, .int .i64 c] w fun e w' => e = .returned (.bool true) ∧ w = w' := by
  go_enter Tryd.func36, Tryd.ntmps36
  go_wp2
  go_ret
  exact ⟨rfl, rfl⟩

theorem l1in_no (a b c : Int) (w : World) (h : a < b ∨ c < a) :
    Calls Tryd.prog 36 #[.int .i64 a, .int .i64 b, .int .i64 c] w fun e w' => e = .returned (.bool false) ∧ w = w' := by
  rcases (by omega : ¬ b ≤ a ∨ (b ≤ a ∧ ¬ a ≤ c)) with h | ⟨h0, h⟩ <;>
  · go_enter Tryd.func36, Tryd.ntmps36
    go_wp2
    go_ret
    exact ⟨rfl, rfl⟩

theorem spec_yes (n : Nat) (w : World) (h2 : n ≤ 562949953421311) :
    Calls Tryd.prog 27 #[.int .i64 n] w fun e w' => e = .returned (.string ⟨(vint 6 n).toArray⟩) ∧ Below w.heap.size w w' := by
  obtain ⟨i0, hi, hz0, hz1, hz2⟩ := info_parts info
  have h1 : 0 ≤ (n : Int) := by omega
  have h3 : (n : Int) ≤ 562949953421311 := by omega
  go_enter Tryd.func27, Tryd.ntmps27
  go_wp2_with (go_at_call 36; refine (l1in _ _ _ _ (by omega) (by omega)).mono ?_; rintro e w' ⟨rfl, rfl⟩)
  go_loopw [0, 3] (fun m v wr => ∃ (k f : Nat) (l : List UInt8), m = .int .i64 k ∧ k ≤ 562949953421311 ∧ k < 128 ^ (f + 1) ∧ Hid (l ++ vint f k = vint 6 n) ∧ l.length + f ≤ 6 ∧ Owns wr w.heap.size 5 v l ∧ Below w.heap.size w wr ∧ w.heap.size ≤ wr.heap.size) (fun m _ _ => (intOf m).toNat)
  case atStart => exact ⟨n, 6, [], rfl, h2, by omega, hid rfl, by simp, Owns.made w _ #[] 0 _ (Nat.le_refl _) (by decide) rfl, (Below.refl _ _).alloc (Nat.le_refl _) _, by simp⟩
  case round =>
    obtain ⟨k, f, l, rfl, hkb, hk, hl, hlf, hown, hbel, hsz⟩ := hrel
    have hkb1 : (k : Int) ≤ 562949953421311 := by omega
    by_cases hlt : 128 ≤ (k : Int)
    · obtain ⟨f, rfl⟩ : ∃ g, f = g + 1 := ⟨f - 1, by
        rcases f with _ | f
        · simp at hk; omega
        · rfl⟩
      have hk1 : ¬ k < 128 := by omega
      have hk2 : k / 128 < 128 ^ (f + 1) := by
        rw [Nat.div_lt_iff_lt_mul (by omega)]; rw [Nat.pow_succ] at hk; exact hk
      go_wp2_with (at_builtin; refine append_byte rfl _ _ 22 rfl w.heap.size 5 i0 Tryd.underlying22 hi hz0 hz1 hz2 w wr _ l (hi7 k) hown (by rfl) hbel hsz _ ?c1 (by rfl) (by omega) ?_)
      case c1 => rw [hi7_int]
      intro v1 w1 hown1 hbel1 hsz1
      clear hown hbel hsz
      go_wp2
      go_roundw
      case rel => exact ⟨k / 128, f, l ++ [hi7 k], by go_num, by omega, hk2, hid (by rw [← hl.out, vint_more f k hk1]; simp), by simp; omega, hown1, hbel1, hsz1⟩
      case measure => simp [intOf]; omega
    · have hk1 : k < 128 := by omega
      go_wp2_with (at_builtin; refine append_byte rfl _ _ 22 rfl w.heap.size 5 i0 Tryd.underlying22 hi hz0 hz1 hz2 w wr _ l (lo7 k) hown (by rfl) hbel hsz _ ?c1 (by rfl) (by omega) ?_)
      case c1 => rw [lo7_int _ (by omega)]
      intro v1 w1 hown1 hbel1 hsz1
      have hcv := convert_own (P := Tryd.prog) w1 22 5 9 Tryd.underlying22 Tryd.underlying5 Tryd.underlying9 _ v1 _ hown1
      clear hown hbel hsz
      go_wp2
      go_ret
      refine ⟨?_, hbel1⟩
      rw [← hl.out, vint_last f k hk1]
      rfl

theorem impl_yes (n : Nat) (w : World) (h2 : n ≤ 562949953421311) :
    Calls Tryd.prog 9 #[.int .i64 n] w fun e w' => e = .returned (.string ⟨(vint 6 n).toArray⟩) ∧ Below w.heap.size w w' := by
  obtain ⟨i0, hi, hz0, hz1, hz2⟩ := info_parts info
  have h1 : 0 ≤ (n : Int) := by omega
  have h3 : (n : Int) ≤ 562949953421311 := by omega
  have hmk := make_bytes (P := Tryd.prog) w 22 5 i0 Tryd.underlying22 hi hz0 hz1 hz2 0 7 (by omega) (by omega) (by omega)
  go_enter Tryd.func9, Tryd.ntmps9
  go_wp2
  go_loopw [0, 3] (fun m v wr => ∃ (k f : Nat) (l : List UInt8), m = .int .i64 k ∧ k ≤ 562949953421311 ∧ k < 128 ^ (f + 1) ∧ Hid (l ++ vint f k = vint 6 n) ∧ l.length + f ≤ 6 ∧ Owns wr w.heap.size 5 v l ∧ Below w.heap.size w wr ∧ w.heap.size ≤ wr.heap.size) (fun m _ _ => (intOf m).toNat)
  case atStart => exact ⟨n, 6, [], rfl, h2, by omega, hid rfl, by simp, Owns.made w _ _ 7 _ (Nat.le_refl _) (by decide) rfl, (Below.refl _ _).alloc (Nat.le_refl _) _, by simp⟩
  case round =>
    obtain ⟨k, f, l, rfl, hkb, hk, hl, hlf, hown, hbel, hsz⟩ := hrel
    have hkb1 : (k : Int) ≤ 562949953421311 := by omega
    by_cases hlt : 128 ≤ (k : Int)
    · obtain ⟨f, rfl⟩ : ∃ g, f = g + 1 := ⟨f - 1, by
        rcases f with _ | f
        · simp at hk; omega
        · rfl⟩
      have hk1 : ¬ k < 128 := by omega
      have hk2 : k / 128 < 128 ^ (f + 1) := by
        rw [Nat.div_lt_iff_lt_mul (by omega)]; rw [Nat.pow_succ] at hk; exact hk
      go_wp2_with (at_builtin; refine append_byte rfl _ _ 22 rfl w.heap.size 5 i0 Tryd.underlying22 hi hz0 hz1 hz2 w wr _ l (hi7 k) hown (by rfl) hbel hsz _ ?c1 (by rfl) (by omega) ?_)
      case c1 => rw [hi7_int]; omega
      intro v1 w1 hown1 hbel1 hsz1
      clear hown hbel hsz
      go_wp2
      go_roundw
      case rel => exact ⟨k / 128, f, l ++ [hi7 k], by go_num, by omega, hk2, hid (by rw [← hl.out, vint_more f k hk1]; simp), by simp; omega, hown1, hbel1, hsz1⟩
      case measure => simp [intOf]; omega
    · have hk1 : k < 128 := by omega
      go_wp2_with (at_builtin; refine append_byte rfl _ _ 22 rfl w.heap.size 5 i0 Tryd.underlying22 hi hz0 hz1 hz2 w wr _ l (lo7 k) hown (by rfl) hbel hsz _ ?c1 (by rfl) (by omega) ?_)
      case c1 => rw [lo7_int _ (by omega)]
      intro v1 w1 hown1 hbel1 hsz1
      have hcv := convert_own (P := Tryd.prog) w1 22 5 9 Tryd.underlying22 Tryd.underlying5 Tryd.underlying9 _ v1 _ hown1
      clear hown hbel hsz
      go_wp2
      go_ret
      refine ⟨?_, hbel1⟩
      rw [← hl.out, vint_last f k hk1]
      rfl

theorem spec_no (n : Int) (w : World) (h : n < 0 ∨ 562949953421311 < n) :
    Calls Tryd.prog 27 #[.int .i64 n] w fun e w' => e = .returned (.string ⟨#[]⟩) ∧ w = w' := by
  go_enter Tryd.func27, Tryd.ntmps27
  go_wp2_with (go_at_call 36; refine (l1in_no _ _ _ _ (by omega)).mono ?_; rintro e w' ⟨rfl, rfl⟩)
  go_ret
  exact ⟨rfl, rfl⟩

theorem impl_no (n : Int) (w : World) (h : n < 0 ∨ 562949953421311 < n) :
    Calls Tryd.prog 9 #[.int .i64 n] w fun e w' => e = .returned (.string ⟨#[]⟩) ∧ w = w' := by
  rcases (by omega : n < 0 ∨ (0 ≤ n ∧ 562949953421311 < n)) with h | ⟨h0, h⟩ <;>
  · go_enter Tryd.func9, Tryd.ntmps9
    go_wp2
    go_ret
    exact ⟨rfl, rfl⟩

end Go.Proofs.YteaehhidoiiclaaDoor.EncodeVarint
