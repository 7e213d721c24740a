/- The model of FormatInt (spec.FormatInt) and the decimal digits of Go's strconv: the same bytes. -/
import Derived.Test.YtffhfnkcbgbliaaDoorRows
import Derived.Test.YtffhfnkcbgbliaaDoorNum
import Derived.Test.YtffhfnkcbgbliaaDoorRow
import Derived.WalkKit
import Derived.ProofKit
import Derived.OpenShut
import Derived.ShutString
import Derived.IntWalk
import Derived.BigQuiet
import Derived.Lib.ItoaNum
import Derived.Outline
namespace Go.Proofs.YtffhfnkcbgbliaaDoor.Format
open Go.ChangeShapes Go.WideShapes Go.ChangeAt Go.RowKit
open Go.ChangeMaps (open_string shut_string)
open Go.Proofs.YtffhfnkcbgbliaaDoor.Num Go.Proofs.YtffhfnkcbgbliaaDoor.Row
set_option linter.unusedVariables false

/-- The digits of m; nothing for 0. -/
def digs (m : Nat) : List UInt8 := if m = 0 then [] else Lib.decDigits m
def dig (m : Nat) : UInt8 := UInt8.ofNat (48 + m % 10)

theorem digs_step (m : Nat) (h : m ≠ 0) : digs m = digs (m / 10) ++ [dig m] := by
  unfold digs dig
  rw [if_neg h]
  by_cases h1 : m < 10
  · rw [Lib.decDigits, dif_pos h1, if_pos (by omega), Nat.mod_eq_of_lt h1]
    rfl
  · rw [Lib.decDigits, dif_neg h1, if_neg (by omega)]

theorem dig_int (m : Nat) : (((dig m).toNat : Nat) : Int) = 48 + ((m % 10 : Nat) : Int) := by
  simp [dig]; omega

theorem digs_length (f m : Nat) (h : m < 10 ^ f) : (digs m).length ≤ f := by
  induction f generalizing m with
  | zero =>
    have h0 : m = 0 := by simpa using h
    subst h0
    simp [digs]
  | succ f ih =>
    by_cases h0 : m = 0
    · subst h0; simp [digs]
    · rw [digs_step m h0]
      have := ih (m / 10) (by rw [Nat.div_lt_iff_lt_mul (by omega)]; rw [Nat.pow_succ] at h; exact h)
      simp; omega

theorem digs_join (k : Nat) (l : List UInt8) (n : Nat) (H : digs k = digs (k / 10) ++ [dig k]) (hl : digs k ++ l = digs n) : digs (k / 10) ++ dig k :: l = digs n := by
  rw [← hl, H]; simp
theorem digs_short (k : Nat) (l : List UInt8) (n : Nat) (H : digs k = digs (k / 10) ++ [dig k]) (hl : digs k ++ l = digs n) (h : (digs n).length ≤ 19) : (dig k :: l).length ≤ 19 := by
  have := congrArg List.length (digs_join k l n H hl)
  rw [List.length_append] at this
  omega

set_option maxRecDepth 100000 in
theorem spec_pos (n : Nat) (w : World) (h0 : n ≠ 0) (h1 : n ≤ 9223372036854775807) :
    Calls Tryd.prog 35 #[.int .i64 n] w fun e w' => e = .returned (.string ⟨(digs n).toArray⟩) ∧ Below w.heap.size w w' := by
  have hn : ((n : Int) == 0) = false := by simp only [beq_eq_false_iff_ne]; omega
  have hlen := digs_length 19 n (by omega)
  have H0 := hid h0
  clear h0
  go_enter Tryd.func35, Tryd.ntmps35
  go_wp2
  go_loopw [0, 3, 5] (fun m o d wr => ∃ (k : Nat) (l : List UInt8), k ≤ n ∧ m = .int .i64 k ∧ o = .string ⟨l.toArray⟩ ∧ Hid (digs k ++ l = digs n) ∧ l.length ≤ 19 ∧ Below w.heap.size w wr ∧ w.heap.size ≤ wr.heap.size) (fun m _ _ _ => (intOf m).toNat)
  case atStart => exact ⟨n, [], Nat.le_refl _, rfl, rfl, hid (by simp), by simp, Below.refl _ _, Nat.le_refl _⟩
  case round =>
    obtain ⟨k, l, hk, rfl, rfl, hl, hll, hbel, hsz⟩ := hrel
    by_cases hk0 : k = 0
    · subst hk0
      go_wp2
      go_ret
      refine ⟨?_, hbel⟩
      rw [← hl.out]
      rfl
    · have hkn : ((k : Int) != 0) = true := by simp only [bne_iff_ne]; omega
      have H := hid (digs_step k hk0)
      have hcv := convert_one (P := Tryd.prog) wr 83 5 9 Tryd.underlying83 Tryd.underlying5 Tryd.underlying9 (48 + (k : Int) % 10) (dig k) (by rw [dig_int]; rfl)
      have HK := hid hk0
      clear hk0
      go_wp2
      go_roundw
      case rel => exact ⟨k / 10, dig k :: l, Nat.le_trans (Nat.div_le_self _ _) hk, by go_num, by rw [str_cons], hid (digs_join k l n H.out hl.out), digs_short k l n H.out hl.out hlen, hbel.alloc hsz _, by simp; omega⟩
      case measure => have := HK.out; simp [intOf]; omega

set_option maxRecDepth 100000 in
theorem spec_neg (n : Nat) (w : World) (h0 : n ≠ 0) (h1 : n ≤ 9223372036854775808) :
    Calls Tryd.prog 35 #[.int .i64 (-(n : Int))] w fun e w' => e = .returned (.string ⟨(45 :: digs n).toArray⟩) ∧ Below w.heap.size w w' := by
  have hn : ((-(n : Int)) == 0) = false := by simp only [beq_eq_false_iff_ne]; omega
  have hn1 : -(n : Int) < 0 := by omega
  have hlen := digs_length 19 n (by omega)
  have H0 := hid h0
  clear h0
  go_enter Tryd.func35, Tryd.ntmps35
  go_wp2
  go_loopw [0, 3, 5] (fun m o d wr => ∃ (k : Nat) (l : List UInt8), k ≤ n ∧ m = .int .i64 (-(k : Int)) ∧ o = .string ⟨l.toArray⟩ ∧ Hid (digs k ++ l = digs n) ∧ l.length ≤ 19 ∧ Below w.heap.size w wr ∧ w.heap.size ≤ wr.heap.size) (fun m _ _ _ => (-(intOf m)).toNat)
  case atStart => exact ⟨n, [], Nat.le_refl _, rfl, rfl, hid (by simp), by simp, Below.refl _ _, Nat.le_refl _⟩
  case round =>
    obtain ⟨k, l, hk, rfl, rfl, hl, hll, hbel, hsz⟩ := hrel
    by_cases hk0 : k = 0
    · subst hk0
      go_wp2
      go_ret
      refine ⟨?_, hbel⟩
      rw [← hl.out]
      rfl
    · have hkn : ((-(k : Int)) != 0) = true := by simp only [bne_iff_ne]; omega
      have H := hid (digs_step k hk0)
      have HK := hid hk0
      clear hk0
      by_cases hr : k % 10 = 0
      · have er : (k : Int) % 10 = 0 := by omega
        have hcv := convert_one (P := Tryd.prog) wr 83 5 9 Tryd.underlying83 Tryd.underlying5 Tryd.underlying9 (48) (dig k) (by rw [dig_int, hr]; rfl)
        clear hr
        go_wp2
        go_roundw
        case rel => exact ⟨k / 10, dig k :: l, Nat.le_trans (Nat.div_le_self _ _) hk, by go_num, by rw [str_cons], hid (digs_join k l n H.out hl.out), digs_short k l n H.out hl.out hlen, hbel.alloc hsz _, by simp; omega⟩
        case measure => have := HK.out; simp [intOf]; omega
      · have er : 0 < (k : Int) % 10 := by omega
        have hcv := convert_one (P := Tryd.prog) wr 83 5 9 Tryd.underlying83 Tryd.underlying5 Tryd.underlying9 (48 + (k : Int) % 10) (dig k) (by rw [dig_int]; rfl)
        clear hr
        go_wp2
        go_roundw
        case rel => exact ⟨k / 10, dig k :: l, Nat.le_trans (Nat.div_le_self _ _) hk, by go_num, by rw [str_cons], hid (digs_join k l n H.out hl.out), digs_short k l n H.out hl.out hlen, hbel.alloc hsz _, by simp; omega⟩
        case measure => have := HK.out; simp [intOf]; omega

theorem spec_zero (w : World) :
    Calls Tryd.prog 35 #[.int .i64 0] w fun e w' => e = .returned (.string ⟨#[48]⟩) ∧ Below w.heap.size w w' := by
  go_enter Tryd.func35, Tryd.ntmps35
  go_wp2
  go_ret
  exact ⟨rfl, Below.refl _ _⟩

/-- The model of FormatInt, at every int. -/
theorem spec_any (n : Int) (w : World) (h0 : -9223372036854775808 ≤ n) (h1 : n ≤ 9223372036854775807) :
    Calls Tryd.prog 35 #[.int .i64 n] w fun e w' => e = .returned (.string ⟨(Lib.itoa n).toArray⟩) ∧ Below w.heap.size w w' := by
  by_cases hz : n = 0
  · subst hz
    have e : Lib.itoa 0 = [48] := by
      unfold Lib.itoa
      rw [if_neg (by omega), Lib.decDigits, dif_pos (by simp)]
      rfl
    rw [e]
    exact spec_zero w
  · by_cases hn : n < 0
    · obtain ⟨u, rfl⟩ : ∃ u : Nat, n = -(u : Int) := ⟨n.natAbs, by omega⟩
      have e : Lib.itoa (-(u : Int)) = 45 :: digs u := by
        unfold Lib.itoa digs
        rw [if_pos hn, if_neg (by omega)]
        simp
      rw [e]
      exact spec_neg u w (by omega) (by omega)
    · obtain ⟨u, rfl⟩ := Int.eq_ofNat_of_zero_le (show 0 ≤ n by omega)
      have e : Lib.itoa (u : Int) = digs u := by
        unfold Lib.itoa digs
        rw [if_neg hn, if_neg (by omega)]
        simp
      rw [e]
      exact spec_pos u w (by omega) (by omega)

end Go.Proofs.YtffhfnkcbgbliaaDoor.Format
