/- Names of tables: the model's test and the program's (spec.IsValidName, impl.IsValidName). -/
import Derived.Test.YtaiimjbdhcjobaaProg
import Derived.Test.YtaiimjbdhcjobaaNum
import Derived.Lib.Hide
namespace Go.Proofs.Ytaiimjbdhcjobaa.Names
open Go.RowKit
open Go.Proofs.Ytaiimjbdhcjobaa.Num
set_option linter.unusedVariables false

def lc (b : UInt8) : Bool := decide (97 ≤ b.toNat) && decide (b.toNat ≤ 122)
def nameOk (s : ByteArray) : Bool := (decide (1 ≤ s.size) && decide (s.size ≤ 4)) && s.data.toList.all lc
def LcTo (s : ByteArray) (k : Nat) : Prop := ∀ j (h : j < s.size), j < k → lc s[j] = true
theorem LcTo.zero (s : ByteArray) : LcTo s 0 := fun j _ h => by omega
theorem LcTo.step {s : ByteArray} {k : Nat} (h : LcTo s k) (hk : k < s.size) (h1 : lc s[k] = true) : LcTo s (k + 1) := fun j hj hjk => by
  rcases (by omega : j < k ∨ j = k) with e | rfl
  · exact h j hj e
  · exact h1
theorem all_of {s : ByteArray} (h : LcTo s s.size) : s.data.toList.all lc = true := by
  rw [List.all_eq_true]
  intro x hx
  obtain ⟨j, hj, rfl⟩ := List.getElem_of_mem hx
  have hj' : j < s.size := by simpa using hj
  exact h j hj' hj'
theorem name_all {s : ByteArray} (h : LcTo s s.size) : nameOk s = (decide (1 ≤ s.size) && decide (s.size ≤ 4)) := by simp only [nameOk, all_of h, Bool.and_true]
theorem name_no {s : ByteArray} (k : Nat) (hk : k < s.size) (h : lc s[k] = false) : nameOk s = false := by
  have : s.data.toList.all lc = false := by
    rw [List.all_eq_false]
    exact ⟨s[k], by
      have : s.data.toList[k]'(by simpa using hk) ∈ s.data.toList := List.getElem_mem _
      exact this, by rw [h]; simp⟩
  simp only [nameOk, this, Bool.and_false]
theorem lc_yes {b : UInt8} (h1 : ¬ (b.toNat : Int) < 97) (h2 : ¬ (122 : Int) < (b.toNat : Int)) : lc b = true := by simp [lc]; omega
theorem lc_low {b : UInt8} (h1 : (b.toNat : Int) < 97) : lc b = false := by simp [lc]; omega
theorem lc_high {b : UInt8} (h1 : (122 : Int) < (b.toNat : Int)) : lc b = false := by simp [lc]; omega

theorem in_name (n : Nat) (w : World) : Calls Try.prog 76 #[.int .i64 (n : Nat), .int .i64 1, .int .i64 4] w fun e w' => e = .returned (.bool (decide (1 ≤ n) && decide (n ≤ 4))) ∧ w = w' := by
  by_cases h1 : n < 1
  · obtain rfl : n = 0 := by omega
    go_enter Try.func76, Try.ntmps76
    go_wp2
    go_ret
    exact ⟨rfl, rfl⟩
  · have e1 : decide (1 ≤ n) = true := by simp; omega
    by_cases h2 : n ≤ 4
    · have e2 : decide (n ≤ 4) = true := by simp [h2]
      rw [e1, e2]
      have h3 : (1 : Int) ≤ (n : Int) := by omega
      have h4 : (n : Int) ≤ 4 := by omega
      clear e1 e2 h1
      go_enter Try.func76, Try.ntmps76
      go_wp2
      go_ret
      exact ⟨rfl, rfl⟩
    · have e2 : decide (n ≤ 4) = false := by simp [h2]
      rw [e1, e2]
      have h3 : (1 : Int) ≤ (n : Int) := by omega
      have h4 : ¬ (n : Int) ≤ 4 := by omega
      clear e1 e2 h1
      go_enter Try.func76, Try.ntmps76
      go_wp2
      go_ret
      exact ⟨rfl, rfl⟩

set_option maxRecDepth 100000 in
theorem spec_name (s : ByteArray) (w : World) (hs : s.size ≤ 1048576) :
    Calls Try.prog 153 #[.string s] w fun e w' => e = .returned (.bool (nameOk s)) ∧ w = w' := by
  obtain ⟨ok, hok⟩ : ∃ z, nameOk s = z := ⟨_, rfl⟩
  rw [hok]
  have HO := hid hok
  clear hok
  go_enter Try.func153, Try.ntmps153
  go_wp2
  go_loop [3] (fun i => ∃ k : Nat, k ≤ s.size ∧ i = .int .i64 k ∧ Hid (LcTo s k)) (fun i => s.size - (intOf i).toNat)
  case atStart => exact ⟨0, Nat.zero_le _, rfl, hid (LcTo.zero s)⟩
  case round =>
    obtain ⟨k, hk, rfl, hL⟩ := hrel
    by_cases hlt : k < s.size
    · have hlt' : (k : Int) < (s.size : Int) := by omega
      by_cases h1 : (s[k].toNat : Int) < 97
      · obtain rfl : false = ok := (name_no k hlt (lc_low h1)).symm.trans HO.out
        go_wp2
        go_ret
        exact ⟨rfl, rfl⟩
      · by_cases h2 : (122 : Int) < (s[k].toNat : Int)
        · obtain rfl : false = ok := (name_no k hlt (lc_high h2)).symm.trans HO.out
          go_wp2
          go_ret
          exact ⟨rfl, rfl⟩
        · have HL := hid (hL.out.step hlt (lc_yes h1 h2))
          go_wp2
          go_round
          case rel => exact ⟨k + 1, by omega, by go_num, HL⟩
          case measure => simp [intOf]; omega
    · have e : k = s.size := by omega
      subst e
      obtain rfl : (decide (1 ≤ s.size) && decide (s.size ≤ 4)) = ok := (name_all hL.out).symm.trans HO.out
      go_wp2_with fail
      refine (in_name s.size w).mono ?_
      rintro e w2 ⟨rfl, rfl⟩
      go_wp2
      go_ret
      exact ⟨rfl, rfl⟩

set_option maxRecDepth 100000 in
theorem impl_name (s : ByteArray) (w : World) (hs : s.size ≤ 1048576) :
    Calls Try.prog 193 #[.string s] w fun e w' => e = .returned (.bool (nameOk s)) ∧ w = w' := by
  obtain ⟨ok, hok⟩ : ∃ z, nameOk s = z := ⟨_, rfl⟩
  rw [hok]
  have HO := hid hok
  clear hok
  by_cases h0 : s.size = 0
  · have t0 : ((s.size : Int) == 0) = true := by rw [beq_iff_eq]; omega
    obtain rfl : false = ok := by
      rw [← HO.out]
      simp [nameOk, h0]
    clear h0
    go_enter Try.func193, Try.ntmps193
    go_wp2
    go_ret
    exact ⟨rfl, rfl⟩
  · have t0 : ((s.size : Int) == 0) = false := by rw [beq_eq_false_iff_ne]; omega
    by_cases h4 : (4 : Int) < (s.size : Int)
    · obtain rfl : false = ok := by
        rw [← HO.out]
        have : decide (s.size ≤ 4) = false := by simp; omega
        simp [nameOk, this]
      clear h0
      go_enter Try.func193, Try.ntmps193
      go_wp2
      go_ret
      exact ⟨rfl, rfl⟩
    · go_enter Try.func193, Try.ntmps193
      go_wp2
      go_loop [3, 14] (fun _ i => ∃ k : Nat, k ≤ s.size ∧ i = .int .i64 k ∧ Hid (LcTo s k)) (fun _ i => s.size - (intOf i).toNat)
      case atStart => exact ⟨0, Nat.zero_le _, rfl, hid (LcTo.zero s)⟩
      case round =>
        obtain ⟨k, hk, rfl, hL⟩ := hrel
        by_cases hlt : k < s.size
        · have hlt' : (k : Int) < (s.size : Int) := by omega
          by_cases h1 : (s[k].toNat : Int) < 97
          · obtain rfl : false = ok := (name_no k hlt (lc_low h1)).symm.trans HO.out
            go_wp2
            go_ret
            exact ⟨rfl, rfl⟩
          · by_cases h2 : (122 : Int) < (s[k].toNat : Int)
            · obtain rfl : false = ok := (name_no k hlt (lc_high h2)).symm.trans HO.out
              go_wp2
              go_ret
              exact ⟨rfl, rfl⟩
            · have HL := hid (hL.out.step hlt (lc_yes h1 h2))
              go_wp2
              go_round
              case rel => exact ⟨k + 1, by omega, by go_num, HL⟩
              case measure => simp [intOf]; omega
        · have e : k = s.size := by omega
          subst e
          obtain rfl : true = ok := by
            have e1 : decide (1 ≤ s.size) = true := by simp; omega
            have e2 : decide (s.size ≤ 4) = true := by simp; omega
            rw [← HO.out, name_all hL.out, e1, e2]
            rfl
          go_wp2
          go_ret
          exact ⟨rfl, rfl⟩
end Go.Proofs.Ytaiimjbdhcjobaa.Names
