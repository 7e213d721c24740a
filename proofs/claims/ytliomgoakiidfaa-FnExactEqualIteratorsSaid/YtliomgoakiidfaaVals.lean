/- The tests of a row's values (impl.AreValidValues, spec.AreValidValues), and what a row's code is. -/
import Derived.Test.YtliomgoakiidfaaRows
import Derived.Test.YtliomgoakiidfaaNum
import Derived.Test.YtliomgoakiidfaaIntRow
import Derived.WalkKit
import Derived.IntWalk
import Derived.BigQuiet
import Derived.Deep.QuietTactic
namespace Go.Proofs.Ytliomgoakiidfaa.Vals
open Go.RowKit
open Go.Proofs.Ytliomgoakiidfaa.Num Go.Proofs.Ytliomgoakiidfaa.IntRow
set_option linter.unusedVariables false

/-- A value from 0 to MaxValue; a row of them. -/
def okv (v : Int) : Bool := decide (0 ≤ v) && decide (v ≤ 99)
def vals (xs : List Int) : Bool := xs.all okv
theorem okv_iff {v : Int} : okv v = true ↔ 0 ≤ v ∧ v ≤ 99 := by simp [okv]
theorem okv_no {v : Int} : okv v = false ↔ v < 0 ∨ (0 ≤ v ∧ 99 < v) := by simp [okv]; omega
theorem vals_not {xs : List Int} (k : Nat) (hk : k < xs.length) (h : okv xs[k] = false) : vals xs = false := by
  unfold vals
  rw [List.all_eq_false]
  exact ⟨xs[k], List.getElem_mem hk, by simp [h]⟩
theorem vals_all {xs : List Int} (h : ∀ j (h : j < xs.length), okv xs[j] = true) : vals xs = true := by
  unfold vals
  rw [List.all_eq_true]
  intro x hx
  obtain ⟨j, hj, rfl⟩ := List.getElem_of_mem hx
  exact h j hj
theorem vals_at {xs : List Int} (h : vals xs = true) (j : Nat) (hj : j < xs.length) : okv xs[j] = true := by
  unfold vals at h
  rw [List.all_eq_true] at h
  exact h _ (List.getElem_mem hj)
theorem vals_nil : vals [] = true := rfl
/-- The byte of a value; the bytes of a row; the code of any row. -/
def enc1 (v : Int) : UInt8 := UInt8.ofNat (v + 1).toNat
def encL (xs : List Int) : List UInt8 := xs.map enc1
def encB (xs : List Int) : List UInt8 := if vals xs = true then encL xs else []
def encS (xs : List Int) : ByteArray := ⟨(encB xs).toArray⟩
theorem enc1_int (v : Int) (h : okv v = true) : (((enc1 v).toNat : Nat) : Int) = v + 1 := by
  have := okv_iff.1 h
  obtain ⟨n, rfl⟩ := Int.eq_ofNat_of_zero_le this.1
  have e : (((n : Int) + 1).toNat) = n + 1 := by omega
  unfold enc1
  rw [e]
  rw [byte_of _ (by omega)]
  omega
theorem encL_length (xs : List Int) : (encL xs).length = xs.length := by simp [encL]
theorem encL_at (xs : List Int) (j : Nat) (h : j < (encL xs).length) : (encL xs)[j] = enc1 (xs[j]'(by simpa [encL] using h)) := by simp [encL]
theorem encB_yes {xs : List Int} (h : vals xs = true) : encB xs = encL xs := if_pos h
theorem encB_no {xs : List Int} (h : vals xs = false) : encB xs = [] := by unfold encB; rw [h]; rfl
theorem encS_yes {xs : List Int} (h : vals xs = true) : encS xs = ⟨(encL xs).toArray⟩ := by unfold encS; rw [encB_yes h]
theorem encS_no {xs : List Int} (h : vals xs = false) : encS xs = ⟨#[]⟩ := by unfold encS; rw [encB_no h]
theorem encL_take (xs : List Int) (k : Nat) (h : k < xs.length) : encL (xs.take (k + 1)) = encL (xs.take k) ++ [enc1 xs[k]] := by
  unfold encL
  rw [List.take_succ_eq_append_getElem h, List.map_append]
  rfl

theorem in_val (v : Int) (w : World) : Calls Try.prog 61 #[.int .i64 v, .int .i64 0, .int .i64 99] w fun e w' => e = .returned (.bool (okv v)) ∧ w = w' := by
  by_cases h : 0 ≤ v
  · by_cases h2 : v ≤ 99
    · have H := hid (show okv v = true by simp [okv, h, h2])
      go_enter Try.func61, Try.ntmps61
      go_wp2
      go_ret
      exact ⟨by rw [H.out]; rfl, rfl⟩
    · have H := hid (show okv v = false by simp [okv, h2])
      go_enter Try.func61, Try.ntmps61
      go_wp2
      go_ret
      exact ⟨by rw [H.out]; rfl, rfl⟩
  · have H := hid (show okv v = false by simp [okv, h])
    go_enter Try.func61, Try.ntmps61
    go_wp2
    go_ret
    exact ⟨by rw [H.out]; rfl, rfl⟩
theorem in_val_is (v : Int) (b : Bool) (w : World) (h : okv v = b) : Calls Try.prog 61 #[.int .i64 v, .int .i64 0, .int .i64 99] w fun e w' => e = .returned (.bool b) ∧ w = w' := h ▸ in_val v w
theorem is_val (v : Int) (w : World) : Calls Try.prog 109 #[.int .i64 v] w fun e w' => e = .returned (.bool (okv v)) ∧ w = w' := by
  by_cases h : 0 ≤ v
  · by_cases h2 : v ≤ 99
    · have H := hid (show okv v = true by simp [okv, h, h2])
      go_enter Try.func109, Try.ntmps109
      go_wp2
      go_ret
      exact ⟨by rw [H.out]; rfl, rfl⟩
    · have H := hid (show okv v = false by simp [okv, h2])
      go_enter Try.func109, Try.ntmps109
      go_wp2
      go_ret
      exact ⟨by rw [H.out]; rfl, rfl⟩
  · have H := hid (show okv v = false by simp [okv, h])
    go_enter Try.func109, Try.ntmps109
    go_wp2
    go_ret
    exact ⟨by rw [H.out]; rfl, rfl⟩
theorem is_val_is (v : Int) (b : Bool) (w : World) (h : okv v = b) : Calls Try.prog 109 #[.int .i64 v] w fun e w' => e = .returned (.bool b) ∧ w = w' := h ▸ is_val v w

theorem impl_are (a : Option Addr) (cap B : Nat) (xs : List Int) (w : World) (hn : xs.length ≤ 1048576) (h : Rd w B a xs) :
    Calls Try.prog 103 #[.slice a xs.length cap] w fun e w' => e = .returned (.bool (vals xs)) ∧ w = w' := by
  go_enter Try.func103, Try.ntmps103
  go_wp2
  go_loop [4, 7] (fun d i => ∃ k : Nat, k ≤ xs.length ∧ i = .int .i64 k ∧ (∀ j (h : j < xs.length), j < k → okv xs[j] = true)) (fun _ i => xs.length - (intOf i).toNat)
  case atStart => exact ⟨0, Nat.zero_le _, rfl, fun j _ h => by omega⟩
  case round =>
    obtain ⟨k, hk, rfl, hd⟩ := hrel
    by_cases hlt : k < xs.length
    · obtain ⟨b, off, rfl, hbB, hc⟩ := h (by omega)
      have g := hc k hlt
      have HD := hid hd
      clear hd hc h
      cases hdg : okv xs[k] with
      | true =>
        have HG := hid hdg
        clear hdg
        go_wp2_with fail
        refine (is_val_is _ _ _ HG.out).mono ?_
        rintro e w' ⟨rfl, rfl⟩
        go_wp2
        go_round
        case rel => exact ⟨k + 1, by omega, by go_num, fun j hj hjk => by
          by_cases e : j = k
          · subst e; exact HG.out
          · exact HD.out j hj (by omega)⟩
        case measure => simp [intOf]; omega
      | false =>
        have H := hid (vals_not k hlt hdg)
        have HG := hid hdg
        clear hdg
        go_wp2_with fail
        refine (is_val_is _ _ _ HG.out).mono ?_
        rintro e w' ⟨rfl, rfl⟩
        go_wp2
        go_ret
        exact ⟨by rw [H.out]; rfl, rfl⟩
    · have H := hid (vals_all (xs := xs) (fun j hj => hd j hj (by omega)))
      clear hd h
      go_wp2
      go_ret
      exact ⟨by rw [H.out]; rfl, rfl⟩

theorem spec_are (a : Option Addr) (cap B : Nat) (xs : List Int) (w : World) (hn : xs.length ≤ 1048576) (h : Rd w B a xs) :
    Calls Try.prog 97 #[.slice a xs.length cap] w fun e w' => e = .returned (.bool (vals xs)) ∧ w = w' := by
  go_enter Try.func97, Try.ntmps97
  go_wp2
  go_loop [3] (fun i => ∃ k : Nat, k ≤ xs.length ∧ i = .int .i64 k ∧ (∀ j (h : j < xs.length), j < k → okv xs[j] = true)) (fun i => xs.length - (intOf i).toNat)
  case atStart => exact ⟨0, Nat.zero_le _, rfl, fun j _ h => by omega⟩
  case round =>
    obtain ⟨k, hk, rfl, hd⟩ := hrel
    by_cases hlt : k < xs.length
    · obtain ⟨b, off, rfl, hbB, hc⟩ := h (by omega)
      have g := hc k hlt
      have HD := hid hd
      clear hd hc h
      cases hdg : okv xs[k] with
      | true =>
        have HG := hid hdg
        clear hdg
        go_wp2_with fail
        refine (in_val_is _ _ _ HG.out).mono ?_
        rintro e w' ⟨rfl, rfl⟩
        go_wp2
        go_round
        case rel => exact ⟨k + 1, by omega, by go_num, fun j hj hjk => by
          by_cases e : j = k
          · subst e; exact HG.out
          · exact HD.out j hj (by omega)⟩
        case measure => simp [intOf]; omega
      | false =>
        have H := hid (vals_not k hlt hdg)
        have HG := hid hdg
        clear hdg
        go_wp2_with fail
        refine (in_val_is _ _ _ HG.out).mono ?_
        rintro e w' ⟨rfl, rfl⟩
        go_wp2
        go_ret
        exact ⟨by rw [H.out]; rfl, rfl⟩
    · have H := hid (vals_all (xs := xs) (fun j hj => hd j hj (by omega)))
      clear hd h
      go_wp2
      go_ret
      exact ⟨by rw [H.out]; rfl, rfl⟩
end Go.Proofs.Ytliomgoakiidfaa.Vals
