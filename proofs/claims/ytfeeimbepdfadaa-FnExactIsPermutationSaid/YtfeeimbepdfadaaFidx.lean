/- spec.l7Find's index, exactly; spec.l1In at any world (cut out of XQryVS). -/
import Derived.Test.YtfeeimbepdfadaaVarName
import Derived.Test.YtfeeimbepdfadaaIntRow
import Derived.Deep.QuietTactic
namespace Go.Proofs.Ytfeeimbepdfadaa.Fidx
open Go.RowKit
open Go.Proofs.Ytfeeimbepdfadaa.Num Go.Proofs.Ytfeeimbepdfadaa.IntRow Go.Proofs.Ytfeeimbepdfadaa.VarName
set_option linter.unusedVariables false

/-- The index that spec.l7Find gives. -/
def fidx : List Int → Int → Nat → Int
  | [], _, _ => -1
  | x :: t, v, k => if x = v then (k : Int) else fidx t v (k + 1)
theorem fidx_dec (l : List Int) (v : Int) (k : Nat) : decide (0 ≤ fidx l v k) = decide (v ∈ l) := by
  induction l generalizing k with
  | nil => simp [fidx]
  | cons x t ih =>
    by_cases h : x = v
    · simp [fidx, h]
    · have h' : ¬ v = x := fun e => h e.symm
      have := ih (k + 1)
      simp [fidx, h, h'] at this ⊢
      exact this
theorem fidx_bd (l : List Int) (v : Int) (k : Nat) : -1 ≤ fidx l v k ∧ fidx l v k ≤ (k : Int) + l.length := by
  induction l generalizing k with
  | nil => simp [fidx]
  | cons x t ih =>
    by_cases h : x = v
    · simp [fidx, h]; omega
    · have := ih (k + 1)
      simp [fidx, h] at this ⊢
      omega
theorem spec_findF (a : Option Addr) (n cap B : Nat) (xs : List Int) (v z : Int) (w : World) (hl : xs.length = n) (hn : n ≤ 1048576) (hz : fidx xs v 0 = z) (h : Rd w B a xs) :
    Calls Try.prog 62 #[.slice a n cap, .int .i64 v] w fun e w' => e = .returned (.int .i64 z) ∧ w' = w := by
  subst hl
  have HZ := hid hz
  clear hz
  go_enter Try.func62, Try.ntmps62
  go_wp2
  go_loop [5] (fun i => ∃ k : Nat, k ≤ xs.length ∧ i = .int .i64 k ∧ Hid (fidx (xs.drop k) v k = z)) (fun i => xs.length - (intOf i).toNat)
  case atStart => exact ⟨0, Nat.zero_le _, rfl, HZ⟩
  case round =>
    obtain ⟨k, hk, rfl, hno⟩ := hrel
    by_cases hlt : k < xs.length
    · obtain ⟨b, off, rfl, hbB, hc⟩ := h (by omega)
      have g := hc k hlt
      clear hc h
      have hd := hno.out
      rw [List.drop_eq_getElem_cons hlt] at hd
      by_cases hx : xs[k] = v
      · have ht : (xs[k] == v) = true := by simp [hx]
        have H := hid (show (k : Int) = z by simpa [fidx, hx] using hd)
        clear hx hd
        go_wp2
        go_ret
        exact ⟨by rw [← H.out]; rfl, rfl⟩
      · have ht : (xs[k] == v) = false := by simp only [beq_eq_false_iff_ne]; exact hx
        have HN := hid (show fidx (xs.drop (k + 1)) v (k + 1) = z by simpa [fidx, hx] using hd)
        clear hx hd
        go_wp2
        go_round
        case rel => exact ⟨k + 1, by omega, by go_num, HN⟩
        case measure => simp [intOf]; omega
    · have e : k = xs.length := by omega
      subst e
      have H := hid (show (-1 : Int) = z by have := hno.out; rw [List.drop_length] at this; exact this)
      clear h
      go_wp2
      go_ret
      exact ⟨by rw [← H.out]; rfl, rfl⟩
theorem in_isF (v lo hi : Int) (b : Bool) (w : World) (h : inR v lo hi = b) : Calls Try.prog 61 #[.int .i64 v, .int .i64 lo, .int .i64 hi] w fun e w' => e = .returned (.bool b) ∧ w' = w := (in_is v lo hi b w h).mono fun _ _ h => ⟨h.1, h.2.symm⟩
end Go.Proofs.Ytfeeimbepdfadaa.Fidx
