/- The library's slices.Equal at rows of ints. -/
import Derived.Test.YtliomgoakiidfaaRows
import Derived.Test.YtliomgoakiidfaaNum
import Derived.Test.YtliomgoakiidfaaIntRow
import Derived.WalkKit
import Derived.IntWalk
import Derived.BigQuiet
import Derived.Deep.QuietTactic
namespace Go.Proofs.Ytliomgoakiidfaa.LibEqual
open Go.RowKit
open Go.Proofs.Ytliomgoakiidfaa.Num Go.Proofs.Ytliomgoakiidfaa.IntRow
set_option linter.unusedVariables false

theorem lib_equal (a1 a2 : Option Addr) (l1 l2 cap1 cap2 B1 B2 : Nat) (xs ys : List Int) (w : World) (hl1 : xs.length = l1) (hl2 : ys.length = l2) (hn1 : l1 ≤ 1048576) (hn2 : l2 ≤ 1048576) (h1 : Rd w B1 a1 xs) (h2 : Rd w B2 a2 ys) (hB1 : B1 ≤ w.heap.size) (hB2 : B2 ≤ w.heap.size) :
    Calls Try.prog 68 #[.slice a1 l1 cap1, .slice a2 l2 cap2] w fun e w' => e = .returned (.bool (decide (xs = ys))) ∧ Below w.heap.size w w' := by
  by_cases hl : l1 = l2
  · subst hl
    have hne : ((l1 : Int) != (l1 : Int)) = false := by simp
    go_enter Try.func68, Try.ntmps68
    go_wp2
    go_loopw [5, 13] (fun _ i wr => ∃ k : Nat, k ≤ l1 ∧ i = .int .i64 k ∧ Hid (∀ j (h1 : j < xs.length) (h2 : j < ys.length), j < k → xs[j] = ys[j]) ∧ Below w.heap.size w wr) (fun _ i _ => l1 - (intOf i).toNat)
    case atStart => exact ⟨0, Nat.zero_le _, rfl, hid (fun j _ _ h => by omega), Below.refl _ _⟩
    case round =>
      obtain ⟨k, hk, rfl, hsame, hb⟩ := hrel
      by_cases hlt : k < l1
      · have hk1 : k < xs.length := by omega
        have hk2 : k < ys.length := by omega
        obtain ⟨b, off, rfl, hbB, hc⟩ := (h1.below (hb.mono hB1)) (by omega)
        obtain ⟨b', off', rfl, hbB', hc'⟩ := (h2.below (hb.mono hB2)) (by omega)
        have g := hc k hk1
        have g' := hc' k hk2
        clear hc hc' h1 h2
        have hlt' : (k : Int) < (l1 : Int) := by omega
        have h0' : (0 : Int) ≤ (k : Int) := by omega
        by_cases hx : xs[k] = ys[k]
        · have ht : (xs[k] != ys[k]) = false := by simp [hx]
          have HS := hid (show ∀ j (h1 : j < xs.length) (h2 : j < ys.length), j < k + 1 → xs[j] = ys[j] from fun j h1 h2 hj => by
            by_cases e : j = k
            · subst e; exact hx
            · exact hsame.out j h1 h2 (by omega))
          clear hx hsame
          go_wp2
          go_quiet (fail)
          go_wp2
          go_roundw
          case rel => exact ⟨k + 1, by omega, by go_num, HS, by exact ⟨hb.os, hb.tape, hb.output, hb.size, hb.block⟩⟩
          case measure => simp [intOf]; omega
        · have ht : (xs[k] != ys[k]) = true := by simp [hx]
          have hf := hid (show decide (xs = ys) = false from by
            rw [decide_eq_false_iff_not]
            intro e
            subst e
            exact hx rfl)
          clear hx hsame
          go_wp2
          go_quiet (fail)
          go_wp2
          go_ret
          exact ⟨by rw [hf.out]; rfl, ⟨hb.os, hb.tape, hb.output, hb.size, hb.block⟩⟩
      · have hf := hid (show decide (xs = ys) = true from by
          rw [decide_eq_true_iff]
          exact List.ext_getElem (hl1.trans hl2.symm) (fun j h1 h2 => hsame.out j h1 h2 (by omega)))
        clear h1 h2 hsame
        go_wp2
        go_ret
        exact ⟨by rw [hf.out]; rfl, hb⟩
  · have hne : ((l1 : Int) != (l2 : Int)) = true := by simp only [bne_iff_ne]; omega
    have hf := hid (show decide (xs = ys) = false from by
      rw [decide_eq_false_iff_not]
      intro e
      subst e
      omega)
    clear h1 h2 hl
    go_enter Try.func68, Try.ntmps68
    go_wp2
    go_ret
    exact ⟨by rw [hf.out]; rfl, Below.refl _ _⟩
end Go.Proofs.Ytliomgoakiidfaa.LibEqual
