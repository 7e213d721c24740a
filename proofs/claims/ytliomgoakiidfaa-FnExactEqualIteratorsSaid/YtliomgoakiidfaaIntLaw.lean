/- Contracts of the laws' own helpers on rows of ints (a seat without big integers). -/
import Derived.Test.YtliomgoakiidfaaRows
import Derived.Test.YtliomgoakiidfaaNum
import Derived.Test.YtliomgoakiidfaaIntRow
import Derived.WalkKit
import Derived.IntWalk
import Derived.BigQuiet
import Derived.Deep.QuietTactic
namespace Go.Proofs.Ytliomgoakiidfaa.IntLaw
open Go.RowKit
open Go.Proofs.Ytliomgoakiidfaa.Num Go.Proofs.Ytliomgoakiidfaa.IntRow
set_option linter.unusedVariables false

theorem info : (Try.prog.info? 3).map (fun i => (i.zero, i.size, i.bytes)) = some (some (.int .i64 0), 1, 8) := by kernel_rfl

theorem eq_ints (a a' : Option Addr) (cap cap' : Nat) (xs : List Int) (B B' : Nat) (w : World) (hn : xs.length ≤ 1048576) (h : Rd w B a xs) (h' : Rd w B' a' xs) (hB : B ≤ w.heap.size) (hB' : B' ≤ w.heap.size) :
    Calls Try.prog 49 #[.slice a xs.length cap, .slice a' xs.length cap'] w fun e w' => e = .returned (.bool true) ∧ Below w.heap.size w w' := by
  go_enter Try.func49, Try.ntmps49
  go_wp2
  go_loopw [5] (fun i wr => ∃ k : Nat, k ≤ xs.length ∧ i = .int .i64 k ∧ Below w.heap.size w wr) (fun i _ => xs.length - (intOf i).toNat)
  case atStart => exact ⟨0, Nat.zero_le _, rfl, Below.refl _ _⟩
  case round =>
    obtain ⟨k, hk, rfl, hb⟩ := hrel
    by_cases hlt : k < xs.length
    · obtain ⟨b, off, rfl, hbB, hc⟩ := (h.below (hb.mono hB)) (by omega)
      obtain ⟨b', off', rfl, hbB', hc'⟩ := (h'.below (hb.mono hB')) (by omega)
      have g := hc k hlt
      have g' := hc' k hlt
      clear hc hc' h h'
      have hlt' : (k : Int) < (xs.length : Int) := by omega
      have h0' : (0 : Int) ≤ (k : Int) := by omega
      go_wp2
      go_quiet (fail)
      go_wp2
      go_roundw
      case rel => exact ⟨k + 1, by omega, by go_num, by exact ⟨hb.os, hb.tape, hb.output, hb.size, hb.block⟩⟩
      case measure => simp [intOf]; omega
    · go_wp2
      go_ret
      exact ⟨rfl, hb⟩

theorem held_ints (a : Option Addr) (cap : Nat) (k0 : Int) (n : Nat) (B : Nat) (w : World) (hn : n ≤ 1048576) (h0 : 0 ≤ k0) (h1 : k0 ≤ 4194304) (h : Rd w B a (marks k0 n)) :
    Calls Try.prog 51 #[.slice a n cap, .int .i64 k0] w fun e w' => e = .returned (.int .i64 (k0 + n)) ∧ w = w' := by
  have hl := marks_length k0 n
  go_enter Try.func51, Try.ntmps51
  go_wp2
  go_loop [1, 5] (fun q i => ∃ k : Nat, k ≤ n ∧ i = .int .i64 k ∧ q = .int .i64 (k0 + k)) (fun _ i => n - (intOf i).toNat)
  case atStart => exact ⟨0, Nat.zero_le _, rfl, by go_num⟩
  case round =>
    obtain ⟨k, hk, rfl, rfl⟩ := hrel
    by_cases hlt : k < n
    · obtain ⟨b, off, rfl, hbB, hc⟩ := h (by omega)
      have g := hc k (by omega)
      rw [marks_at k0 n k (by omega)] at g
      clear hc h
      have ht : ((k0 + (k : Int)) != (k0 + (k : Int))) = false := by simp
      clear hl
      go_wp2
      go_round
      case rel => exact ⟨k + 1, by omega, by go_num, by go_num⟩
      case measure => simp [intOf]; omega
    · have e : k = n := by omega
      subst e
      clear hl
      go_wp2
      go_ret
      exact ⟨rfl, rfl⟩

theorem mark_ints (g cap : Nat) (k0 : Int) (xs : List Int) (w : World) (hn : xs.length ≤ 1048576) (h0 : 0 ≤ k0) (h1 : k0 ≤ 4194304) (h : At w g 3 cap xs) :
    Calls Try.prog 50 #[.slice (some ⟨g, 0, none⟩) xs.length cap, .int .i64 k0] w fun e w' => e = .returned (.int .i64 (k0 + xs.length)) ∧ At w' g 3 cap (marks k0 xs.length) ∧ w.grownBy w' (some g) := by
  go_enter Try.func50, Try.ntmps50
  go_wp2
  go_loopw [1, 5] (fun q i wr => ∃ k : Nat, k ≤ xs.length ∧ i = .int .i64 k ∧ q = .int .i64 (k0 + k) ∧ At wr g 3 cap (marked k0 xs k) ∧ w.grownBy wr (some g)) (fun _ i _ => xs.length - (intOf i).toNat)
  case atStart => exact ⟨0, Nat.zero_le _, rfl, by go_num, h, World.grownBy.refl _ _⟩
  case round =>
    obtain ⟨k, hk, rfl, rfl, hat, hgr⟩ := hrel
    by_cases hlt : k < xs.length
    · have hml := marked_length k0 xs k hk
      obtain ⟨u, c1⟩ : ∃ u, wr.cell? ⟨g, k, none⟩ = some u := ⟨_, hat.cell k (by omega)⟩
      have c2 := hat.free k
      have hset := hat.set k (k0 + k)
      rw [marked_step k0 xs k hlt] at hset
      have hgs := hat.set_grown k (.int .i64 (k0 + k))
      clear hml hat
      go_wp2
      go_roundw
      case rel => exact ⟨k + 1, by omega, by go_num, by go_num, hset, grown_trans hgr hgs⟩
      case measure => simp [intOf]; omega
    · have e : k = xs.length := by omega
      subst e
      rw [marked_all] at hat
      go_wp2
      go_ret
      exact ⟨rfl, hat, hgr⟩

theorem mark_nil (k0 : Int) (w : World) :
    Calls Try.prog 50 #[.slice none 0 0, .int .i64 k0] w fun e w' => e = .returned (.int .i64 k0) ∧ w = w' := by
  go_enter Try.func50, Try.ntmps50
  go_wp2
  go_loop [1, 5] (fun q i => q = .int .i64 k0 ∧ i = .int .i64 0) (fun _ _ => 0)
  case atStart => exact ⟨rfl, rfl⟩
  case round =>
    obtain ⟨rfl, rfl⟩ := hrel
    go_wp2
    go_ret
    exact ⟨rfl, rfl⟩

/-! ### a copy of an argument -/
def filled (xs : List Int) (k : Nat) : List Int := xs.take k ++ List.replicate (xs.length - k) 0
theorem filled_zero (xs : List Int) : filled xs 0 = List.replicate xs.length 0 := by simp [filled]
theorem filled_all (xs : List Int) : filled xs xs.length = xs := by simp [filled]
theorem filled_length (xs : List Int) (k : Nat) (h : k ≤ xs.length) : (filled xs k).length = xs.length := by simp [filled]; omega
theorem filled_step (xs : List Int) (k : Nat) (h : k < xs.length) : (filled xs k).set k xs[k] = filled xs (k + 1) := by
  unfold filled
  rw [List.set_append_right _ _ (by simp; omega), show k - (xs.take k).length = 0 by simp; omega, show xs.length - k = (xs.length - (k + 1)) + 1 by omega, List.replicate_succ, List.set_cons_zero, List.take_succ_eq_append_getElem h, List.append_assoc]
  rfl

theorem to_ints (a : Option Addr) (cap B : Nat) (xs : List Int) (w : World) (hn : xs.length ≤ 1048576) (h : Rd w B a xs) (hB : B ≤ w.heap.size) :
    Calls Try.prog 78 #[.slice a xs.length cap] w fun e w' => e = .returned (.slice (some ⟨w.heap.size, 0, none⟩) xs.length xs.length) ∧ At w' w.heap.size 3 xs.length xs ∧ Below w.heap.size w w' := by
  obtain ⟨i0, hi, hz0, hz1, hz2⟩ := info_parts info
  have hmk := make_ints (P := Try.prog) w 27 3 i0 Try.underlying27 hi hz0 hz1 hz2 xs.length (by omega)
  have hat0 := hid (at_made w 3 xs.length (by omega))
  go_enter Try.func78, Try.ntmps78
  go_wp2
  go_loopw [4] (fun i wr => ∃ k : Nat, k ≤ xs.length ∧ i = .int .i64 k ∧ At wr w.heap.size 3 xs.length (filled xs k) ∧ Below w.heap.size w wr) (fun i _ => xs.length - (intOf i).toNat)
  case atStart => exact ⟨0, Nat.zero_le _, rfl, by rw [filled_zero]; exact hat0.out, (Below.refl _ _).alloc (Nat.le_refl _) _⟩
  case round =>
    obtain ⟨k, hk, rfl, hat, hb⟩ := hrel
    have hfl := filled_length xs k hk
    by_cases hlt : k < xs.length
    · obtain ⟨b, off, rfl, hbB, hc⟩ := (h.below (hb.mono hB)) (by omega)
      have g := hc k hlt
      obtain ⟨u, c1⟩ : ∃ u, wr.cell? ⟨w.heap.size, k, none⟩ = some u := ⟨_, hat.cell k (by omega)⟩
      have c2 := hat.free k
      have hset := hid (hat.set k xs[k])
      rw [filled_step xs k hlt] at hset
      clear hat hfl hc h hmk
      go_wp2
      go_roundw
      case rel => exact ⟨k + 1, by omega, by go_num, hset.out, hb.setCell (Nat.le_refl _) _⟩
      case measure => simp [intOf]; omega
    · have e : k = xs.length := by omega
      subst e
      rw [filled_all] at hat
      clear hmk
      go_wp2
      go_ret
      exact ⟨rfl, hat, hb⟩

end Go.Proofs.Ytliomgoakiidfaa.IntLaw
