/- Contracts of the laws' own helpers on grids (rows of rows of ints). -/
import Derived.Test.YtliomgoakiidfaaRows
import Derived.Test.YtliomgoakiidfaaNum
import Derived.Test.YtliomgoakiidfaaIntLaw
import Derived.Test.YtliomgoakiidfaaGrid
import Derived.Test.YtliomgoakiidfaaKept
import Derived.Deep.RegionHeld3
import Derived.Deep.DeepCutAuto
namespace Go.Proofs.Ytliomgoakiidfaa.GridLaw
open Go.RowKit
open Go.Proofs.Ytliomgoakiidfaa.Num Go.Proofs.Ytliomgoakiidfaa.IntRow Go.Proofs.Ytliomgoakiidfaa.IntLaw Go.Proofs.Ytliomgoakiidfaa.Grid Go.Proofs.Ytliomgoakiidfaa.Keep Go.Proofs.Ytliomgoakiidfaa.Kept
set_option linter.unusedVariables false

theorem info : (Try.prog.info? 27).map (fun i => (i.zero, i.size, i.bytes)) = some (some (.slice none 0 0), 1, 24) := by kernel_rfl

/-- The cells that a grid takes: its headers and its ints. -/
def tot (xss : List (List Int)) : Nat := xss.length + (xss.map List.length).sum
def summed (xss : List (List Int)) (k : Nat) : Nat := ((xss.take k).map List.length).sum
theorem summed_zero (xss : List (List Int)) : summed xss 0 = 0 := rfl
theorem summed_step (xss : List (List Int)) (k : Nat) (h : k < xss.length) : summed xss (k + 1) = summed xss k + xss[k].length := by
  unfold summed
  rw [List.take_succ_eq_append_getElem h, List.map_append, List.sum_append_nat]
  simp
theorem summed_all (xss : List (List Int)) : summed xss xss.length = (xss.map List.length).sum := by simp [summed]
theorem summed_mono (xss : List (List Int)) {i j : Nat} (h : i ≤ j) (hj : j ≤ xss.length) : summed xss i ≤ summed xss j := by
  induction j with
  | zero =>
    have e : i = 0 := by omega
    rw [e]
    exact Nat.le_refl _
  | succ j ih =>
    by_cases e : i = j + 1
    · subst e; exact Nat.le_refl _
    · have := ih (by omega) (by omega)
      have := summed_step xss j (by omega)
      omega
theorem row_le (xss : List (List Int)) (k : Nat) (h : k < xss.length) : xss.length + xss[k].length ≤ tot xss := by
  have h1 := summed_step xss k h
  have h2 := summed_mono xss (show k + 1 ≤ xss.length by omega) (Nat.le_refl _)
  rw [summed_all] at h2
  unfold tot
  omega
theorem tot_len (xss : List (List Int)) : xss.length ≤ tot xss := by unfold tot; omega

theorem sz_int (a : Option Addr) (n cap : Nat) (k r : Int) (w : World) (h0 : 0 ≤ k) (hk : k ≤ 1048576) (hn : n ≤ 9223372036854775807) (hr : (k < (n : Int) ∧ r = -1) ∨ ((n : Int) ≤ k ∧ r = k - n)) :
    Calls Try.prog 77 #[.slice a n cap, .int .i64 k] w fun e w' => e = .returned (.int .i64 r) ∧ w = w' := by
  rcases hr with ⟨h, rfl⟩ | ⟨h, rfl⟩
  · have h1 : k - (n : Int) < 0 := by omega
    go_enter Try.func77, Try.ntmps77
    go_wp2
    go_ret
    exact ⟨rfl, rfl⟩
  · have h1 : ¬ (k - (n : Int) < 0) := by omega
    go_enter Try.func77, Try.ntmps77
    go_wp2
    go_ret
    exact ⟨rfl, rfl⟩

/-- The measure of a grid: -1 where it is too long. -/
theorem sz_ss (a : Option Addr) (cap B : Nat) (xss : List (List Int)) (k r : Int) (w : World) (h0 : 0 ≤ k) (hk : k ≤ 1048576) (hn : xss.length ≤ 9223372036854775807) (hm : ∀ j (h : j < xss.length), xss[j].length ≤ 9223372036854775807) (h : GRd w B a xss)
    (hr : RowKit.Hid ((k < (tot xss : Nat) ∧ r = -1) ∨ ((tot xss : Nat) ≤ k ∧ r = k - (tot xss : Nat)))) :
    Calls Try.prog 72 #[.slice a xss.length cap, .int .i64 k] w fun e w' => e = .returned (.int .i64 r) ∧ w = w' := by
  have htl := tot_len xss
  by_cases hlen : k < (xss.length : Int)
  · have h1 : k - (xss.length : Int) < 0 := by omega
    have hre : r = -1 := by rcases hr.out with h | h <;> omega
    subst hre
    clear h hm hr htl
    go_enter Try.func72, Try.ntmps72
    go_wp2
    go_ret
    exact ⟨rfl, rfl⟩
  · have h1 : ¬ (k - (xss.length : Int) < 0) := by omega
    have hM := hid hm
    clear hm
    go_enter Try.func72, Try.ntmps72
    go_wp2
    go_loop [1, 5] (fun l i => ∃ (j : Nat) (z : Int), j ≤ xss.length ∧ i = .int .i64 j ∧ l = .int .i64 z ∧ 0 ≤ z ∧ z ≤ 1048576 ∧ Hid (z = k - xss.length - (summed xss j : Nat))) (fun _ i => xss.length - (intOf i).toNat)
    case atStart => exact ⟨0, _, Nat.zero_le _, rfl, rfl, by omega, by omega, hid (by rw [summed_zero]; simp)⟩
    case round =>
      obtain ⟨j, z, hj, rfl, rfl, hz0, hz1, hz⟩ := hrel
      clear h1 hlen
      by_cases hlt : j < xss.length
      · obtain ⟨b, off, rfl, hbB, hc⟩ := h (by omega)
        obtain ⟨aj, capj, g, _⟩ := hc j hlt
        have hst := summed_step xss j hlt
        have hmono := summed_mono xss (show j + 1 ≤ xss.length by omega) (Nat.le_refl _)
        rw [summed_all] at hmono
        have hzz := hz.out
        have hrr := hr.out
        have ht : (tot xss : Int) = xss.length + ((xss.map List.length).sum : Nat) := by unfold tot; omega
        have hmj := hM.out j hlt
        by_cases hover : z < (xss[j].length : Int)
        · have hre : r = -1 := by rcases hrr with h | h <;> omega
          subst hre
          have S := hid (sz_int aj xss[j].length capj z (-1) w hz0 hz1 hmj (by omega))
          clear hc h hst hmono hzz hrr ht hmj hover htl
          go_wp2_with fail
          refine S.out.mono ?_
          rintro e w' ⟨rfl, rfl⟩
          go_wp2
          go_ret
          exact ⟨rfl, rfl⟩
        · have S := hid (sz_int aj xss[j].length capj z (z - xss[j].length) w hz0 hz1 hmj (by omega))
          have h2 : ¬ (z - (xss[j].length : Int) < 0) := by omega
          have h3 : 0 ≤ z - (xss[j].length : Int) := by omega
          have hz2 := hid (show z - (xss[j].length : Int) = k - xss.length - (summed xss (j + 1) : Nat) by omega)
          clear hc h hst hmono hzz hrr ht hmj hover htl
          go_wp2_with fail
          refine S.out.mono ?_
          rintro e w' ⟨rfl, rfl⟩
          go_wp2
          go_round
          case rel => exact ⟨j + 1, _, by omega, by go_num, rfl, by omega, by omega, hz2⟩
          case measure => simp [intOf]; omega
      · have e : j = xss.length := by omega
        subst e
        have hre := hid (show z = r by
          have hzz := hz.out
          rw [summed_all] at hzz
          have ht : (tot xss : Int) = xss.length + ((xss.map List.length).sum : Nat) := by unfold tot; omega
          rcases hr.out with h | h <;> omega)
        clear h htl
        go_wp2
        go_ret
        exact ⟨by rw [hre.out]; rfl, rfl⟩

set_option maxRecDepth 100000 in
/-- Two readings of one grid are the same. -/
theorem eq_ss (a a' : Option Addr) (cap cap' : Nat) (xss : List (List Int)) (B B' : Nat) (w : World) (hn : tot xss ≤ 1048576) (h : GRd w B a xss) (h' : GRd w B' a' xss) (hB : B ≤ w.heap.size) (hB' : B' ≤ w.heap.size) :
    Calls Try.prog 74 #[.slice a xss.length cap, .slice a' xss.length cap'] w fun e w' => e = .returned (.bool true) ∧ Below w.heap.size w w' := by
  have hn1 : xss.length ≤ 1048576 := by have := tot_len xss; omega
  go_enter Try.func74, Try.ntmps74
  go_wp2
  go_loopw [5] (fun i wr => ∃ k : Nat, k ≤ xss.length ∧ i = .int .i64 k ∧ Hid (Below w.heap.size w wr)) (fun i _ => xss.length - (intOf i).toNat)
  case atStart => exact ⟨0, Nat.zero_le _, rfl, hid (Below.refl _ _)⟩
  case round =>
    obtain ⟨k, hk, rfl, hb⟩ := hrel
    by_cases hlt : k < xss.length
    · obtain ⟨b, off, rfl, hbB, hc⟩ := (h.below (hb.out.mono hB)) (by omega)
      obtain ⟨b', off', rfl, hbB', hc'⟩ := (h'.below (hb.out.mono hB')) (by omega)
      obtain ⟨aj, capj, g, r⟩ := hc k hlt
      obtain ⟨aj', capj', g', r'⟩ := hc' k hlt
      have hrow : xss[k].length ≤ 1048576 := by have := row_le xss k hlt; omega
      have hsz := hb.out.size
      have E := hid (fun W (hW : Below wr.heap.size wr W) => eq_ints aj aj' capj capj' xss[k] B B' W hrow (r.below (hW.mono (by omega))) (r'.below (hW.mono (by omega))) (by have := hW.size; omega) (by have := hW.size; omega))
      clear hc hc' h h' r r'
      have hlt' : (k : Int) < (xss.length : Int) := by omega
      have h0' : (0 : Int) ≤ (k : Int) := by omega
      have hk0 := kp_refl wr
      go_upto_region 6 with fail
      go_cut [26] (fun s wx => s = .bool false ∧ Kp wr 0 wx)
      case first =>
        go_region_held3 (fun w' => w'.cell? ⟨b, off + k, none⟩ = some (.slice aj xss[k].length capj) ∧ w'.cell? ⟨b', off' + k, none⟩ = some (.slice aj' xss[k].length capj') ∧ Kp wr 0 w')
          (first
            | (go_split_ands
               repeat' apply And.intro
               all_goals (first | (with_reducible assumption) | (with_reducible exact cell_drew (by assumption)) | (with_reducible exact Kp.drew (by assumption)) | (with_reducible exact Kp.cell (by assumption) hb1 (by omega) (by assumption)) | (with_reducible exact Kp.call (by assumption) hb1))))
          (first
            | (go_split_ands; go_at_call 49; (with_reducible refine (E.out _ (Kp.bel (n := 0) (by with_reducible assumption))).mono ?_); rintro e wU ⟨rfl, hb1⟩))
        all_goals
          go_wp2_with fail
          go_meet
          go_split_ands
          exact ⟨rfl, by with_reducible assumption⟩
      case rest =>
        obtain ⟨rfl, hkp⟩ := hcut
        have HB := hid (hb.out.trans (hkp.bel.mono hsz))
        clear hkp hk0
        go_wp2
        go_roundw
        case rel => exact ⟨k + 1, by omega, by go_num, HB⟩
        case measure => simp [intOf]; omega
    · clear h h'
      go_wp2
      go_ret
      exact ⟨rfl, hb.out⟩
end Go.Proofs.Ytliomgoakiidfaa.GridLaw
