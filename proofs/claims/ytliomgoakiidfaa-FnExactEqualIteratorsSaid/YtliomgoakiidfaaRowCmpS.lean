/- The comparison of rows, the model's (spec.CompareRows). -/
import Derived.Test.YtliomgoakiidfaaRows
import Derived.Test.YtliomgoakiidfaaNum
import Derived.Test.YtliomgoakiidfaaIntRow
import Derived.Test.YtliomgoakiidfaaCmpL
import Derived.WalkKit
import Derived.IntWalk
import Derived.BigQuiet
import Derived.Deep.QuietTactic
namespace Go.Proofs.Ytliomgoakiidfaa.RowCmpS
open Go.RowKit
open Go.Proofs.Ytliomgoakiidfaa.Num Go.Proofs.Ytliomgoakiidfaa.IntRow Go.Proofs.Ytliomgoakiidfaa.CmpL
set_option linter.unusedVariables false

theorem spec_cmp (a1 a2 : Option Addr) (cap1 cap2 B1 B2 : Nat) (xs ys : List Int) (w : World) (hn1 : xs.length ≤ 1048576) (hn2 : ys.length ≤ 1048576) (h1 : Rd w B1 a1 xs) (h2 : Rd w B2 a2 ys) (hB1 : B1 ≤ w.heap.size) (hB2 : B2 ≤ w.heap.size) :
    Calls Try.prog 65 #[.slice a1 xs.length cap1, .slice a2 ys.length cap2] w fun e w' => e = .returned (.int .i64 (cmpL xs ys)) ∧ Below w.heap.size w w' := by
  go_enter Try.func65, Try.ntmps65
  go_wp2
  go_loopw [5] (fun i wr => ∃ k : Nat, k ≤ xs.length ∧ k ≤ ys.length ∧ i = .int .i64 k ∧ Hid (CLeft xs ys k) ∧ Below w.heap.size w wr) (fun i _ => xs.length - (intOf i).toNat)
  case atStart => exact ⟨0, Nat.zero_le _, Nat.zero_le _, rfl, hid (CLeft.zero _ _), Below.refl _ _⟩
  case round =>
    obtain ⟨k, hk, hk2, rfl, hl, hb⟩ := hrel
    by_cases hlt : k < xs.length
    · by_cases hlt2 : k < ys.length
      · obtain ⟨b, off, rfl, hbB, hc⟩ := (h1.below (hb.mono hB1)) (by omega)
        obtain ⟨b', off', rfl, hbB', hc'⟩ := (h2.below (hb.mono hB2)) (by omega)
        have g := hc k hlt
        have g' := hc' k hlt2
        have hlt' : (k : Int) < (xs.length : Int) := by omega
        have hlt2' : (k : Int) < (ys.length : Int) := by omega
        have h0' : (0 : Int) ≤ (k : Int) := by omega
        clear hc hc' h1 h2
        have HB := hid hb
        clear hb
        rcases (by omega : xs[k] < ys[k] ∨ (¬ xs[k] < ys[k] ∧ ys[k] < xs[k]) ∨ xs[k] = ys[k]) with hx | ⟨hx1, hx⟩ | hx
        · have H := hid (hl.out.lt hlt hlt2 hx)
          go_wp2
          go_quiet (fail)
          go_wp2
          go_ret
          exact ⟨by rw [H.out]; rfl, ⟨HB.out.os, HB.out.tape, HB.out.output, HB.out.size, HB.out.block⟩⟩
        · have H := hid (hl.out.gt hlt hlt2 hx)
          go_wp2
          go_quiet (fail)
          go_wp2
          go_quiet (fail)
          go_wp2
          go_ret
          exact ⟨by rw [H.out]; rfl, ⟨HB.out.os, HB.out.tape, HB.out.output, HB.out.size, HB.out.block⟩⟩
        · have H := hid (hl.out.step hlt hlt2 hx)
          have hx1 : ¬ xs[k] < ys[k] := by omega
          have hx2 : ¬ ys[k] < xs[k] := by omega
          clear hx
          go_wp2
          go_quiet (fail)
          go_wp2
          go_quiet (fail)
          go_wp2
          go_roundw
          case rel => exact ⟨k + 1, by omega, by omega, by go_num, H, ⟨HB.out.os, HB.out.tape, HB.out.output, HB.out.size, HB.out.block⟩⟩
          case measure => simp [intOf]; omega
      · have H := hid (hl.out.long hlt (by omega))
        have e1 : ¬ (xs.length : Int) < (ys.length : Int) := by omega
        have e2 : (ys.length : Int) < (xs.length : Int) := by omega
        have HB := hid hb
        clear h1 h2 hb
        go_wp2
        go_ret
        exact ⟨by rw [H.out]; rfl, HB.out⟩
    · have HB := hid hb
      by_cases hlt2 : xs.length < ys.length
      · have H := hid (hl.out.short (by omega) (by omega))
        clear h1 h2 hb
        go_wp2
        go_ret
        exact ⟨by rw [H.out]; rfl, HB.out⟩
      · have H := hid (hl.out.same (by omega) (by omega))
        have e2 : ¬ (ys.length : Int) < (xs.length : Int) := by omega
        clear h1 h2 hb
        go_wp2
        go_ret
        exact ⟨by rw [H.out]; rfl, HB.out⟩
end Go.Proofs.Ytliomgoakiidfaa.RowCmpS
