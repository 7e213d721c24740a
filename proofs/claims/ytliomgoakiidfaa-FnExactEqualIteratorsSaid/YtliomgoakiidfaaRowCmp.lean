/- The comparison of rows (impl.CompareRows over the library's slices.Compare); RowCmpS holds the model's. -/
import Derived.Test.YtliomgoakiidfaaRows
import Derived.Test.YtliomgoakiidfaaNum
import Derived.Test.YtliomgoakiidfaaIntRow
import Derived.Test.YtliomgoakiidfaaRowCmpS
import Derived.WalkKit
import Derived.IntWalk
import Derived.BigQuiet
import Derived.Deep.QuietTactic
namespace Go.Proofs.Ytliomgoakiidfaa.RowCmp
open Go.RowKit
open Go.Proofs.Ytliomgoakiidfaa.Num Go.Proofs.Ytliomgoakiidfaa.IntRow Go.Proofs.Ytliomgoakiidfaa.CmpL
set_option linter.unusedVariables false

theorem nan_no (x : Int) (w : World) : Calls Try.prog 113 #[.int .i64 x] w fun e w' => e = .returned (.bool false) ∧ w = w' := by
  have hx : (x != x) = false := by simp
  go_enter Try.func113, Try.ntmps113
  go_wp2
  go_ret
  exact ⟨rfl, rfl⟩
theorem cmp_int (x y c : Int) (w : World) (h : (x < y ∧ c = -1) ∨ (¬ x < y ∧ y < x ∧ c = 1) ∨ (¬ x < y ∧ ¬ y < x ∧ c = 0)) :
    Calls Try.prog 110 #[.int .i64 x, .int .i64 y] w fun e w' => e = .returned (.int .i64 c) ∧ w = w' := by
  rcases h with ⟨h, rfl⟩ | ⟨h, h2, rfl⟩ | ⟨h, h2, rfl⟩ <;>
  · go_enter Try.func110, Try.ntmps110
    go_wp2_with fail
    refine (nan_no _ _).mono ?_
    rintro e w' ⟨rfl, rfl⟩
    go_wp2_with fail
    refine (nan_no _ _).mono ?_
    rintro e w' ⟨rfl, rfl⟩
    go_wp2_with fail
    go_ret
    exact ⟨rfl, rfl⟩

theorem lib_cmp (a1 a2 : Option Addr) (cap1 cap2 B1 B2 : Nat) (xs ys : List Int) (w : World) (hn1 : xs.length ≤ 1048576) (hn2 : ys.length ≤ 1048576) (h1 : Rd w B1 a1 xs) (h2 : Rd w B2 a2 ys) :
    Calls Try.prog 104 #[.slice a1 xs.length cap1, .slice a2 ys.length cap2] w fun e w' => e = .returned (.int .i64 (cmpL xs ys)) ∧ w = w' := by
  go_enter Try.func104, Try.ntmps104
  go_wp2
  go_loop [5, 6, 7, 8, 11] (fun _ _ _ _ i => ∃ k : Nat, k ≤ xs.length ∧ k ≤ ys.length ∧ i = .int .i64 k ∧ Hid (CLeft xs ys k)) (fun _ _ _ _ i => xs.length - (intOf i).toNat)
  case atStart => exact ⟨0, Nat.zero_le _, Nat.zero_le _, rfl, hid (CLeft.zero _ _)⟩
  case round =>
    obtain ⟨k, hk, hk2, rfl, hl⟩ := hrel
    by_cases hlt : k < xs.length
    · by_cases hlt2 : k < ys.length
      · obtain ⟨b, off, rfl, hbB, hc⟩ := h1 (by omega)
        obtain ⟨b', off', rfl, hbB', hc'⟩ := h2 (by omega)
        have g := hc k hlt
        have g' := hc' k hlt2
        clear hc hc' h1 h2
        rcases (by omega : xs[k] < ys[k] ∨ ys[k] < xs[k] ∨ xs[k] = ys[k]) with hx | hx | hx
        · have H := hid (hl.out.lt hlt hlt2 hx)
          have C := hid (cmp_int xs[k] ys[k] (-1) w (by omega))
          clear hx
          go_wp2_with fail
          refine C.out.mono ?_
          rintro e w' ⟨rfl, rfl⟩
          go_wp2_with fail
          go_ret
          exact ⟨by rw [H.out]; rfl, rfl⟩
        · have H := hid (hl.out.gt hlt hlt2 hx)
          have C := hid (cmp_int xs[k] ys[k] 1 w (by omega))
          clear hx
          go_wp2_with fail
          refine C.out.mono ?_
          rintro e w' ⟨rfl, rfl⟩
          go_wp2_with fail
          go_ret
          exact ⟨by rw [H.out]; rfl, rfl⟩
        · have H := hid (hl.out.step hlt hlt2 hx)
          have C := hid (cmp_int xs[k] ys[k] 0 w (by omega))
          clear hx
          go_wp2_with fail
          refine C.out.mono ?_
          rintro e w' ⟨rfl, rfl⟩
          go_wp2_with fail
          go_round
          case rel => exact ⟨k + 1, by omega, by omega, by go_num, H⟩
          case measure => simp [intOf]; omega
      · obtain ⟨b, off, rfl, hbB, hc⟩ := h1 (by omega)
        have g := hc k hlt
        have H := hid (hl.out.long hlt (by omega))
        clear hc h1 h2
        go_wp2
        go_ret
        exact ⟨by rw [H.out]; rfl, rfl⟩
    · by_cases hlt2 : xs.length < ys.length
      · have H := hid (hl.out.short (by omega) (by omega))
        clear h1 h2
        go_wp2
        go_ret
        exact ⟨by rw [H.out]; rfl, rfl⟩
      · have H := hid (hl.out.same (by omega) (by omega))
        clear h1 h2
        go_wp2
        go_ret
        exact ⟨by rw [H.out]; rfl, rfl⟩

theorem impl_cmp (a1 a2 : Option Addr) (cap1 cap2 B1 B2 : Nat) (xs ys : List Int) (w : World) (hn1 : xs.length ≤ 1048576) (hn2 : ys.length ≤ 1048576) (h1 : Rd w B1 a1 xs) (h2 : Rd w B2 a2 ys) :
    Calls Try.prog 96 #[.slice a1 xs.length cap1, .slice a2 ys.length cap2] w fun e w' => e = .returned (.int .i64 (cmpL xs ys)) ∧ w = w' := by
  have C := hid (lib_cmp a1 a2 cap1 cap2 B1 B2 xs ys w hn1 hn2 h1 h2)
  clear h1 h2
  go_enter Try.func96, Try.ntmps96
  go_wp2_with fail
  refine C.out.mono ?_
  rintro e w' ⟨rfl, rfl⟩
  go_wp2_with fail
  go_ret
  exact ⟨rfl, rfl⟩

end Go.Proofs.Ytliomgoakiidfaa.RowCmp
