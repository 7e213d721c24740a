/- The comparison of rows (impl.CompareRows over the library's slices.Compare, spec.CompareRows). -/
import Derived.Test.YtnnhkghdlekanaaRows
import Derived.Test.YtnnhkghdlekanaaNum
import Derived.Test.YtnnhkghdlekanaaIntRow
import Derived.WalkKit
import Derived.IntWalk
import Derived.BigQuiet
import Derived.Deep.QuietTactic
namespace Go.Proofs.Ytnnhkghdlekanaa.RowCmp
open Go.RowKit
open Go.Proofs.Ytnnhkghdlekanaa.Num Go.Proofs.Ytnnhkghdlekanaa.IntRow
set_option linter.unusedVariables false

/-- The order of two ints, and of two rows: value by value, a proper prefix first. -/
def ord (x y : Int) : Int := if x < y then -1 else if y < x then 1 else 0
def cmpL : List Int → List Int → Int
  | [], [] => 0
  | [], _ :: _ => -1
  | _ :: _, [] => 1
  | x :: xs, y :: ys => if x < y then -1 else if y < x then 1 else cmpL xs ys
theorem cmpL_lt (x y : Int) (xs ys : List Int) (h : x < y) : cmpL (x :: xs) (y :: ys) = -1 := by simp [cmpL, h]
theorem cmpL_gt (x y : Int) (xs ys : List Int) (h : y < x) : cmpL (x :: xs) (y :: ys) = 1 := by
  simp only [cmpL]
  rw [if_neg (by omega), if_pos h]
theorem cmpL_eq (x y : Int) (xs ys : List Int) (h : x = y) : cmpL (x :: xs) (y :: ys) = cmpL xs ys := by
  simp only [cmpL]
  rw [if_neg (by omega), if_neg (by omega)]
/-- What the rows' first k values leave to decide. -/
def Left (xs ys : List Int) (k : Nat) : Prop := cmpL xs ys = cmpL (xs.drop k) (ys.drop k)
theorem Left.zero (xs ys : List Int) : Left xs ys 0 := rfl
theorem Left.lt {xs ys : List Int} {k : Nat} (h : Left xs ys k) (h1 : k < xs.length) (h2 : k < ys.length) (hc : xs[k] < ys[k]) : cmpL xs ys = -1 := by
  rw [h, List.drop_eq_getElem_cons h1, List.drop_eq_getElem_cons h2, cmpL_lt _ _ _ _ hc]
theorem Left.gt {xs ys : List Int} {k : Nat} (h : Left xs ys k) (h1 : k < xs.length) (h2 : k < ys.length) (hc : ys[k] < xs[k]) : cmpL xs ys = 1 := by
  rw [h, List.drop_eq_getElem_cons h1, List.drop_eq_getElem_cons h2, cmpL_gt _ _ _ _ hc]
theorem Left.step {xs ys : List Int} {k : Nat} (h : Left xs ys k) (h1 : k < xs.length) (h2 : k < ys.length) (hc : xs[k] = ys[k]) : Left xs ys (k + 1) := by
  unfold Left at h ⊢
  rw [h, List.drop_eq_getElem_cons h1, List.drop_eq_getElem_cons h2, cmpL_eq _ _ _ _ hc]
theorem drop_end {xs : List Int} {k : Nat} (h : xs.length ≤ k) : xs.drop k = [] := List.drop_eq_nil_of_le h
theorem Left.short {xs ys : List Int} {k : Nat} (h : Left xs ys k) (h1 : xs.length ≤ k) (h2 : k < ys.length) : cmpL xs ys = -1 := by
  rw [h, drop_end h1, List.drop_eq_getElem_cons h2]
  rfl
theorem Left.long {xs ys : List Int} {k : Nat} (h : Left xs ys k) (h1 : k < xs.length) (h2 : ys.length ≤ k) : cmpL xs ys = 1 := by
  rw [h, drop_end h2, List.drop_eq_getElem_cons h1]
  rfl
theorem Left.same {xs ys : List Int} {k : Nat} (h : Left xs ys k) (h1 : xs.length ≤ k) (h2 : ys.length ≤ k) : cmpL xs ys = 0 := by
  rw [h, drop_end h1, drop_end h2]
  rfl

theorem nan_no (x : Int) (w : World) : Calls Try.prog 43 #[.int .i64 x] w fun e w' => e = .returned (.bool false) ∧ w = w' := by
  have hx : (x != x) = false := by simp
  go_enter Try.func43, Try.ntmps43
  go_wp2
  go_ret
  exact ⟨rfl, rfl⟩
theorem cmp_int (x y c : Int) (w : World) (h : (x < y ∧ c = -1) ∨ (¬ x < y ∧ y < x ∧ c = 1) ∨ (¬ x < y ∧ ¬ y < x ∧ c = 0)) :
    Calls Try.prog 41 #[.int .i64 x, .int .i64 y] w fun e w' => e = .returned (.int .i64 c) ∧ w = w' := by
  rcases h with ⟨h, rfl⟩ | ⟨h, h2, rfl⟩ | ⟨h, h2, rfl⟩ <;>
  · go_enter Try.func41, Try.ntmps41
    go_wp2_with fail
    refine (nan_no _ _).mono ?_
    rintro e w' ⟨rfl, rfl⟩
    go_wp2_with fail
    refine (nan_no _ _).mono ?_
    rintro e w' ⟨rfl, rfl⟩
    go_wp2_with fail
    go_ret
    exact ⟨rfl, rfl⟩

theorem lib_cmp (a1 a2 : Option Addr) (cap1 cap2 B1 B2 : Nat) (xs ys : List Int) (w : World) (hn1 : xs.length ≤ 1048576) (hn2 : ys.length ≤ 1048576) (h1 : Rd w B1 a1 xs) (h2 : Rd w B2 a2 ys) :
    Calls Try.prog 34 #[.slice a1 xs.length cap1, .slice a2 ys.length cap2] w fun e w' => e = .returned (.int .i64 (cmpL xs ys)) ∧ w = w' := by
  go_enter Try.func34, Try.ntmps34
  go_wp2
  go_loop [5, 6, 7, 8, 11] (fun _ _ _ _ i => ∃ k : Nat, k ≤ xs.length ∧ k ≤ ys.length ∧ i = .int .i64 k ∧ Hid (Left xs ys k)) (fun _ _ _ _ i => xs.length - (intOf i).toNat)
  case atStart => exact ⟨0, Nat.zero_le _, Nat.zero_le _, rfl, hid (Left.zero _ _)⟩
  case round =>
    obtain ⟨k, hk, hk2, rfl, hl⟩ := hrel
    by_cases hlt : k < xs.length
    · by_cases hlt2 : k < ys.length
      · obtain ⟨b, off, rfl, hbB, hc⟩ := h1 (by omega)
        obtain ⟨b', off', rfl, hbB', hc'⟩ := h2 (by omega)
        have g := hc k hlt
        have g' := hc' k hlt2
        clear hc hc' h1 h2
        rcases (by omega : xs[k] < ys[k] ∨ ys[k] < xs[k] ∨ xs[k] = ys[k]) with hx | hx | hx
        · have H := hid (hl.out.lt hlt hlt2 hx)
          have C := hid (cmp_int xs[k] ys[k] (-1) w (by omega))
          clear hx
          go_wp2_with fail
          refine C.out.mono ?_
          rintro e w' ⟨rfl, rfl⟩
          go_wp2_with fail
          go_ret
          exact ⟨by rw [H.out]; rfl, rfl⟩
        · have H := hid (hl.out.gt hlt hlt2 hx)
          have C := hid (cmp_int xs[k] ys[k] 1 w (by omega))
          clear hx
          go_wp2_with fail
          refine C.out.mono ?_
          rintro e w' ⟨rfl, rfl⟩
          go_wp2_with fail
          go_ret
          exact ⟨by rw [H.out]; rfl, rfl⟩
        · have H := hid (hl.out.step hlt hlt2 hx)
          have C := hid (cmp_int xs[k] ys[k] 0 w (by omega))
          clear hx
          go_wp2_with fail
          refine C.out.mono ?_
          rintro e w' ⟨rfl, rfl⟩
          go_wp2_with fail
          go_round
          case rel => exact ⟨k + 1, by omega, by omega, by go_num, H⟩
          case measure => simp [intOf]; omega
      · obtain ⟨b, off, rfl, hbB, hc⟩ := h1 (by omega)
        have g := hc k hlt
        have H := hid (hl.out.long hlt (by omega))
        clear hc h1 h2
        go_wp2
        go_ret
        exact ⟨by rw [H.out]; rfl, rfl⟩
    · by_cases hlt2 : xs.length < ys.length
      · have H := hid (hl.out.short (by omega) (by omega))
        clear h1 h2
        go_wp2
        go_ret
        exact ⟨by rw [H.out]; rfl, rfl⟩
      · have H := hid (hl.out.same (by omega) (by omega))
        clear h1 h2
        go_wp2
        go_ret
        exact ⟨by rw [H.out]; rfl, rfl⟩

theorem impl_cmp (a1 a2 : Option Addr) (cap1 cap2 B1 B2 : Nat) (xs ys : List Int) (w : World) (hn1 : xs.length ≤ 1048576) (hn2 : ys.length ≤ 1048576) (h1 : Rd w B1 a1 xs) (h2 : Rd w B2 a2 ys) :
    Calls Try.prog 13 #[.slice a1 xs.length cap1, .slice a2 ys.length cap2] w fun e w' => e = .returned (.int .i64 (cmpL xs ys)) ∧ w = w' := by
  have C := hid (lib_cmp a1 a2 cap1 cap2 B1 B2 xs ys w hn1 hn2 h1 h2)
  clear h1 h2
  go_enter Try.func13, Try.ntmps13
  go_wp2_with fail
  refine C.out.mono ?_
  rintro e w' ⟨rfl, rfl⟩
  go_wp2_with fail
  go_ret
  exact ⟨rfl, rfl⟩

theorem spec_cmp (a1 a2 : Option Addr) (cap1 cap2 B1 B2 : Nat) (xs ys : List Int) (w : World) (hn1 : xs.length ≤ 1048576) (hn2 : ys.length ≤ 1048576) (h1 : Rd w B1 a1 xs) (h2 : Rd w B2 a2 ys) (hB1 : B1 ≤ w.heap.size) (hB2 : B2 ≤ w.heap.size) :
    Calls Try.prog 14 #[.slice a1 xs.length cap1, .slice a2 ys.length cap2] w fun e w' => e = .returned (.int .i64 (cmpL xs ys)) ∧ Below w.heap.size w w' := by
  go_enter Try.func14, Try.ntmps14
  go_wp2
  go_loopw [5] (fun i wr => ∃ k : Nat, k ≤ xs.length ∧ k ≤ ys.length ∧ i = .int .i64 k ∧ Hid (Left xs ys k) ∧ Below w.heap.size w wr) (fun i _ => xs.length - (intOf i).toNat)
  case atStart => exact ⟨0, Nat.zero_le _, Nat.zero_le _, rfl, hid (Left.zero _ _), Below.refl _ _⟩
  case round =>
    obtain ⟨k, hk, hk2, rfl, hl, hb⟩ := hrel
    by_cases hlt : k < xs.length
    · by_cases hlt2 : k < ys.length
      · obtain ⟨b, off, rfl, hbB, hc⟩ := (h1.below (hb.mono hB1)) (by omega)
        obtain ⟨b', off', rfl, hbB', hc'⟩ := (h2.below (hb.mono hB2)) (by omega)
        have g := hc k hlt
        have g' := hc' k hlt2
        have hlt' : (k : Int) < (xs.length : Int) := by omega
        have hlt2' : (k : Int) < (ys.length : Int) := by omega
        have h0' : (0 : Int) ≤ (k : Int) := by omega
        clear hc hc' h1 h2
        have HB := hid hb
        clear hb
        rcases (by omega : xs[k] < ys[k] ∨ (¬ xs[k] < ys[k] ∧ ys[k] < xs[k]) ∨ xs[k] = ys[k]) with hx | ⟨hx1, hx⟩ | hx
        · have H := hid (hl.out.lt hlt hlt2 hx)
          go_wp2
          go_quiet (fail)
          go_wp2
          go_ret
          exact ⟨by rw [H.out]; rfl, ⟨HB.out.os, HB.out.tape, HB.out.output, HB.out.size, HB.out.block⟩⟩
        · have H := hid (hl.out.gt hlt hlt2 hx)
          go_wp2
          go_quiet (fail)
          go_wp2
          go_quiet (fail)
          go_wp2
          go_ret
          exact ⟨by rw [H.out]; rfl, ⟨HB.out.os, HB.out.tape, HB.out.output, HB.out.size, HB.out.block⟩⟩
        · have H := hid (hl.out.step hlt hlt2 hx)
          have hx1 : ¬ xs[k] < ys[k] := by omega
          have hx2 : ¬ ys[k] < xs[k] := by omega
          clear hx
          go_wp2
          go_quiet (fail)
          go_wp2
          go_quiet (fail)
          go_wp2
          go_roundw
          case rel => exact ⟨k + 1, by omega, by omega, by go_num, H, ⟨HB.out.os, HB.out.tape, HB.out.output, HB.out.size, HB.out.block⟩⟩
          case measure => simp [intOf]; omega
      · have H := hid (hl.out.long hlt (by omega))
        have e1 : ¬ (xs.length : Int) < (ys.length : Int) := by omega
        have e2 : (ys.length : Int) < (xs.length : Int) := by omega
        have HB := hid hb
        clear h1 h2 hb
        go_wp2
        go_ret
        exact ⟨by rw [H.out]; rfl, HB.out⟩
    · have HB := hid hb
      by_cases hlt2 : xs.length < ys.length
      · have H := hid (hl.out.short (by omega) (by omega))
        clear h1 h2 hb
        go_wp2
        go_ret
        exact ⟨by rw [H.out]; rfl, HB.out⟩
      · have H := hid (hl.out.same (by omega) (by omega))
        have e2 : ¬ (ys.length : Int) < (xs.length : Int) := by omega
        clear h1 h2 hb
        go_wp2
        go_ret
        exact ⟨by rw [H.out]; rfl, HB.out⟩
end Go.Proofs.Ytnnhkghdlekanaa.RowCmp
