/- The walk of law FnExactDecodeRow, at every string and arity. -/
import Derived.Test.YtnnhkghdlekanaaRows
import Derived.Test.YtnnhkghdlekanaaRowDecm
namespace Go.Proofs.Ytnnhkghdlekanaa.DecodeRowW
open Go.RowKit
open Go.Proofs.Ytnnhkghdlekanaa.Num Go.Proofs.Ytnnhkghdlekanaa.IntRow Go.Proofs.Ytnnhkghdlekanaa.IntLaw Go.Proofs.Ytnnhkghdlekanaa.Vals Go.Proofs.Ytnnhkghdlekanaa.RowDec Go.Proofs.Ytnnhkghdlekanaa.RowDecs Go.Proofs.Ytnnhkghdlekanaa.RowDecm
set_option linter.unusedVariables false

theorem mark_own (lo : Nat) (a : Option Addr) (cap n : Nat) (k0 : Int) (xs : List Int) (w : World) (hl : xs.length = n) (hn : xs.length ≤ 1048576) (h0 : 0 ≤ k0) (h1 : k0 ≤ 4194304) (h : Own w lo 3 (.slice a n cap) xs) :
    Calls Try.prog 29 #[.slice a n cap, .int .i64 k0] w fun e w' => e = .returned (.int .i64 (k0 + xs.length)) ∧ Own w' lo 3 (.slice a n cap) (marks k0 xs.length) ∧ w.grownBy w' (Value.ownBlock (.slice a n cap)) := by
  rcases own_at h with ⟨hv, rfl⟩ | ⟨g, cap', hv, hl', hat⟩
  · rw [hv]
    refine (mark_nil k0 w).mono ?_
    rintro e w' ⟨rfl, rfl⟩
    exact ⟨by simp, Own.nil _ _ _, World.grownBy.refl _ _⟩
  · rw [hv]
    refine (mark_ints g cap' k0 xs w hn h0 h1 hat).mono ?_
    rintro e w' ⟨rfl, hat', hgr⟩
    exact ⟨rfl, by simpa [marks_length] using hat'.own hl', hgr⟩

theorem core (s : ByteArray) (n : Int) (xs : List Int) (ok : Bool) (w : World) (hs : s.size ≤ 1048576) (hx : xs.length ≤ 1048576)
    (S : RowKit.Hid (∀ w, Calls Try.prog 18 #[.string s, .int .i64 n] w fun e w' => DrAt xs ok w e w'))
    (I : RowKit.Hid (∀ w, Calls Try.prog 16 #[.string s, .int .i64 n] w fun e w' => DrAt xs ok w e w')) :
    Calls Try.prog 7 #[.string s, .int .i64 n] w fun e w' => e = .returned (.bool true) ∧ Below w.heap.size w w' := by
  have h1 : ¬ (1048576 : Int) < (s.size : Int) := by omega
  have hok : (ok != ok) = false := by simp
  have hneg : ¬ (1 + (xs.length : Int) < 0) := by omega
  have hne : ((1 + (xs.length : Int)) != (1 + (xs.length : Int))) = false := by simp
  go_enter Try.func7, Try.ntmps7
  go_wp2_with fail
  refine (S.out _).mono ?_
  rintro e w1 ⟨a0, cap0, rfl, V0, hb⟩
  have B1 := hid hb
  have L1 := hid V0.lt
  have V1 := hid V0
  clear hb V0
  go_wp2_with fail
  refine (I.out _).mono ?_
  rintro e w2 ⟨a1, cap1, rfl, G0, hb⟩
  have B2 := hid (B1.out.trans (hb.mono B1.out.size))
  have V2 := hid (V1.out.below' hb)
  have G2 := hid G0
  have F2 := hid G0.lt
  clear hb G0 V1
  go_wp2_with fail
  refine (eq_ints a1 a0 cap1 cap0 xs _ _ w2 hx (own_rd G2.out) (own_rd V2.out) (Nat.le_refl _) (Nat.le_refl _)).mono ?_
  rintro e w3 ⟨rfl, hb⟩
  have B3 := hid (B2.out.trans (hb.mono B2.out.size))
  have V3 := hid (V2.out.below' hb)
  have G3 := hid (G2.out.below' hb)
  clear hb V2 G2
  go_wp2_with fail
  refine (mark_own w1.heap.size a1 cap1 xs.length 1 xs w3 rfl hx (by omega) (by omega) G3.out).mono ?_
  rintro e w4 ⟨rfl, hG, hg⟩
  have B4 := hid (B3.out.grown hg B3.out.size (fun k hk => Nat.le_trans B1.out.size (F2.out k hk).1))
  have V4 := hid (V3.out.grown hg (fun k hk e => by have h1 := (L1.out k hk).2; have h2 := (F2.out k e).1; omega))
  have G4 := hid hG
  clear hG hg V3 G3
  go_wp2_with fail
  refine (held_ints a1 cap1 1 xs.length _ w4 hx (by omega) (by omega) (own_rd' G4.out (marks_length _ _))).mono ?_
  rintro e w5 ⟨rfl, rfl⟩
  go_wp2_with fail
  refine (I.out _).mono ?_
  rintro e w6 ⟨a2, cap2, rfl, H0, hb⟩
  have B6 := hid (B4.out.trans (hb.mono B4.out.size))
  have V6 := hid (V4.out.below' hb)
  have G6 := hid (G4.out.below' hb)
  have H6 := hid H0
  clear hb H0 V4 G4
  go_wp2_with fail
  refine (eq_ints a2 a0 cap2 cap0 xs _ _ w6 hx (own_rd H6.out) (own_rd V6.out) (Nat.le_refl _) (Nat.le_refl _)).mono ?_
  rintro e w7 ⟨rfl, hb⟩
  have B7 := hid (B6.out.trans (hb.mono B6.out.size))
  have G7 := hid (G6.out.below' hb)
  clear hb V6 G6 H6
  go_wp2_with fail
  refine (held_ints a1 cap1 1 xs.length _ w7 hx (by omega) (by omega) (own_rd' G7.out (marks_length _ _))).mono ?_
  rintro e w8 ⟨rfl, rfl⟩
  go_wp2_with fail
  go_ret
  exact ⟨rfl, B7.out⟩

theorem walk (s : ByteArray) (hs : s.size ≤ maxLen) (n : Int) (h : -9223372036854775808 ≤ n ∧ n ≤ 9223372036854775807) (w : World) :
    Calls Try.prog 7 #[.string s, .int .i64 n] w fun e w' => e = .returned (.bool true) ∧ Below w.heap.size w w' := by
  by_cases hb : 1048576 < s.size
  · have hb' : (1048576 : Int) < (s.size : Int) := by omega
    unfold maxLen at hs
    go_enter Try.func7, Try.ntmps7
    go_wp2
    go_ret
    exact ⟨rfl, Below.refl _ _⟩
  · exact core s n (drL s n) (drOk s n) w (by omega) (drL_len s n (by omega)) (hid fun w => spec_dr_any s n w (by omega)) (hid fun w => impl_dr s n w (by omega))
end Go.Proofs.Ytnnhkghdlekanaa.DecodeRowW
