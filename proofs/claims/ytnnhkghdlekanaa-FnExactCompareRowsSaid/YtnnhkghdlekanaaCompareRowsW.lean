/- The walk of law FnExactCompareRows, at every two rows. -/
import Derived.Test.YtnnhkghdlekanaaRows
import Derived.Test.YtnnhkghdlekanaaIntLaw
import Derived.Test.YtnnhkghdlekanaaRowCmp
namespace Go.Proofs.Ytnnhkghdlekanaa.CompareRowsW
open Go.RowKit
open Go.Proofs.Ytnnhkghdlekanaa.Num Go.Proofs.Ytnnhkghdlekanaa.IntRow Go.Proofs.Ytnnhkghdlekanaa.IntLaw Go.Proofs.Ytnnhkghdlekanaa.RowCmp
set_option linter.unusedVariables false

theorem core (a1 a2 : Option Addr) (cap1 cap2 : Nat) (xs ys : List Int) (w : World) (hx : xs.length ≤ 1048576) (hy : ys.length ≤ 1048576) (r1 : Rd w w.heap.size a1 xs) (r2 : Rd w w.heap.size a2 ys) :
    Calls Try.prog 8 #[.slice a1 xs.length cap1, .slice a2 ys.length cap2] w fun e w' => e = .returned (.bool true) ∧ Below w.heap.size w w' := by
  have hne : (cmpL xs ys != cmpL xs ys) = false := by simp
  have R1 := hid r1
  have R2 := hid r2
  clear r1 r2
  go_enter Try.func8, Try.ntmps8
  go_wp2_with fail
  refine (to_ints a1 cap1 w.heap.size xs _ hx R1.out (Nat.le_refl _)).mono ?_
  rintro e w1 ⟨rfl, hat, hb⟩
  have B1 := hid hb
  have X1 := hid hat
  clear hb hat
  go_wp2_with fail
  refine (to_ints a2 cap2 w.heap.size ys _ hy (R2.out.below B1.out) B1.out.size).mono ?_
  rintro e w2 ⟨rfl, hat, hb⟩
  have B2 := hid (B1.out.trans (hb.mono B1.out.size))
  have X2 := hid (X1.out.below hb X1.out.lt)
  have Y2 := hid hat
  clear hb hat X1
  go_wp2_with fail
  refine (spec_cmp _ _ _ _ (w.heap.size + 1) (w1.heap.size + 1) xs ys _ hx hy X2.out.rd Y2.out.rd X2.out.lt Y2.out.lt).mono ?_
  rintro e w3 ⟨rfl, hb⟩
  have B3 := hid (B2.out.trans (hb.mono B2.out.size))
  clear hb X2 Y2
  go_wp2_with fail
  refine (to_ints a1 cap1 w.heap.size xs _ hx (R1.out.below B3.out) B3.out.size).mono ?_
  rintro e w4 ⟨rfl, hat, hb⟩
  have B4 := hid (B3.out.trans (hb.mono B3.out.size))
  have X4 := hid hat
  clear hb hat
  go_wp2_with fail
  refine (to_ints a2 cap2 w.heap.size ys _ hy (R2.out.below B4.out) B4.out.size).mono ?_
  rintro e w5 ⟨rfl, hat, hb⟩
  have B5 := hid (B4.out.trans (hb.mono B4.out.size))
  have X5 := hid (X4.out.below hb X4.out.lt)
  have Y5 := hid hat
  clear hb hat X4
  go_wp2_with fail
  refine (impl_cmp _ _ _ _ (w3.heap.size + 1) (w4.heap.size + 1) xs ys _ hx hy X5.out.rd Y5.out.rd).mono ?_
  rintro e w6 ⟨rfl, hb⟩
  have B6 := hid (hb ▸ B5.out)
  have X6 := hid (hb ▸ X5.out)
  have Y6 := hid (hb ▸ Y5.out)
  clear hb X5 Y5
  go_wp2_with fail
  refine (to_ints a1 cap1 w.heap.size xs _ hx (R1.out.below B6.out) B6.out.size).mono ?_
  rintro e w7 ⟨rfl, hat, hb⟩
  have B7 := hid (B6.out.trans (hb.mono B6.out.size))
  have Z7 := hid hat
  have X7 := hid (X6.out.below hb X6.out.lt)
  have Y7 := hid (Y6.out.below hb Y6.out.lt)
  clear hb hat X6 Y6
  go_wp2_with fail
  refine (eq_ints _ _ _ _ xs (w3.heap.size + 1) (w6.heap.size + 1) _ hx X7.out.rd Z7.out.rd X7.out.lt Z7.out.lt).mono ?_
  rintro e w8 ⟨rfl, hb⟩
  have B8 := hid (B7.out.trans (hb.mono B7.out.size))
  have Y8 := hid (Y7.out.below hb Y7.out.lt)
  clear hb Y7 X7 Z7
  go_wp2_with fail
  refine (to_ints a2 cap2 w.heap.size ys _ hy (R2.out.below B8.out) B8.out.size).mono ?_
  rintro e w9 ⟨rfl, hat, hb⟩
  have B9 := hid (B8.out.trans (hb.mono B8.out.size))
  have Z9 := hid hat
  have Y9 := hid (Y8.out.below hb Y8.out.lt)
  clear hb hat Y8
  go_wp2_with fail
  refine (eq_ints _ _ _ _ ys (w4.heap.size + 1) (w8.heap.size + 1) _ hy Y9.out.rd Z9.out.rd Y9.out.lt Z9.out.lt).mono ?_
  rintro e w10 ⟨rfl, hb⟩
  have B10 := hid (B9.out.trans (hb.mono B9.out.size))
  clear hb
  go_wp2_with fail
  go_ret
  exact ⟨rfl, B10.out⟩

theorem walk (a1 : Option Addr) (n1 cap1 : Nat) (hn1 : n1 ≤ 9223372036854775807) (xs : List Int) (hl1 : xs.length = n1) (a2 : Option Addr) (n2 cap2 : Nat) (hn2 : n2 ≤ 9223372036854775807) (ys : List Int) (hl2 : ys.length = n2) (w : World) (r1 : Rd w w.heap.size a1 xs) (r2 : Rd w w.heap.size a2 ys) :
    Calls Try.prog 8 #[.slice a1 n1 cap1, .slice a2 n2 cap2] w fun e w' => e = .returned (.bool true) ∧ Below w.heap.size w w' := by
  by_cases hb1 : 1048576 < n1
  · have hb' : (1048576 : Int) < (n1 : Int) := by omega
    go_enter Try.func8, Try.ntmps8
    go_wp2
    go_ret
    exact ⟨rfl, Below.refl _ _⟩
  · by_cases hb2 : 1048576 < n2
    · have hb' : (1048576 : Int) < (n2 : Int) := by omega
      have hb1' : ¬ (1048576 : Int) < (n1 : Int) := by omega
      go_enter Try.func8, Try.ntmps8
      go_wp2
      go_ret
      exact ⟨rfl, Below.refl _ _⟩
    · subst hl1 hl2
      exact core a1 a2 cap1 cap2 xs ys w (by omega) (by omega) r1 r2
end Go.Proofs.Ytnnhkghdlekanaa.CompareRowsW
