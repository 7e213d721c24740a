/- The walk of law FnExactEncodeRow, at every row. -/
import Derived.Test.YtnnhkghdlekanaaRows
import Derived.Test.YtnnhkghdlekanaaIntLaw
import Derived.Test.YtnnhkghdlekanaaRowEnc
namespace Go.Proofs.Ytnnhkghdlekanaa.EncodeRowW
open Go.RowKit
open Go.Proofs.Ytnnhkghdlekanaa.Num Go.Proofs.Ytnnhkghdlekanaa.IntRow Go.Proofs.Ytnnhkghdlekanaa.IntLaw Go.Proofs.Ytnnhkghdlekanaa.Vals Go.Proofs.Ytnnhkghdlekanaa.RowEnc
set_option linter.unusedVariables false

theorem walk (a : Option Addr) (n cap : Nat) (hn : n ≤ 9223372036854775807) (xs : List Int) (hl : xs.length = n) (w : World) (hr : Rd w w.heap.size a xs) :
    Calls Try.prog 6 #[.slice a n cap] w fun e w' => e = .returned (.bool true) ∧ Below w.heap.size w w' := by
  by_cases hb : 1048576 < n
  · have hb' : (1048576 : Int) < (n : Int) := by omega
    go_enter Try.func6, Try.ntmps6
    go_wp2
    go_ret
    exact ⟨rfl, Below.refl _ _⟩
  · subst hl
    have hn1 : xs.length ≤ 1048576 := by omega
    have HR := hid hr
    clear hb hn hr
    go_enter Try.func6, Try.ntmps6
    go_wp2_with fail
    refine (to_ints a cap w.heap.size xs _ hn1 HR.out (Nat.le_refl _)).mono ?_
    rintro e w1 ⟨rfl, hat1, hb1⟩
    have B1 := hid hb1
    have A1 := hid hat1
    clear hb1 hat1
    go_wp2_with fail
    refine (spec_enc _ _ (w.heap.size + 1) xs _ hn1 A1.out.rd A1.out.lt).mono ?_
    rintro e w2 ⟨rfl, hb2⟩
    have B2 := hid (B1.out.trans (hb2.mono B1.out.size))
    clear hb2 A1
    go_wp2_with fail
    refine (to_ints a cap w.heap.size xs _ hn1 (HR.out.below B2.out) B2.out.size).mono ?_
    rintro e w3 ⟨rfl, hat3, hb3⟩
    have B3 := hid (B2.out.trans (hb3.mono B2.out.size))
    have A3 := hid hat3
    clear hb3 hat3
    go_wp2_with fail
    refine (impl_enc _ _ (w2.heap.size + 1) xs _ hn1 A3.out.rd A3.out.lt).mono ?_
    rintro e w4 ⟨rfl, hb4⟩
    have A4 := hid (A3.out.below hb4 A3.out.lt)
    have B4 := hid (B3.out.trans (hb4.mono B3.out.size))
    clear hb4 A3
    go_wp2_with fail
    refine (to_ints a cap w.heap.size xs _ hn1 (HR.out.below B4.out) B4.out.size).mono ?_
    rintro e w5 ⟨rfl, hat5, hb5⟩
    have A5 := hid hat5
    have R5 := hid (A4.out.below hb5 A4.out.lt)
    have B5 := hid (B4.out.trans (hb5.mono B4.out.size))
    clear hb5 hat5 A4
    go_wp2_with fail
    refine (eq_ints _ _ _ _ xs (w2.heap.size + 1) (w4.heap.size + 1) _ hn1 R5.out.rd A5.out.rd R5.out.lt A5.out.lt).mono ?_
    rintro e w6 ⟨rfl, hb6⟩
    have B6 := hid (B5.out.trans (hb6.mono B5.out.size))
    clear hb6
    go_wp2_with fail
    go_ret
    exact ⟨rfl, B6.out⟩

end Go.Proofs.Ytnnhkghdlekanaa.EncodeRowW
