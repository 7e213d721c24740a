/- The walk of law FnExactIsPermutation, where the sizes hold. -/

import Derived.Test.YtfeeimbepdfadaaGridLaw2
import Derived.Test.YtfeeimbepdfadaaRelKit
import Derived.Deep.RegionHeld3
import Derived.Deep.DeepCutAuto
namespace Go.Proofs.Ytfeeimbepdfadaa.IsPermutationC
open Go.RowKit
open Go.Proofs.Ytfeeimbepdfadaa.Num Go.Proofs.Ytfeeimbepdfadaa.IntRow Go.Proofs.Ytfeeimbepdfadaa.IntLaw Go.Proofs.Ytfeeimbepdfadaa.Grid Go.Proofs.Ytfeeimbepdfadaa.GridMore Go.Proofs.Ytfeeimbepdfadaa.GridLaw Go.Proofs.Ytfeeimbepdfadaa.GridLaw2 Go.Proofs.Ytfeeimbepdfadaa.Keep Go.Proofs.Ytfeeimbepdfadaa.Kept Go.Proofs.Ytfeeimbepdfadaa.Cells Go.Proofs.Ytfeeimbepdfadaa.RelKit
set_option linter.unusedVariables false

set_option maxRecDepth 100000 in
set_option maxHeartbeats 4000000 in
theorem core (a0 : Option Addr) (cap0 : Nat) (xs0 : List Int) (c : Bool) (w : World) (hn0 : xs0.length ≤ 1048576) (r0 : Rd w w.heap.size a0 xs0)
    (S : RowKit.Hid (∀ (W : World) (g0 : Nat), Rd W W.heap.size (some ⟨g0, 0, none⟩) xs0 → Calls Try.prog 17 #[.slice (some ⟨g0, 0, none⟩) xs0.length xs0.length] W fun e w' => e = .returned (.bool c) ∧ Below W.heap.size W w'))
    (I : RowKit.Hid (∀ (W : World) (g0 : Nat), Rd W W.heap.size (some ⟨g0, 0, none⟩) xs0 → Calls Try.prog 16 #[.slice (some ⟨g0, 0, none⟩) xs0.length xs0.length] W fun e w' => e = .returned (.bool c) ∧ Below W.heap.size W w')) :
    Calls Try.prog 10 #[.slice a0 xs0.length cap0] w fun e w' => e = .returned (.bool true) ∧ Below w.heap.size w w' := by
  have B := hid (Below.refl w.heap.size w)
  have t_row0 : ¬ (1048576 : Int) < (xs0.length : Int) := by omega
  have hne : (c != c) = false := by simp
  go_enter Try.func10, Try.ntmps10
  go_wp2_with fail
  refine (to_ints a0 cap0 w.heap.size xs0 _ hn0 (r0.below B.out) B.out.size).mono ?_
  rintro e w1 ⟨rfl, hat, hb⟩
  have s_w1 := hb.size
  (try simp only [World.size_alloc] at s_w1)
  replace B := hid (B.out.trans (hb.mono B.out.size))
  clear hb
  have Xs0 := hid hat
  have lgs0 := Xs0.out.lt
  clear hat
  go_wp2_with fail
  refine (S.out _ _ (at_rd Xs0.out)).mono ?_
  rintro e w2 ⟨rfl, hb⟩
  have s_w2 := hb.size
  (try simp only [World.size_alloc] at s_w2)
  replace Xs0 := hid (at_below' Xs0.out hb)
  replace B := hid (B.out.trans (hb.mono B.out.size))
  clear hb
  clear Xs0
  go_wp2_with fail
  refine (to_ints a0 cap0 w.heap.size xs0 _ hn0 (r0.below B.out) B.out.size).mono ?_
  rintro e w3 ⟨rfl, hat, hb⟩
  have s_w3 := hb.size
  (try simp only [World.size_alloc] at s_w3)
  replace B := hid (B.out.trans (hb.mono B.out.size))
  clear hb
  (try simp only [World.size_alloc] at hat)
  have X0 := hid hat
  have lgx0 := hat.lt
  clear hat
  go_wp2_with fail
  refine (I.out _ _ (at_rd X0.out)).mono ?_
  rintro e w4 ⟨rfl, hb⟩
  have s_w4 := hb.size
  (try simp only [World.size_alloc] at s_w4)
  replace X0 := hid (at_below' X0.out hb)
  replace B := hid (B.out.trans (hb.mono B.out.size))
  clear hb
  go_wp2_with fail
  refine (to_ints a0 cap0 w.heap.size xs0 _ hn0 (r0.below B.out) B.out.size).mono ?_
  rintro e w5 ⟨rfl, hat, hb⟩
  have s_w5 := hb.size
  (try simp only [World.size_alloc] at s_w5)
  replace X0 := hid (at_below' X0.out hb)
  replace B := hid (B.out.trans (hb.mono B.out.size))
  clear hb
  have T0 := hid hat
  clear hat
  go_wp2_with fail
  refine (eq_ints _ _ _ _ xs0 _ _ _ hn0 (at_rd X0.out) (at_rd T0.out) (Nat.le_refl _) (Nat.le_refl _)).mono ?_
  rintro e w6 ⟨rfl, hb⟩
  have s_w6 := hb.size
  (try simp only [World.size_alloc] at s_w6)
  replace X0 := hid (at_below' X0.out hb)
  replace T0 := hid (at_below' T0.out hb)
  replace B := hid (B.out.trans (hb.mono B.out.size))
  clear hb
  clear T0
  go_wp2_with fail
  go_ret
  exact ⟨rfl, B.out⟩
end Go.Proofs.Ytfeeimbepdfadaa.IsPermutationC
