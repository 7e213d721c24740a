/- The walk of law FnExactFormatRationals, at every argument, out of the contracts of the model's function and the program's. -/
import Derived.Test.YtgpdnleooeekbaaDoorRats
import Derived.Test.YtgpdnleooeekbaaDoorLawKit
import Derived.Deep.RegionHeld3
import Derived.Deep.DeepCutAuto
namespace Go.Proofs.YtgpdnleooeekbaaDoor.FormatRationalsC
open Go.RowKit
open Go.Proofs.YtgpdnleooeekbaaDoor.Num Go.Proofs.YtgpdnleooeekbaaDoor.IntRow Go.Proofs.YtgpdnleooeekbaaDoor.Rdr Go.Proofs.YtgpdnleooeekbaaDoor.HasL Go.Proofs.YtgpdnleooeekbaaDoor.LawKit Go.Proofs.YtgpdnleooeekbaaDoor.RatLaw Go.Proofs.YtgpdnleooeekbaaDoor.Rats Go.Proofs.YtgpdnleooeekbaaDoor.Keep Go.Proofs.YtgpdnleooeekbaaDoor.Kept
set_option linter.unusedVariables false

set_option maxRecDepth 100000 in
set_option maxHeartbeats 4000000 in
theorem core (a0 : Option Addr) (cap0 : Nat) (x0 : List RatD) (c : ByteArray) (w : World) (ht : x0.length ≤ 1048576) (r0 : Els 2 rRat w 0 w.heap.size a0 x0)
    (S : RowKit.Hid (∀ (W : World) (b0 : Option Addr) (bap0 : Nat), Els 2 rRat W 0 W.heap.size b0 x0 → Below w.heap.size w W → Calls Tryd.prog 19 #[.slice b0 x0.length bap0] W fun e w' => e = .returned (.string c) ∧ Below W.heap.size W w'))
    (I : RowKit.Hid (∀ (W : World) (b0 : Option Addr) (bap0 : Nat), Els 2 rRat W 0 W.heap.size b0 x0 → Below w.heap.size w W → Calls Tryd.prog 14 #[.slice b0 x0.length bap0] W fun e w' => e = .returned (.string c) ∧ Below W.heap.size W w')) :
    Calls Tryd.prog 5 #[.slice a0 x0.length cap0] w fun e w' => e = .returned (.bool true) ∧ Below w.heap.size w w' := by
  have B := hid (Below.refl w.heap.size w)
  have A0 := hid (els_grown r0 B.out)
  go_enter Tryd.func5, Tryd.ntmps5
  have t_sz0 : ¬ ((1048576 - (x0.length : Nat) : Int) < 0) := by omega
  go_wp2_with fail
  refine (sz_rats _ _ x0.length (1048576) (1048576 - (x0.length : Nat)) _ (by omega) (by omega) (by omega) (hid (.inr ⟨by omega, by omega⟩))).mono ?_
  rintro e w' ⟨rfl, rfl⟩
  go_wp2_with fail
  refine (to_rats _ _ x0 0 _ _ (by omega) A0.out (Nat.le_refl _)).mono ?_
  rintro e w1 ⟨rfl, hd, _, hb, hlt⟩
  have s_w1 := hb.size
  (try simp only [World.size_alloc] at s_w1)
  replace A0 := hid (els_grown A0.out hb)
  replace B := hid (B.out.trans (hb.mono B.out.size))
  clear hb
  (try simp only [World.size_alloc] at hd hlt)
  have Xs0 := hid (hd.up good_rat (Nat.zero_le _) (Nat.succ_le_of_lt hlt))
  clear hd hlt
  go_wp2_with fail
  refine (S.out _ _ _ Xs0.out B.out).mono ?_
  rintro e w2 ⟨rfl, hb⟩
  have s_w2 := hb.size
  (try simp only [World.size_alloc] at s_w2)
  replace A0 := hid (els_grown A0.out hb)
  replace Xs0 := hid (els_grown Xs0.out hb)
  replace B := hid (B.out.trans (hb.mono B.out.size))
  clear hb
  clear Xs0
  go_wp2_with fail
  refine (to_rats _ _ x0 0 _ _ (by omega) A0.out (Nat.le_refl _)).mono ?_
  rintro e w3 ⟨rfl, hd, _, hb, hlt⟩
  have s_w3 := hb.size
  (try simp only [World.size_alloc] at s_w3)
  replace A0 := hid (els_grown A0.out hb)
  replace B := hid (B.out.trans (hb.mono B.out.size))
  clear hb
  (try simp only [World.size_alloc] at hd hlt)
  have X0 := hid (hd.up good_rat (Nat.zero_le _) (Nat.succ_le_of_lt hlt))
  clear hd hlt
  go_wp2_with fail
  refine (I.out _ _ _ X0.out B.out).mono ?_
  rintro e w4 ⟨rfl, hb⟩
  have s_w4 := hb.size
  (try simp only [World.size_alloc] at s_w4)
  replace A0 := hid (els_grown A0.out hb)
  replace X0 := hid (els_grown X0.out hb)
  replace B := hid (B.out.trans (hb.mono B.out.size))
  clear hb
  go_wp2_with fail
  refine (to_rats _ _ x0 0 _ _ (by omega) A0.out (Nat.le_refl _)).mono ?_
  rintro e w5 ⟨rfl, hd, _, hb, hlt⟩
  have s_w5 := hb.size
  (try simp only [World.size_alloc] at s_w5)
  replace A0 := hid (els_grown A0.out hb)
  replace X0 := hid (els_grown X0.out hb)
  replace B := hid (B.out.trans (hb.mono B.out.size))
  clear hb
  (try simp only [World.size_alloc] at hd hlt)
  have Xe0 := hid (hd.up good_rat (Nat.zero_le _) (Nat.succ_le_of_lt hlt))
  clear hd hlt
  go_wp2_with fail
  refine (eq_rats _ _ _ _ x0 0 _ 0 _ _ (by omega) X0.out Xe0.out (Nat.le_refl _) (Nat.le_refl _)).mono ?_
  rintro e w6 ⟨rfl, hb⟩
  have s_w6 := hb.size
  (try simp only [World.size_alloc] at s_w6)
  replace A0 := hid (els_grown A0.out hb)
  replace X0 := hid (els_grown X0.out hb)
  replace Xe0 := hid (els_grown Xe0.out hb)
  replace B := hid (B.out.trans (hb.mono B.out.size))
  clear hb
  clear Xe0
  go_wp2_with fail
  go_ret
  exact ⟨rfl, B.out⟩

set_option maxRecDepth 100000 in
theorem walk (a0 : Option Addr) (cap0 : Nat) (x0 : List RatD) (hn0 : x0.length ≤ 9223372036854775807) (w : World) (r0 : Els 2 rRat w 0 w.heap.size a0 x0) (SI : (x0.length ≤ 1048576 → ∃ (c : ByteArray), (∀ (W : World) (b0 : Option Addr) (bap0 : Nat), Els 2 rRat W 0 W.heap.size b0 x0 → Below w.heap.size w W → Calls Tryd.prog 19 #[.slice b0 x0.length bap0] W fun e w' => e = .returned (.string c) ∧ Below W.heap.size W w') ∧ (∀ (W : World) (b0 : Option Addr) (bap0 : Nat), Els 2 rRat W 0 W.heap.size b0 x0 → Below w.heap.size w W → Calls Tryd.prog 14 #[.slice b0 x0.length bap0] W fun e w' => e = .returned (.string c) ∧ Below W.heap.size W w'))) :
    Calls Tryd.prog 5 #[.slice a0 x0.length cap0] w fun e w' => e = .returned (.bool true) ∧ Below w.heap.size w w' := by
  by_cases ht0 : 1048576 < x0.length
  · clear SI
    have B := hid (Below.refl w.heap.size w)
    have A0 := hid (els_grown r0 B.out)
    go_enter Tryd.func5, Tryd.ntmps5
    go_wp2_with fail
    refine (sz_rats _ _ x0.length (1048576) (-1) _ (by omega) (by omega) (by omega) (hid (.inl ⟨by omega, rfl⟩))).mono ?_
    rintro e w' ⟨rfl, rfl⟩
    go_wp2
    go_ret
    exact ⟨rfl, B.out⟩
  · obtain ⟨c, S, I⟩ := SI (by omega)
    exact core a0 cap0 x0 c w (by omega) r0 (hid S) (hid I)
end Go.Proofs.YtgpdnleooeekbaaDoor.FormatRationalsC
