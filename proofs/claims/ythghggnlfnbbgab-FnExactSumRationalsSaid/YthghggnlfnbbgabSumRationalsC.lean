/- The walk of law FnExactSumRationals, at every argument, out of the contracts of the model's function and the program's. -/
import Derived.Test.YthghggnlfnbbgabRats
import Derived.Test.YthghggnlfnbbgabLawKit
import Derived.Deep.RegionHeld3
import Derived.Deep.DeepCutAuto
namespace Go.Proofs.Ythghggnlfnbbgab.SumRationalsC
open Go.RowKit
open Go.Proofs.Ythghggnlfnbbgab.Num Go.Proofs.Ythghggnlfnbbgab.IntRow Go.Proofs.Ythghggnlfnbbgab.Rdr Go.Proofs.Ythghggnlfnbbgab.HasL Go.Proofs.Ythghggnlfnbbgab.LawKit Go.Proofs.Ythghggnlfnbbgab.RatLaw Go.Proofs.Ythghggnlfnbbgab.Rats Go.Proofs.Ythghggnlfnbbgab.Keep Go.Proofs.Ythghggnlfnbbgab.Kept
set_option linter.unusedVariables false

set_option maxRecDepth 100000 in
set_option maxHeartbeats 4000000 in
theorem core (a0 : Option Addr) (cap0 : Nat) (x0 : List RatD) (X Y : Int) (ok : Bool) (w : World) (ht : x0.length ≤ 1048576) (r0 : Els 2 rRat w 0 w.heap.size a0 x0)
    (S : RowKit.Hid (∀ (W : World) (b0 : Option Addr) (bap0 : Nat), Els 2 rRat W 0 W.heap.size b0 x0 → Calls Try.prog 7 #[.slice b0 x0.length bap0] W fun e w' => e = .returned (.tuple #[.agg #[.int .i64 X, .int .i64 Y], .bool ok]) ∧ Below W.heap.size W w'))
    (I : RowKit.Hid (∀ (W : World) (b0 : Option Addr) (bap0 : Nat), Els 2 rRat W 0 W.heap.size b0 x0 → Calls Try.prog 9 #[.slice b0 x0.length bap0] W fun e w' => e = .returned (.tuple #[.agg #[.int .i64 X, .int .i64 Y], .bool ok]) ∧ Below W.heap.size W w')) :
    Calls Try.prog 3 #[.slice a0 x0.length cap0] w fun e w' => e = .returned (.bool true) ∧ Below w.heap.size w w' := by
  have B := hid (Below.refl w.heap.size w)
  have A0 := hid (els_grown r0 B.out)
  have hne : (ok != ok) = false := by simp
  go_enter Try.func3, Try.ntmps3
  have t_sz0 : ¬ ((1048576 - (x0.length : Nat) : Int) < 0) := by omega
  go_wp2_with fail
  refine (sz_rats _ _ x0.length (1048576) (1048576 - (x0.length : Nat)) _ (by omega) (by omega) (by omega) (hid (.inr ⟨by omega, by omega⟩))).mono ?_
  rintro e w' ⟨rfl, rfl⟩
  go_wp2_with fail
  refine (to_rats _ _ x0 0 _ _ (by omega) A0.out (Nat.le_refl _)).mono ?_
  rintro e w1 ⟨rfl, hd, _, hb, hlt⟩
  have s_w1 := hb.size
  (try simp only [World.size_alloc] at s_w1)
  replace A0 := hid (els_grown A0.out hb)
  replace B := hid (B.out.trans (hb.mono B.out.size))
  clear hb
  (try simp only [World.size_alloc] at hd hlt)
  have Xs0 := hid (hd.up good_rat (Nat.zero_le _) (Nat.succ_le_of_lt hlt))
  clear hd hlt
  go_wp2_with fail
  refine (S.out _ _ _ Xs0.out).mono ?_
  rintro e w2 ⟨rfl, hb⟩
  have s_w2 := hb.size
  (try simp only [World.size_alloc] at s_w2)
  replace A0 := hid (els_grown A0.out hb)
  replace Xs0 := hid (els_grown Xs0.out hb)
  replace B := hid (B.out.trans (hb.mono B.out.size))
  clear hb
  clear Xs0
  go_wp2_with fail
  have OW := hid (hasl_new w2 [.int .i64 X, .int .i64 Y] 25)
  replace A0 := hid (els_grown A0.out ((Below.refl _ _).alloc (Nat.le_refl _) (.cells #[.int .i64 X, .int .i64 Y] 25)))
  replace B := hid (B.out.alloc B.out.size (.cells #[.int .i64 X, .int .i64 Y] 25))
  refine (to_rats _ _ x0 0 _ _ (by omega) A0.out (Nat.le_refl _)).mono ?_
  rintro e w3 ⟨rfl, hd, _, hb, hlt⟩
  have s_w3 := hb.size
  (try simp only [World.size_alloc] at s_w3)
  replace A0 := hid (els_grown A0.out hb)
  replace OW := hid (OW.out.below hb)
  replace B := hid (B.out.trans (hb.mono B.out.size))
  clear hb
  (try simp only [World.size_alloc] at hd hlt)
  have X0 := hid (hd.up good_rat (Nat.zero_le _) (Nat.succ_le_of_lt hlt))
  clear hd hlt
  go_wp2_with fail
  refine (I.out _ _ _ X0.out).mono ?_
  rintro e w4 ⟨rfl, hb⟩
  have s_w4 := hb.size
  (try simp only [World.size_alloc] at s_w4)
  replace A0 := hid (els_grown A0.out hb)
  replace OW := hid (OW.out.below hb)
  replace X0 := hid (els_grown X0.out hb)
  replace B := hid (B.out.trans (hb.mono B.out.size))
  clear hb
  obtain ⟨c0_1, c1_1, f0_1, f1_1, z_1⟩ := HasL.two OW.out
  go_wp2_with fail
  clear c0_1 c1_1 f0_1 f1_1 z_1
  have OG := hid (hasl_new w4 [.int .i64 X, .int .i64 Y] 25)
  replace A0 := hid (els_grown A0.out ((Below.refl _ _).alloc (Nat.le_refl _) (.cells #[.int .i64 X, .int .i64 Y] 25)))
  replace OW := hid (OW.out.alloc (.cells #[.int .i64 X, .int .i64 Y] 25))
  replace X0 := hid (els_grown X0.out ((Below.refl _ _).alloc (Nat.le_refl _) (.cells #[.int .i64 X, .int .i64 Y] 25)))
  replace B := hid (B.out.alloc B.out.size (.cells #[.int .i64 X, .int .i64 Y] 25))
  refine (eq_self X Y _).mono ?_
  rintro e w5 ⟨rfl, hb⟩
  have s_w5 := hb.size
  (try simp only [World.size_alloc] at s_w5)
  replace A0 := hid (els_grown A0.out hb)
  replace OW := hid (OW.out.below hb)
  replace X0 := hid (els_grown X0.out hb)
  replace OG := hid (OG.out.below hb)
  replace B := hid (B.out.trans (hb.mono B.out.size))
  clear hb
  go_wp2_with fail
  refine (to_rats _ _ x0 0 _ _ (by omega) A0.out (Nat.le_refl _)).mono ?_
  rintro e w6 ⟨rfl, hd, _, hb, hlt⟩
  have s_w6 := hb.size
  (try simp only [World.size_alloc] at s_w6)
  replace A0 := hid (els_grown A0.out hb)
  replace OW := hid (OW.out.below hb)
  replace X0 := hid (els_grown X0.out hb)
  replace OG := hid (OG.out.below hb)
  replace B := hid (B.out.trans (hb.mono B.out.size))
  clear hb
  (try simp only [World.size_alloc] at hd hlt)
  have Xe0 := hid (hd.up good_rat (Nat.zero_le _) (Nat.succ_le_of_lt hlt))
  clear hd hlt
  go_wp2_with fail
  refine (eq_rats _ _ _ _ x0 0 _ 0 _ _ (by omega) X0.out Xe0.out (Nat.le_refl _) (Nat.le_refl _)).mono ?_
  rintro e w7 ⟨rfl, hb⟩
  have s_w7 := hb.size
  (try simp only [World.size_alloc] at s_w7)
  replace A0 := hid (els_grown A0.out hb)
  replace OW := hid (OW.out.below hb)
  replace X0 := hid (els_grown X0.out hb)
  replace OG := hid (OG.out.below hb)
  replace Xe0 := hid (els_grown Xe0.out hb)
  replace B := hid (B.out.trans (hb.mono B.out.size))
  clear hb
  clear Xe0
  go_wp2_with fail
  go_ret
  exact ⟨rfl, B.out⟩

set_option maxRecDepth 100000 in
theorem walk (a0 : Option Addr) (cap0 : Nat) (x0 : List RatD) (hn0 : x0.length ≤ 9223372036854775807) (w : World) (r0 : Els 2 rRat w 0 w.heap.size a0 x0) (SI : (x0.length ≤ 1048576 → ∃ (X Y : Int) (ok : Bool), (∀ (W : World) (b0 : Option Addr) (bap0 : Nat), Els 2 rRat W 0 W.heap.size b0 x0 → Calls Try.prog 7 #[.slice b0 x0.length bap0] W fun e w' => e = .returned (.tuple #[.agg #[.int .i64 X, .int .i64 Y], .bool ok]) ∧ Below W.heap.size W w') ∧ (∀ (W : World) (b0 : Option Addr) (bap0 : Nat), Els 2 rRat W 0 W.heap.size b0 x0 → Calls Try.prog 9 #[.slice b0 x0.length bap0] W fun e w' => e = .returned (.tuple #[.agg #[.int .i64 X, .int .i64 Y], .bool ok]) ∧ Below W.heap.size W w'))) :
    Calls Try.prog 3 #[.slice a0 x0.length cap0] w fun e w' => e = .returned (.bool true) ∧ Below w.heap.size w w' := by
  by_cases ht0 : 1048576 < x0.length
  · clear SI
    have B := hid (Below.refl w.heap.size w)
    have A0 := hid (els_grown r0 B.out)
    go_enter Try.func3, Try.ntmps3
    go_wp2_with fail
    refine (sz_rats _ _ x0.length (1048576) (-1) _ (by omega) (by omega) (by omega) (hid (.inl ⟨by omega, rfl⟩))).mono ?_
    rintro e w' ⟨rfl, rfl⟩
    go_wp2
    go_ret
    exact ⟨rfl, B.out⟩
  · obtain ⟨X, Y, ok, S, I⟩ := SI (by omega)
    exact core a0 cap0 x0 X Y ok w (by omega) r0 (hid S) (hid I)
end Go.Proofs.Ythghggnlfnbbgab.SumRationalsC
