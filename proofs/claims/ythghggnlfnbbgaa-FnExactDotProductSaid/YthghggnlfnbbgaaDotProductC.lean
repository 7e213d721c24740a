/- The walk of law FnExactDotProduct, at every argument, out of the contracts of the model's function and the program's. -/
import Derived.Test.YthghggnlfnbbgaaRats
import Derived.Test.YthghggnlfnbbgaaLawKit
import Derived.Deep.RegionHeld3
import Derived.Deep.DeepCutAuto
namespace Go.Proofs.Ythghggnlfnbbgaa.DotProductC
open Go.RowKit
open Go.Proofs.Ythghggnlfnbbgaa.Num Go.Proofs.Ythghggnlfnbbgaa.IntRow Go.Proofs.Ythghggnlfnbbgaa.Rdr Go.Proofs.Ythghggnlfnbbgaa.HasL Go.Proofs.Ythghggnlfnbbgaa.LawKit Go.Proofs.Ythghggnlfnbbgaa.RatLaw Go.Proofs.Ythghggnlfnbbgaa.Rats Go.Proofs.Ythghggnlfnbbgaa.Keep Go.Proofs.Ythghggnlfnbbgaa.Kept
set_option linter.unusedVariables false

set_option maxRecDepth 100000 in
set_option maxHeartbeats 4000000 in
theorem core (a0 : Option Addr) (cap0 : Nat) (x0 : List RatD) (a1 : Option Addr) (cap1 : Nat) (x1 : List RatD) (X Y : Int) (ok : Bool) (w : World) (ht : x0.length + x1.length ≤ 1048576) (r0 : Els 2 rRat w 0 w.heap.size a0 x0) (r1 : Els 2 rRat w 0 w.heap.size a1 x1)
    (S : RowKit.Hid (∀ (W : World) (b0 : Option Addr) (bap0 : Nat) (b1 : Option Addr) (bap1 : Nat), Els 2 rRat W 0 W.heap.size b0 x0 → Els 2 rRat W 0 W.heap.size b1 x1 → Calls Try.prog 16 #[.slice b0 x0.length bap0, .slice b1 x1.length bap1] W fun e w' => e = .returned (.tuple #[.agg #[.int .i64 X, .int .i64 Y], .bool ok]) ∧ Below W.heap.size W w'))
    (I : RowKit.Hid (∀ (W : World) (b0 : Option Addr) (bap0 : Nat) (b1 : Option Addr) (bap1 : Nat), Els 2 rRat W 0 W.heap.size b0 x0 → Els 2 rRat W 0 W.heap.size b1 x1 → Calls Try.prog 18 #[.slice b0 x0.length bap0, .slice b1 x1.length bap1] W fun e w' => e = .returned (.tuple #[.agg #[.int .i64 X, .int .i64 Y], .bool ok]) ∧ Below W.heap.size W w')) :
    Calls Try.prog 3 #[.slice a0 x0.length cap0, .slice a1 x1.length cap1] w fun e w' => e = .returned (.bool true) ∧ Below w.heap.size w w' := by
  have B := hid (Below.refl w.heap.size w)
  have A0 := hid (els_grown r0 B.out)
  have A1 := hid (els_grown r1 B.out)
  have hne : (ok != ok) = false := by simp
  go_enter Try.func3, Try.ntmps3
  have t_sz0 : ¬ ((1048576 - (x0.length : Nat) : Int) < 0) := by omega
  go_wp2_with fail
  refine (sz_rats _ _ x0.length (1048576) (1048576 - (x0.length : Nat)) _ (by omega) (by omega) (by omega) (hid (.inr ⟨by omega, by omega⟩))).mono ?_
  rintro e w' ⟨rfl, rfl⟩
  have t_sz1 : ¬ ((1048576 - (x0.length : Nat) - (x1.length : Nat) : Int) < 0) := by omega
  go_wp2_with fail
  refine (sz_rats _ _ x1.length (1048576 - (x0.length : Nat)) (1048576 - (x0.length : Nat) - (x1.length : Nat)) _ (by omega) (by omega) (by omega) (hid (.inr ⟨by omega, by omega⟩))).mono ?_
  rintro e w' ⟨rfl, rfl⟩
  go_wp2_with fail
  refine (to_rats _ _ x0 0 _ _ (by omega) A0.out (Nat.le_refl _)).mono ?_
  rintro e w1 ⟨rfl, hd, _, hb, hlt⟩
  have s_w1 := hb.size
  (try simp only [World.size_alloc] at s_w1)
  replace A0 := hid (els_grown A0.out hb)
  replace A1 := hid (els_grown A1.out hb)
  replace B := hid (B.out.trans (hb.mono B.out.size))
  clear hb
  (try simp only [World.size_alloc] at hd hlt)
  have Xs0 := hid (hd.up good_rat (Nat.zero_le _) (Nat.succ_le_of_lt hlt))
  clear hd hlt
  go_wp2_with fail
  refine (to_rats _ _ x1 0 _ _ (by omega) A1.out (Nat.le_refl _)).mono ?_
  rintro e w2 ⟨rfl, hd, _, hb, hlt⟩
  have s_w2 := hb.size
  (try simp only [World.size_alloc] at s_w2)
  replace A0 := hid (els_grown A0.out hb)
  replace A1 := hid (els_grown A1.out hb)
  replace Xs0 := hid (els_grown Xs0.out hb)
  replace B := hid (B.out.trans (hb.mono B.out.size))
  clear hb
  (try simp only [World.size_alloc] at hd hlt)
  have Xs1 := hid (hd.up good_rat (Nat.zero_le _) (Nat.succ_le_of_lt hlt))
  clear hd hlt
  go_wp2_with fail
  refine (S.out _ _ _ _ _ Xs0.out Xs1.out).mono ?_
  rintro e w3 ⟨rfl, hb⟩
  have s_w3 := hb.size
  (try simp only [World.size_alloc] at s_w3)
  replace A0 := hid (els_grown A0.out hb)
  replace A1 := hid (els_grown A1.out hb)
  replace Xs0 := hid (els_grown Xs0.out hb)
  replace Xs1 := hid (els_grown Xs1.out hb)
  replace B := hid (B.out.trans (hb.mono B.out.size))
  clear hb
  clear Xs0
  clear Xs1
  go_wp2_with fail
  have OW := hid (hasl_new w3 [.int .i64 X, .int .i64 Y] 25)
  replace A0 := hid (els_grown A0.out ((Below.refl _ _).alloc (Nat.le_refl _) (.cells #[.int .i64 X, .int .i64 Y] 25)))
  replace A1 := hid (els_grown A1.out ((Below.refl _ _).alloc (Nat.le_refl _) (.cells #[.int .i64 X, .int .i64 Y] 25)))
  replace B := hid (B.out.alloc B.out.size (.cells #[.int .i64 X, .int .i64 Y] 25))
  refine (to_rats _ _ x0 0 _ _ (by omega) A0.out (Nat.le_refl _)).mono ?_
  rintro e w4 ⟨rfl, hd, _, hb, hlt⟩
  have s_w4 := hb.size
  (try simp only [World.size_alloc] at s_w4)
  replace A0 := hid (els_grown A0.out hb)
  replace A1 := hid (els_grown A1.out hb)
  replace OW := hid (OW.out.below hb)
  replace B := hid (B.out.trans (hb.mono B.out.size))
  clear hb
  (try simp only [World.size_alloc] at hd hlt)
  have X0 := hid (hd.up good_rat (Nat.zero_le _) (Nat.succ_le_of_lt hlt))
  clear hd hlt
  go_wp2_with fail
  refine (to_rats _ _ x1 0 _ _ (by omega) A1.out (Nat.le_refl _)).mono ?_
  rintro e w5 ⟨rfl, hd, _, hb, hlt⟩
  have s_w5 := hb.size
  (try simp only [World.size_alloc] at s_w5)
  replace A0 := hid (els_grown A0.out hb)
  replace A1 := hid (els_grown A1.out hb)
  replace OW := hid (OW.out.below hb)
  replace X0 := hid (els_grown X0.out hb)
  replace B := hid (B.out.trans (hb.mono B.out.size))
  clear hb
  (try simp only [World.size_alloc] at hd hlt)
  have X1 := hid (hd.up good_rat (Nat.zero_le _) (Nat.succ_le_of_lt hlt))
  clear hd hlt
  go_wp2_with fail
  refine (I.out _ _ _ _ _ X0.out X1.out).mono ?_
  rintro e w6 ⟨rfl, hb⟩
  have s_w6 := hb.size
  (try simp only [World.size_alloc] at s_w6)
  replace A0 := hid (els_grown A0.out hb)
  replace A1 := hid (els_grown A1.out hb)
  replace OW := hid (OW.out.below hb)
  replace X0 := hid (els_grown X0.out hb)
  replace X1 := hid (els_grown X1.out hb)
  replace B := hid (B.out.trans (hb.mono B.out.size))
  clear hb
  obtain ⟨c0_1, c1_1, f0_1, f1_1, z_1⟩ := HasL.two OW.out
  go_wp2_with fail
  clear c0_1 c1_1 f0_1 f1_1 z_1
  have OG := hid (hasl_new w6 [.int .i64 X, .int .i64 Y] 25)
  replace A0 := hid (els_grown A0.out ((Below.refl _ _).alloc (Nat.le_refl _) (.cells #[.int .i64 X, .int .i64 Y] 25)))
  replace A1 := hid (els_grown A1.out ((Below.refl _ _).alloc (Nat.le_refl _) (.cells #[.int .i64 X, .int .i64 Y] 25)))
  replace OW := hid (OW.out.alloc (.cells #[.int .i64 X, .int .i64 Y] 25))
  replace X0 := hid (els_grown X0.out ((Below.refl _ _).alloc (Nat.le_refl _) (.cells #[.int .i64 X, .int .i64 Y] 25)))
  replace X1 := hid (els_grown X1.out ((Below.refl _ _).alloc (Nat.le_refl _) (.cells #[.int .i64 X, .int .i64 Y] 25)))
  replace B := hid (B.out.alloc B.out.size (.cells #[.int .i64 X, .int .i64 Y] 25))
  refine (eq_self X Y _).mono ?_
  rintro e w7 ⟨rfl, hb⟩
  have s_w7 := hb.size
  (try simp only [World.size_alloc] at s_w7)
  replace A0 := hid (els_grown A0.out hb)
  replace A1 := hid (els_grown A1.out hb)
  replace OW := hid (OW.out.below hb)
  replace X0 := hid (els_grown X0.out hb)
  replace X1 := hid (els_grown X1.out hb)
  replace OG := hid (OG.out.below hb)
  replace B := hid (B.out.trans (hb.mono B.out.size))
  clear hb
  go_wp2_with fail
  refine (to_rats _ _ x0 0 _ _ (by omega) A0.out (Nat.le_refl _)).mono ?_
  rintro e w8 ⟨rfl, hd, _, hb, hlt⟩
  have s_w8 := hb.size
  (try simp only [World.size_alloc] at s_w8)
  replace A0 := hid (els_grown A0.out hb)
  replace A1 := hid (els_grown A1.out hb)
  replace OW := hid (OW.out.below hb)
  replace X0 := hid (els_grown X0.out hb)
  replace X1 := hid (els_grown X1.out hb)
  replace OG := hid (OG.out.below hb)
  replace B := hid (B.out.trans (hb.mono B.out.size))
  clear hb
  (try simp only [World.size_alloc] at hd hlt)
  have Xe0 := hid (hd.up good_rat (Nat.zero_le _) (Nat.succ_le_of_lt hlt))
  clear hd hlt
  go_wp2_with fail
  refine (eq_rats _ _ _ _ x0 0 _ 0 _ _ (by omega) X0.out Xe0.out (Nat.le_refl _) (Nat.le_refl _)).mono ?_
  rintro e w9 ⟨rfl, hb⟩
  have s_w9 := hb.size
  (try simp only [World.size_alloc] at s_w9)
  replace A0 := hid (els_grown A0.out hb)
  replace A1 := hid (els_grown A1.out hb)
  replace OW := hid (OW.out.below hb)
  replace X0 := hid (els_grown X0.out hb)
  replace X1 := hid (els_grown X1.out hb)
  replace OG := hid (OG.out.below hb)
  replace Xe0 := hid (els_grown Xe0.out hb)
  replace B := hid (B.out.trans (hb.mono B.out.size))
  clear hb
  clear Xe0
  go_wp2_with fail
  refine (to_rats _ _ x1 0 _ _ (by omega) A1.out (Nat.le_refl _)).mono ?_
  rintro e w10 ⟨rfl, hd, _, hb, hlt⟩
  have s_w10 := hb.size
  (try simp only [World.size_alloc] at s_w10)
  replace A0 := hid (els_grown A0.out hb)
  replace A1 := hid (els_grown A1.out hb)
  replace OW := hid (OW.out.below hb)
  replace X0 := hid (els_grown X0.out hb)
  replace X1 := hid (els_grown X1.out hb)
  replace OG := hid (OG.out.below hb)
  replace B := hid (B.out.trans (hb.mono B.out.size))
  clear hb
  (try simp only [World.size_alloc] at hd hlt)
  have Xe1 := hid (hd.up good_rat (Nat.zero_le _) (Nat.succ_le_of_lt hlt))
  clear hd hlt
  go_wp2_with fail
  refine (eq_rats _ _ _ _ x1 0 _ 0 _ _ (by omega) X1.out Xe1.out (Nat.le_refl _) (Nat.le_refl _)).mono ?_
  rintro e w11 ⟨rfl, hb⟩
  have s_w11 := hb.size
  (try simp only [World.size_alloc] at s_w11)
  replace A0 := hid (els_grown A0.out hb)
  replace A1 := hid (els_grown A1.out hb)
  replace OW := hid (OW.out.below hb)
  replace X0 := hid (els_grown X0.out hb)
  replace X1 := hid (els_grown X1.out hb)
  replace OG := hid (OG.out.below hb)
  replace Xe1 := hid (els_grown Xe1.out hb)
  replace B := hid (B.out.trans (hb.mono B.out.size))
  clear hb
  clear Xe1
  go_wp2_with fail
  go_ret
  exact ⟨rfl, B.out⟩

set_option maxRecDepth 100000 in
theorem walk (a0 : Option Addr) (cap0 : Nat) (x0 : List RatD) (a1 : Option Addr) (cap1 : Nat) (x1 : List RatD) (hn0 : x0.length ≤ 9223372036854775807) (hn1 : x1.length ≤ 9223372036854775807) (w : World) (r0 : Els 2 rRat w 0 w.heap.size a0 x0) (r1 : Els 2 rRat w 0 w.heap.size a1 x1) (SI : (x0.length + x1.length ≤ 1048576 → ∃ (X Y : Int) (ok : Bool), (∀ (W : World) (b0 : Option Addr) (bap0 : Nat) (b1 : Option Addr) (bap1 : Nat), Els 2 rRat W 0 W.heap.size b0 x0 → Els 2 rRat W 0 W.heap.size b1 x1 → Calls Try.prog 16 #[.slice b0 x0.length bap0, .slice b1 x1.length bap1] W fun e w' => e = .returned (.tuple #[.agg #[.int .i64 X, .int .i64 Y], .bool ok]) ∧ Below W.heap.size W w') ∧ (∀ (W : World) (b0 : Option Addr) (bap0 : Nat) (b1 : Option Addr) (bap1 : Nat), Els 2 rRat W 0 W.heap.size b0 x0 → Els 2 rRat W 0 W.heap.size b1 x1 → Calls Try.prog 18 #[.slice b0 x0.length bap0, .slice b1 x1.length bap1] W fun e w' => e = .returned (.tuple #[.agg #[.int .i64 X, .int .i64 Y], .bool ok]) ∧ Below W.heap.size W w'))) :
    Calls Try.prog 3 #[.slice a0 x0.length cap0, .slice a1 x1.length cap1] w fun e w' => e = .returned (.bool true) ∧ Below w.heap.size w w' := by
  by_cases ht0 : 1048576 < x0.length
  · clear SI
    have B := hid (Below.refl w.heap.size w)
    have A0 := hid (els_grown r0 B.out)
    have A1 := hid (els_grown r1 B.out)
    go_enter Try.func3, Try.ntmps3
    go_wp2_with fail
    refine (sz_rats _ _ x0.length (1048576) (-1) _ (by omega) (by omega) (by omega) (hid (.inl ⟨by omega, rfl⟩))).mono ?_
    rintro e w' ⟨rfl, rfl⟩
    go_wp2
    go_ret
    exact ⟨rfl, B.out⟩
  · by_cases ht1 : 1048576 < x0.length + x1.length
    · clear SI
      have B := hid (Below.refl w.heap.size w)
      have A0 := hid (els_grown r0 B.out)
      have A1 := hid (els_grown r1 B.out)
      go_enter Try.func3, Try.ntmps3
      have t_sz0 : ¬ ((1048576 - (x0.length : Nat) : Int) < 0) := by omega
      go_wp2_with fail
      refine (sz_rats _ _ x0.length (1048576) (1048576 - (x0.length : Nat)) _ (by omega) (by omega) (by omega) (hid (.inr ⟨by omega, by omega⟩))).mono ?_
      rintro e w' ⟨rfl, rfl⟩
      go_wp2_with fail
      refine (sz_rats _ _ x1.length (1048576 - (x0.length : Nat)) (-1) _ (by omega) (by omega) (by omega) (hid (.inl ⟨by omega, rfl⟩))).mono ?_
      rintro e w' ⟨rfl, rfl⟩
      go_wp2
      go_ret
      exact ⟨rfl, B.out⟩
    · obtain ⟨X, Y, ok, S, I⟩ := SI (by omega)
      exact core a0 cap0 x0 a1 cap1 x1 X Y ok w (by omega) r0 r1 (hid S) (hid I)
end Go.Proofs.Ythghggnlfnbbgaa.DotProductC
