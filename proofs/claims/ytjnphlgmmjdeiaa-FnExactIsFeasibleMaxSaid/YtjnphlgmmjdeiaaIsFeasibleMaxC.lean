/- The walk of law FnExactIsFeasibleMax, at every argument, out of the contracts of the model's function and the program's. -/
import Derived.Test.YtjnphlgmmjdeiaaRats
import Derived.Test.YtjnphlgmmjdeiaaLawKit
import Derived.Test.YtjnphlgmmjdeiaaLp
import Derived.Deep.RegionHeld3
import Derived.Deep.DeepCutAuto
namespace Go.Proofs.Ytjnphlgmmjdeiaa.IsFeasibleMaxC
open Go.RowKit
open Go.Proofs.Ytjnphlgmmjdeiaa.Num Go.Proofs.Ytjnphlgmmjdeiaa.IntRow Go.Proofs.Ytjnphlgmmjdeiaa.Rdr Go.Proofs.Ytjnphlgmmjdeiaa.HasL Go.Proofs.Ytjnphlgmmjdeiaa.LawKit Go.Proofs.Ytjnphlgmmjdeiaa.RatLaw Go.Proofs.Ytjnphlgmmjdeiaa.Rats Go.Proofs.Ytjnphlgmmjdeiaa.RatsSS Go.Proofs.Ytjnphlgmmjdeiaa.Lp Go.Proofs.Ytjnphlgmmjdeiaa.Keep Go.Proofs.Ytjnphlgmmjdeiaa.Kept
set_option linter.unusedVariables false

set_option maxRecDepth 100000 in
set_option maxHeartbeats 4000000 in
theorem core (cs0 : List Value) (x0 : LpD) (a1 : Option Addr) (cap1 : Nat) (x1 : List RatD) (c : Bool) (w : World) (ht : szLp x0 + x1.length ≤ 1048576) (r0 : rLp w 0 w.heap.size cs0 x0) (r1 : Els 2 rRat w 0 w.heap.size a1 x1)
    (S : RowKit.Hid (∀ (W : World) (ds0 : List Value) (b1 : Option Addr) (bap1 : Nat), rLp W 0 W.heap.size ds0 x0 → Els 2 rRat W 0 W.heap.size b1 x1 → Calls Try.prog 47 #[.agg ds0.toArray, .slice b1 x1.length bap1] W fun e w' => e = .returned (.bool c) ∧ Below W.heap.size W w'))
    (I : RowKit.Hid (∀ (W : World) (ds0 : List Value) (b1 : Option Addr) (bap1 : Nat), rLp W 0 W.heap.size ds0 x0 → Els 2 rRat W 0 W.heap.size b1 x1 → Calls Try.prog 34 #[.agg ds0.toArray, .slice b1 x1.length bap1] W fun e w' => e = .returned (.bool c) ∧ Below W.heap.size W w')) :
    Calls Try.prog 9 #[.agg cs0.toArray, .slice a1 x1.length cap1] w fun e w' => e = .returned (.bool true) ∧ Below w.heap.size w w' := by
  obtain ⟨a0, cap0, o0, capo0, u0, capu0, hcs0, _⟩ := lp_open r0
  subst hcs0
  have P0 := hid (hasl_new w [.slice a0 x0.1.length cap0, .slice o0 x0.2.1.length capo0, .slice u0 x0.2.2.length capu0] 57)
  have B := hid ((Below.refl w.heap.size w).alloc (by simp) (.cells #[.slice a0 x0.1.length cap0, .slice o0 x0.2.1.length capo0, .slice u0 x0.2.2.length capu0] 57))
  have A1 := hid (els_grown r1 B.out)
  have hne : (c != c) = false := by simp
  go_enter Try.func9, Try.ntmps9
  have t_sz0 : ¬ ((1048576 - (szLp x0 : Nat) : Int) < 0) := by omega
  obtain ⟨c0_1, c1_1, c2_1, f0_1, f1_1, f2_1, z_1⟩ := HasL.three P0.out
  go_wp2_with fail
  refine (sz_lp _ x0 0 w.heap.size (1048576) (1048576 - (szLp x0 : Nat)) _ (by omega) (by omega) (good_lp.keep r0 (sm_below B.out (Nat.le_refl _))) B.out.size (hid (.inr ⟨by omega, by omega⟩))).mono ?_
  rintro e w1 ⟨rfl, hb⟩
  clear c0_1 c1_1 c2_1 f0_1 f1_1 f2_1 z_1
  have s_w1 := hb.size
  (try simp only [World.size_alloc] at s_w1)
  replace P0 := hid (P0.out.below hb)
  replace A1 := hid (els_grown A1.out hb)
  replace B := hid (B.out.trans (hb.mono B.out.size))
  clear hb
  have t_sz1 : ¬ ((1048576 - (szLp x0 : Nat) - (x1.length : Nat) : Int) < 0) := by omega
  go_wp2_with fail
  refine (sz_rats _ _ x1.length (1048576 - (szLp x0 : Nat)) (1048576 - (szLp x0 : Nat) - (x1.length : Nat)) _ (by omega) (by omega) (by omega) (hid (.inr ⟨by omega, by omega⟩))).mono ?_
  rintro e w' ⟨rfl, rfl⟩
  obtain ⟨c0_2, c1_2, c2_2, f0_2, f1_2, f2_2, z_2⟩ := HasL.three P0.out
  go_wp2_with fail
  refine (to_lp _ x0 0 w.heap.size _ (by omega) (good_lp.keep r0 (sm_below B.out (Nat.le_refl _))) B.out.size).mono ?_
  rintro e w2 ⟨dss0, rfl, hd, hb⟩
  clear c0_2 c1_2 c2_2 f0_2 f1_2 f2_2 z_2
  have s_w2 := hb.size
  (try simp only [World.size_alloc] at s_w2)
  replace P0 := hid (P0.out.below hb)
  replace A1 := hid (els_grown A1.out hb)
  replace B := hid (B.out.trans (hb.mono B.out.size))
  clear hb
  have hd0 := good_lp.up hd (Nat.zero_le _) (Nat.le_refl _)
  obtain ⟨as0, caps0, os0, capos0, us0, capus0, hds, _⟩ := lp_open hd
  subst hds
  have Xs0 := hid hd0
  clear hd hd0
  go_wp2_with fail
  refine (to_rats _ _ x1 0 _ _ (by omega) A1.out (Nat.le_refl _)).mono ?_
  rintro e w3 ⟨rfl, hd, _, hb, hlt⟩
  have s_w3 := hb.size
  (try simp only [World.size_alloc] at s_w3)
  replace P0 := hid (P0.out.below hb)
  replace A1 := hid (els_grown A1.out hb)
  replace Xs0 := hid (good_lp.grown Xs0.out hb)
  replace B := hid (B.out.trans (hb.mono B.out.size))
  clear hb
  (try simp only [World.size_alloc] at hd hlt)
  have Xs1 := hid (hd.up good_rat (Nat.zero_le _) (Nat.succ_le_of_lt hlt))
  clear hd hlt
  go_wp2_with fail
  refine (S.out _ _ _ _ Xs0.out Xs1.out).mono ?_
  rintro e w4 ⟨rfl, hb⟩
  have s_w4 := hb.size
  (try simp only [World.size_alloc] at s_w4)
  replace P0 := hid (P0.out.below hb)
  replace A1 := hid (els_grown A1.out hb)
  replace Xs0 := hid (good_lp.grown Xs0.out hb)
  replace Xs1 := hid (els_grown Xs1.out hb)
  replace B := hid (B.out.trans (hb.mono B.out.size))
  clear hb
  clear Xs0
  clear Xs1
  obtain ⟨c0_3, c1_3, c2_3, f0_3, f1_3, f2_3, z_3⟩ := HasL.three P0.out
  go_wp2_with fail
  refine (to_lp _ x0 0 w.heap.size _ (by omega) (good_lp.keep r0 (sm_below B.out (Nat.le_refl _))) B.out.size).mono ?_
  rintro e w5 ⟨dsx0, rfl, hd, hb⟩
  clear c0_3 c1_3 c2_3 f0_3 f1_3 f2_3 z_3
  have s_w5 := hb.size
  (try simp only [World.size_alloc] at s_w5)
  replace P0 := hid (P0.out.below hb)
  replace A1 := hid (els_grown A1.out hb)
  replace B := hid (B.out.trans (hb.mono B.out.size))
  clear hb
  have hd0 := good_lp.up hd (Nat.zero_le _) (Nat.le_refl _)
  obtain ⟨ax0, capx0, ox0, capox0, ux0, capux0, hds, _⟩ := lp_open hd
  subst hds
  have X0 := hid hd0
  clear hd hd0
  go_wp2_with fail
  have Q0 := hid (hasl_new w5 [.slice ax0 x0.1.length capx0, .slice ox0 x0.2.1.length capox0, .slice ux0 x0.2.2.length capux0] 32)
  replace P0 := hid (P0.out.alloc (.cells #[.slice ax0 x0.1.length capx0, .slice ox0 x0.2.1.length capox0, .slice ux0 x0.2.2.length capux0] 32))
  replace A1 := hid (els_grown A1.out ((Below.refl _ _).alloc (Nat.le_refl _) (.cells #[.slice ax0 x0.1.length capx0, .slice ox0 x0.2.1.length capox0, .slice ux0 x0.2.2.length capux0] 32)))
  replace X0 := hid (good_lp.grown X0.out ((Below.refl _ _).alloc (Nat.le_refl _) (.cells #[.slice ax0 x0.1.length capx0, .slice ox0 x0.2.1.length capox0, .slice ux0 x0.2.2.length capux0] 32)))
  replace B := hid (B.out.alloc B.out.size (.cells #[.slice ax0 x0.1.length capx0, .slice ox0 x0.2.1.length capox0, .slice ux0 x0.2.2.length capux0] 32))
  refine (to_rats _ _ x1 0 _ _ (by omega) A1.out (Nat.le_refl _)).mono ?_
  rintro e w6 ⟨rfl, hd, _, hb, hlt⟩
  have s_w6 := hb.size
  (try simp only [World.size_alloc] at s_w6)
  replace P0 := hid (P0.out.below hb)
  replace A1 := hid (els_grown A1.out hb)
  replace X0 := hid (good_lp.grown X0.out hb)
  replace Q0 := hid (Q0.out.below hb)
  replace B := hid (B.out.trans (hb.mono B.out.size))
  clear hb
  (try simp only [World.size_alloc] at hd hlt)
  have X1 := hid (hd.up good_rat (Nat.zero_le _) (Nat.succ_le_of_lt hlt))
  clear hd hlt
  obtain ⟨c0_4, c1_4, c2_4, f0_4, f1_4, f2_4, z_4⟩ := HasL.three Q0.out
  go_wp2_with fail
  refine (I.out _ _ _ _ X0.out X1.out).mono ?_
  rintro e w7 ⟨rfl, hb⟩
  clear c0_4 c1_4 c2_4 f0_4 f1_4 f2_4 z_4
  have s_w7 := hb.size
  (try simp only [World.size_alloc] at s_w7)
  replace P0 := hid (P0.out.below hb)
  replace A1 := hid (els_grown A1.out hb)
  replace X0 := hid (good_lp.grown X0.out hb)
  replace Q0 := hid (Q0.out.below hb)
  replace X1 := hid (els_grown X1.out hb)
  replace B := hid (B.out.trans (hb.mono B.out.size))
  clear hb
  have R0 := hid (good_lp.keep r0 (sm_below B.out (Nat.le_refl _)))
  obtain ⟨c0_5, c1_5, c2_5, f0_5, f1_5, f2_5, z_5⟩ := HasL.three Q0.out
  obtain ⟨c0_6, c1_6, c2_6, f0_6, f1_6, f2_6, z_6⟩ := HasL.three P0.out
  have hk0 := kp_refl w7
  go_upto_region 14 with fail
  go_cut [39] (fun s wx => s = .bool false ∧ Kp w7 0 wx)
  case first =>
    go_region_held3 (fun w' => w'.cell? ⟨w.heap.size, 0, none⟩ = some (.slice a0 x0.1.length cap0) ∧ w'.cell? ⟨w.heap.size, 1, none⟩ = some (.slice o0 x0.2.1.length capo0) ∧ w'.cell? ⟨w.heap.size, 2, none⟩ = some (.slice u0 x0.2.2.length capu0) ∧ w'.cell? ⟨w5.heap.size, 0, none⟩ = some (.slice ax0 x0.1.length capx0) ∧ w'.cell? ⟨w5.heap.size, 1, none⟩ = some (.slice ox0 x0.2.1.length capox0) ∧ w'.cell? ⟨w5.heap.size, 2, none⟩ = some (.slice ux0 x0.2.2.length capux0) ∧ Kp w7 0 w')
      (first
        | (go_split_ands
           repeat' apply And.intro
           all_goals (first | (with_reducible assumption) | (with_reducible exact cell_drew (by assumption)) | (with_reducible exact Kp.drew (by assumption)) | (with_reducible exact Kp.cell (by assumption) hb1 (by omega) (by assumption)) | (with_reducible exact Kp.call (by assumption) hb1))))
      (first
        | (go_split_ands; go_at_call 45; (with_reducible refine (to_lp _ x0 0 w.heap.size _ (by omega) (gd_kp good_lp R0.out (by with_reducible assumption) (by omega)) (kp_le (by with_reducible assumption) (by omega))).mono ?_); rintro e wT ⟨dsT, rfl, hdT, hb1⟩; obtain ⟨aT, capT, oT, capoT, uT, capuT, hdsT, _⟩ := lp_open hdT; subst hdsT; have HT := hid hdT; clear hdT)
        | (go_split_ands; go_at_call 46; (with_reducible refine (eq_lp _ _ x0 0 w7.heap.size _ wT.heap.size _ (by omega) (gd_kp good_lp X0.out (by with_reducible assumption) (Nat.le_refl _)) (by first | exact HT.out | exact good_lp.drew HT.out) (kp_le (by with_reducible assumption) (Nat.le_refl _)) (by first | exact Nat.le_refl _ | simp)).mono ?_); rintro e wU ⟨rfl, hb1⟩))
    all_goals
      go_wp2_with fail
      go_meet
      go_split_ands
      exact ⟨rfl, by with_reducible assumption⟩
  case rest =>
    obtain ⟨rfl, hk⟩ := hcut
    obtain ⟨w8, rfl⟩ : ∃ wo : World, wo = wc := ⟨_, rfl⟩
    clear hk0 R0
    clear c0_5 c1_5 c2_5 f0_5 f1_5 f2_5 z_5
    clear c0_6 c1_6 c2_6 f0_6 f1_6 f2_6 z_6
    have hb := hk.bel
    clear hk
    have s_w8 := hb.size
    (try simp only [World.size_alloc] at s_w8)
    replace P0 := hid (P0.out.below hb)
    replace A1 := hid (els_grown A1.out hb)
    replace X0 := hid (good_lp.grown X0.out hb)
    replace Q0 := hid (Q0.out.below hb)
    replace X1 := hid (els_grown X1.out hb)
    replace B := hid (B.out.trans (hb.mono B.out.size))
    clear hb
    go_wp2_with fail
    refine (to_rats _ _ x1 0 _ _ (by omega) A1.out (Nat.le_refl _)).mono ?_
    rintro e w9 ⟨rfl, hd, _, hb, hlt⟩
    have s_w9 := hb.size
    (try simp only [World.size_alloc] at s_w9)
    replace P0 := hid (P0.out.below hb)
    replace A1 := hid (els_grown A1.out hb)
    replace X0 := hid (good_lp.grown X0.out hb)
    replace Q0 := hid (Q0.out.below hb)
    replace X1 := hid (els_grown X1.out hb)
    replace B := hid (B.out.trans (hb.mono B.out.size))
    clear hb
    (try simp only [World.size_alloc] at hd hlt)
    have Xe1 := hid (hd.up good_rat (Nat.zero_le _) (Nat.succ_le_of_lt hlt))
    clear hd hlt
    go_wp2_with fail
    refine (eq_rats _ _ _ _ x1 0 _ 0 _ _ (by omega) X1.out Xe1.out (Nat.le_refl _) (Nat.le_refl _)).mono ?_
    rintro e w10 ⟨rfl, hb⟩
    have s_w10 := hb.size
    (try simp only [World.size_alloc] at s_w10)
    replace P0 := hid (P0.out.below hb)
    replace A1 := hid (els_grown A1.out hb)
    replace X0 := hid (good_lp.grown X0.out hb)
    replace Q0 := hid (Q0.out.below hb)
    replace X1 := hid (els_grown X1.out hb)
    replace Xe1 := hid (els_grown Xe1.out hb)
    replace B := hid (B.out.trans (hb.mono B.out.size))
    clear hb
    clear Xe1
    go_wp2_with fail
    go_ret
    exact ⟨rfl, B.out⟩

set_option maxRecDepth 100000 in
theorem walk (cs0 : List Value) (x0 : LpD) (a1 : Option Addr) (cap1 : Nat) (x1 : List RatD) (hn1 : x1.length ≤ 9223372036854775807) (w : World) (r0 : rLp w 0 w.heap.size cs0 x0) (r1 : Els 2 rRat w 0 w.heap.size a1 x1) (SI : (szLp x0 + x1.length ≤ 1048576 → ∃ (c : Bool), (∀ (W : World) (ds0 : List Value) (b1 : Option Addr) (bap1 : Nat), rLp W 0 W.heap.size ds0 x0 → Els 2 rRat W 0 W.heap.size b1 x1 → Calls Try.prog 47 #[.agg ds0.toArray, .slice b1 x1.length bap1] W fun e w' => e = .returned (.bool c) ∧ Below W.heap.size W w') ∧ (∀ (W : World) (ds0 : List Value) (b1 : Option Addr) (bap1 : Nat), rLp W 0 W.heap.size ds0 x0 → Els 2 rRat W 0 W.heap.size b1 x1 → Calls Try.prog 34 #[.agg ds0.toArray, .slice b1 x1.length bap1] W fun e w' => e = .returned (.bool c) ∧ Below W.heap.size W w'))) :
    Calls Try.prog 9 #[.agg cs0.toArray, .slice a1 x1.length cap1] w fun e w' => e = .returned (.bool true) ∧ Below w.heap.size w w' := by
  by_cases ht0 : 1048576 < szLp x0
  · clear SI
    obtain ⟨a0, cap0, o0, capo0, u0, capu0, hcs0, _⟩ := lp_open r0
    subst hcs0
    have P0 := hid (hasl_new w [.slice a0 x0.1.length cap0, .slice o0 x0.2.1.length capo0, .slice u0 x0.2.2.length capu0] 57)
    have B := hid ((Below.refl w.heap.size w).alloc (by simp) (.cells #[.slice a0 x0.1.length cap0, .slice o0 x0.2.1.length capo0, .slice u0 x0.2.2.length capu0] 57))
    have A1 := hid (els_grown r1 B.out)
    go_enter Try.func9, Try.ntmps9
    obtain ⟨c0_7, c1_7, c2_7, f0_7, f1_7, f2_7, z_7⟩ := HasL.three P0.out
    go_wp2_with fail
    refine (sz_lp _ x0 0 w.heap.size (1048576) (-1) _ (by omega) (by omega) (good_lp.keep r0 (sm_below B.out (Nat.le_refl _))) B.out.size (hid (.inl ⟨by omega, rfl⟩))).mono ?_
    rintro e w1 ⟨rfl, hb⟩
    clear c0_7 c1_7 c2_7 f0_7 f1_7 f2_7 z_7
    have s_w1 := hb.size
    (try simp only [World.size_alloc] at s_w1)
    replace P0 := hid (P0.out.below hb)
    replace A1 := hid (els_grown A1.out hb)
    replace B := hid (B.out.trans (hb.mono B.out.size))
    clear hb
    go_wp2
    go_ret
    exact ⟨rfl, B.out⟩
  · by_cases ht1 : 1048576 < szLp x0 + x1.length
    · clear SI
      obtain ⟨a0, cap0, o0, capo0, u0, capu0, hcs0, _⟩ := lp_open r0
      subst hcs0
      have P0 := hid (hasl_new w [.slice a0 x0.1.length cap0, .slice o0 x0.2.1.length capo0, .slice u0 x0.2.2.length capu0] 57)
      have B := hid ((Below.refl w.heap.size w).alloc (by simp) (.cells #[.slice a0 x0.1.length cap0, .slice o0 x0.2.1.length capo0, .slice u0 x0.2.2.length capu0] 57))
      have A1 := hid (els_grown r1 B.out)
      go_enter Try.func9, Try.ntmps9
      have t_sz0 : ¬ ((1048576 - (szLp x0 : Nat) : Int) < 0) := by omega
      obtain ⟨c0_8, c1_8, c2_8, f0_8, f1_8, f2_8, z_8⟩ := HasL.three P0.out
      go_wp2_with fail
      refine (sz_lp _ x0 0 w.heap.size (1048576) (1048576 - (szLp x0 : Nat)) _ (by omega) (by omega) (good_lp.keep r0 (sm_below B.out (Nat.le_refl _))) B.out.size (hid (.inr ⟨by omega, by omega⟩))).mono ?_
      rintro e w1 ⟨rfl, hb⟩
      clear c0_8 c1_8 c2_8 f0_8 f1_8 f2_8 z_8
      have s_w1 := hb.size
      (try simp only [World.size_alloc] at s_w1)
      replace P0 := hid (P0.out.below hb)
      replace A1 := hid (els_grown A1.out hb)
      replace B := hid (B.out.trans (hb.mono B.out.size))
      clear hb
      go_wp2_with fail
      refine (sz_rats _ _ x1.length (1048576 - (szLp x0 : Nat)) (-1) _ (by omega) (by omega) (by omega) (hid (.inl ⟨by omega, rfl⟩))).mono ?_
      rintro e w' ⟨rfl, rfl⟩
      go_wp2
      go_ret
      exact ⟨rfl, B.out⟩
    · obtain ⟨c, S, I⟩ := SI (by omega)
      exact core cs0 x0 a1 cap1 x1 c w (by omega) r0 r1 (hid S) (hid I)
end Go.Proofs.Ytjnphlgmmjdeiaa.IsFeasibleMaxC
