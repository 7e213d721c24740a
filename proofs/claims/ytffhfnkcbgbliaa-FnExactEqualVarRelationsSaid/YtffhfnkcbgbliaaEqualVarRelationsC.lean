/- The walk of law FnExactEqualVarRelations, at every argument, out of the contracts of the model's function and the program's. -/
import Derived.Test.YtffhfnkcbgbliaaVrl
import Derived.Test.YtffhfnkcbgbliaaLawKit
import Derived.Deep.RegionHeld3
import Derived.Deep.DeepCutAuto
namespace Go.Proofs.Ytffhfnkcbgbliaa.EqualVarRelationsC
open Go.RowKit
open Go.Proofs.Ytffhfnkcbgbliaa.Num Go.Proofs.Ytffhfnkcbgbliaa.IntRow Go.Proofs.Ytffhfnkcbgbliaa.Rdr Go.Proofs.Ytffhfnkcbgbliaa.Dat Go.Proofs.Ytffhfnkcbgbliaa.HasL Go.Proofs.Ytffhfnkcbgbliaa.LawKit Go.Proofs.Ytffhfnkcbgbliaa.Vrl Go.Proofs.Ytffhfnkcbgbliaa.Keep Go.Proofs.Ytffhfnkcbgbliaa.Kept
set_option linter.unusedVariables false

set_option maxRecDepth 100000 in
set_option maxHeartbeats 4000000 in
theorem core (cs0 : List Value) (x0 : VrelD) (cs1 : List Value) (x1 : VrelD) (c : Bool) (w : World) (ht : szV x0 + szV x1 ≤ 1048576)  (r0 : rVrel w 0 w.heap.size cs0 x0) (r1 : rVrel w 0 w.heap.size cs1 x1)
    (S : RowKit.Hid (∀ (W : World) (d0 : List Value) (d1 : List Value), rVrel W 0 W.heap.size d0 x0 → rVrel W 0 W.heap.size d1 x1 → Calls Try.prog 7 #[.agg d0.toArray, .agg d1.toArray] W fun e w' => e = .returned (.bool c) ∧ Below W.heap.size W w'))
    (I : RowKit.Hid (∀ (W : World) (d0 : List Value) (d1 : List Value), rVrel W 0 W.heap.size d0 x0 → rVrel W 0 W.heap.size d1 x1 → Calls Try.prog 9 #[.agg d0.toArray, .agg d1.toArray] W fun e w' => e = .returned (.bool c) ∧ Below W.heap.size W w')) :
    Calls Try.prog 3 #[.agg cs0.toArray, .agg cs1.toArray] w fun e w' => e = .returned (.bool true) ∧ Below w.heap.size w w' := by
  obtain ⟨a0, cap0, o0, capo0, hcs0, _⟩ := vrel_open r0
  subst hcs0
  obtain ⟨a1, cap1, o1, capo1, hcs1, _⟩ := vrel_open r1
  subst hcs1
  have P0 := hid (hasl_new w [.slice a0 x0.1.length cap0, .int .i64 x0.2.1, .slice o0 x0.2.2.length capo0] 27)
  have P1 := hid (hasl_new (w.alloc (.cells #[.slice a0 x0.1.length cap0, .int .i64 x0.2.1, .slice o0 x0.2.2.length capo0] 27)) [.slice a1 x1.1.length cap1, .int .i64 x1.2.1, .slice o1 x1.2.2.length capo1] 27)
  replace P0 := hid (P0.out.alloc (.cells #[.slice a1 x1.1.length cap1, .int .i64 x1.2.1, .slice o1 x1.2.2.length capo1] 27))
  simp only [World.size_alloc] at P1
  have B := hid (((Below.refl w.heap.size w).alloc (by simp) (.cells #[.slice a0 x0.1.length cap0, .int .i64 x0.2.1, .slice o0 x0.2.2.length capo0] 27)).alloc (by simp) (.cells #[.slice a1 x1.1.length cap1, .int .i64 x1.2.1, .slice o1 x1.2.2.length capo1] 27))
  have hne : (c != c) = false := by simp
  go_enter Try.func3, Try.ntmps3
  have t_sz0 : ¬ ((1048576 - (szV x0 : Nat) : Int) < 0) := by omega
  obtain ⟨c0_1, c1_1, c2_1, f0_1, f1_1, f2_1, z_1⟩ := HasL.three P0.out
  go_wp2_with fail
  refine (sz_vrel _ x0 0 w.heap.size (1048576) (1048576 - (szV x0 : Nat)) _ (by omega) (by omega) (good_vrel.keep r0 (sm_below B.out (Nat.le_refl _))) B.out.size (hid (.inr ⟨by omega, by omega⟩))).mono ?_
  rintro e w1 ⟨rfl, hb⟩
  clear c0_1 c1_1 c2_1 f0_1 f1_1 f2_1 z_1
  have s_w1 := hb.size
  (try simp only [World.size_alloc] at s_w1)
  replace P0 := hid (P0.out.below hb)
  replace P1 := hid (P1.out.below hb)
  replace B := hid (B.out.trans (hb.mono B.out.size))
  clear hb
  have t_sz1 : ¬ ((1048576 - (szV x0 : Nat) - (szV x1 : Nat) : Int) < 0) := by omega
  obtain ⟨c0_2, c1_2, c2_2, f0_2, f1_2, f2_2, z_2⟩ := HasL.three P1.out
  go_wp2_with fail
  refine (sz_vrel _ x1 0 w.heap.size (1048576 - (szV x0 : Nat)) (1048576 - (szV x0 : Nat) - (szV x1 : Nat)) _ (by omega) (by omega) (good_vrel.keep r1 (sm_below B.out (Nat.le_refl _))) B.out.size (hid (.inr ⟨by omega, by omega⟩))).mono ?_
  rintro e w2 ⟨rfl, hb⟩
  clear c0_2 c1_2 c2_2 f0_2 f1_2 f2_2 z_2
  have s_w2 := hb.size
  (try simp only [World.size_alloc] at s_w2)
  replace P0 := hid (P0.out.below hb)
  replace P1 := hid (P1.out.below hb)
  replace B := hid (B.out.trans (hb.mono B.out.size))
  clear hb
  have R0 := hid (good_vrel.keep r0 (sm_below B.out (Nat.le_refl _)))
  have R1 := hid (good_vrel.keep r1 (sm_below B.out (Nat.le_refl _)))
  have hs2 : w.heap.size + 2 ≤ w2.heap.size := by have := P1.out.1; omega
  obtain ⟨c0_3, c1_3, c2_3, f0_3, f1_3, f2_3, z_3⟩ := HasL.three P0.out
  obtain ⟨c0_4, c1_4, c2_4, f0_4, f1_4, f2_4, z_4⟩ := HasL.three P1.out
  have hk2 := kp_refl w2
  go_upto_region 8 with fail
  go_cut [6] (fun s6 wx => s6 = .bool c ∧ Kp w2 0 wx)
  case first =>
    go_region_held3 (fun w' => w'.cell? ⟨w.heap.size, 0, none⟩ = some (.slice a0 x0.1.length cap0) ∧ w'.cell? ⟨w.heap.size, 1, none⟩ = some (.int .i64 x0.2.1) ∧ w'.cell? ⟨w.heap.size, 2, none⟩ = some (.slice o0 x0.2.2.length capo0) ∧ w'.cell? ⟨w.heap.size + 1, 0, none⟩ = some (.slice a1 x1.1.length cap1) ∧ w'.cell? ⟨w.heap.size + 1, 1, none⟩ = some (.int .i64 x1.2.1) ∧ w'.cell? ⟨w.heap.size + 1, 2, none⟩ = some (.slice o1 x1.2.2.length capo1) ∧ Kp w2 0 w')
      (first
        | (go_split_ands
           repeat' apply And.intro
           all_goals (first | (with_reducible assumption) | (with_reducible exact cell_drew (by assumption)) | (with_reducible exact Kp.drew (by assumption)) | (with_reducible exact Kp.cell (by assumption) hb1 (by omega) (by assumption)) | (with_reducible exact Kp.call (by assumption) hb1))))
      (first | (go_split_ands; go_at_call 8; (with_reducible refine (to_vrel _ x0 0 w.heap.size _ (by omega) (gd_kp good_vrel R0.out (by with_reducible assumption) (by omega)) (kp_le (by with_reducible assumption) (by omega))).mono ?_); rintro e wA ⟨dsA, rfl, hdA, hb1⟩; have HA := hid (good_vrel.up hdA (Nat.zero_le _) (Nat.le_refl _)); obtain ⟨aA, capA, oA, capoA, hdsA, _⟩ := vrel_open hdA; subst hdsA; clear hdA) | (go_split_ands; go_at_call 8; (with_reducible refine (to_vrel _ x1 0 w.heap.size _ (by omega) (gd_kp good_vrel R1.out (by with_reducible assumption) (by omega)) (kp_le (by with_reducible assumption) (by omega))).mono ?_); rintro e wB ⟨dsB, rfl, hdB, hb1⟩; have HB := hid (good_vrel.up hdB (Nat.zero_le _) (Nat.le_refl _)); obtain ⟨aB, capB, oB, capoB, hdsB, _⟩ := vrel_open hdB; subst hdsB; clear hdB; (try (first | (with_reducible have HA := hid (good_vrel.grown HA.out hb1) ) | (with_reducible have HA := hid (good_vrel.grown_drew HA.out hb1))))) | (go_split_ands; go_at_call 7; (with_reducible refine (S.out _ _ _ (by first | (with_reducible exact HA.out) | (with_reducible exact good_vrel.drew HA.out)) (by first | (with_reducible exact HB.out) | (with_reducible exact good_vrel.drew HB.out))).mono ?_); rintro e wC ⟨rfl, hb1⟩))
    all_goals
      go_wp2_with fail
      go_meet
      go_split_ands
      exact ⟨rfl, by with_reducible assumption⟩
  case rest =>
    obtain ⟨rfl, hk⟩ := hcut
    obtain ⟨w3, rfl⟩ : ∃ wo : World, wo = wc := ⟨_, rfl⟩
    have hb := hk.bel
    clear hk hk2
    clear c0_3 c1_3 c2_3 f0_3 f1_3 f2_3 z_3
    clear c0_4 c1_4 c2_4 f0_4 f1_4 f2_4 z_4
    have s_w3 := hb.size
    (try simp only [World.size_alloc] at s_w3)
    replace P0 := hid (P0.out.below hb)
    replace P1 := hid (P1.out.below hb)
    replace B := hid (B.out.trans (hb.mono B.out.size))
    clear hb
    clear R0 R1
    obtain ⟨c0_5, c1_5, c2_5, f0_5, f1_5, f2_5, z_5⟩ := HasL.three P0.out
    go_wp2_with fail
    refine (to_vrel _ x0 0 w.heap.size _ (by omega) (good_vrel.keep r0 (sm_below B.out (Nat.le_refl _))) B.out.size).mono ?_
    rintro e w4 ⟨dsx0, rfl, hd, hb⟩
    clear c0_5 c1_5 c2_5 f0_5 f1_5 f2_5 z_5
    have s_w4 := hb.size
    (try simp only [World.size_alloc] at s_w4)
    replace P0 := hid (P0.out.below hb)
    replace P1 := hid (P1.out.below hb)
    replace B := hid (B.out.trans (hb.mono B.out.size))
    clear hb
    have hd0 := good_vrel.up hd (Nat.zero_le _) (Nat.le_refl _)
    obtain ⟨ax0, capx0, ox0, capox0, hds, _⟩ := vrel_open hd
    subst hds
    have X0 := hid hd0
    clear hd hd0
    obtain ⟨c0_6, c1_6, c2_6, f0_6, f1_6, f2_6, z_6⟩ := HasL.three P1.out
    go_wp2_with fail
    clear c0_6 c1_6 c2_6 f0_6 f1_6 f2_6 z_6
    replace P0 := hid (P0.out.alloc (.cells #[.slice ax0 x0.1.length capx0, .int .i64 x0.2.1, .slice ox0 x0.2.2.length capox0] 32))
    replace P1 := hid (P1.out.alloc (.cells #[.slice ax0 x0.1.length capx0, .int .i64 x0.2.1, .slice ox0 x0.2.2.length capox0] 32))
    replace X0 := hid (good_vrel.grown X0.out ((Below.refl _ _).alloc (Nat.le_refl _) (.cells #[.slice ax0 x0.1.length capx0, .int .i64 x0.2.1, .slice ox0 x0.2.2.length capox0] 32)))
    replace B := hid (B.out.alloc B.out.size (.cells #[.slice ax0 x0.1.length capx0, .int .i64 x0.2.1, .slice ox0 x0.2.2.length capox0] 32))
    have Q0 := hid (hasl_new w4 [.slice ax0 x0.1.length capx0, .int .i64 x0.2.1, .slice ox0 x0.2.2.length capox0] 32)
    refine (to_vrel _ x1 0 w.heap.size _ (by omega) (good_vrel.keep r1 (sm_below B.out (Nat.le_refl _))) B.out.size).mono ?_
    rintro e w5 ⟨dsx1, rfl, hd, hb⟩
    have s_w5 := hb.size
    (try simp only [World.size_alloc] at s_w5)
    replace P0 := hid (P0.out.below hb)
    replace P1 := hid (P1.out.below hb)
    replace X0 := hid (good_vrel.grown X0.out hb)
    replace Q0 := hid (Q0.out.below hb)
    replace B := hid (B.out.trans (hb.mono B.out.size))
    clear hb
    have hd0 := good_vrel.up hd (Nat.zero_le _) (Nat.le_refl _)
    obtain ⟨ax1, capx1, ox1, capox1, hds, _⟩ := vrel_open hd
    subst hds
    have X1 := hid hd0
    clear hd hd0
    obtain ⟨c0_7, c1_7, c2_7, f0_7, f1_7, f2_7, z_7⟩ := HasL.three Q0.out
    go_wp2_with fail
    clear c0_7 c1_7 c2_7 f0_7 f1_7 f2_7 z_7
    replace P0 := hid (P0.out.alloc (.cells #[.slice ax1 x1.1.length capx1, .int .i64 x1.2.1, .slice ox1 x1.2.2.length capox1] 32))
    replace P1 := hid (P1.out.alloc (.cells #[.slice ax1 x1.1.length capx1, .int .i64 x1.2.1, .slice ox1 x1.2.2.length capox1] 32))
    replace X0 := hid (good_vrel.grown X0.out ((Below.refl _ _).alloc (Nat.le_refl _) (.cells #[.slice ax1 x1.1.length capx1, .int .i64 x1.2.1, .slice ox1 x1.2.2.length capox1] 32)))
    replace Q0 := hid (Q0.out.alloc (.cells #[.slice ax1 x1.1.length capx1, .int .i64 x1.2.1, .slice ox1 x1.2.2.length capox1] 32))
    replace X1 := hid (good_vrel.grown X1.out ((Below.refl _ _).alloc (Nat.le_refl _) (.cells #[.slice ax1 x1.1.length capx1, .int .i64 x1.2.1, .slice ox1 x1.2.2.length capox1] 32)))
    replace B := hid (B.out.alloc B.out.size (.cells #[.slice ax1 x1.1.length capx1, .int .i64 x1.2.1, .slice ox1 x1.2.2.length capox1] 32))
    have Q1 := hid (hasl_new w5 [.slice ax1 x1.1.length capx1, .int .i64 x1.2.1, .slice ox1 x1.2.2.length capox1] 32)
    refine (I.out _ _ _ X0.out X1.out).mono ?_
    rintro e w6 ⟨rfl, hb⟩
    have s_w6 := hb.size
    (try simp only [World.size_alloc] at s_w6)
    replace P0 := hid (P0.out.below hb)
    replace P1 := hid (P1.out.below hb)
    replace X0 := hid (good_vrel.grown X0.out hb)
    replace Q0 := hid (Q0.out.below hb)
    replace X1 := hid (good_vrel.grown X1.out hb)
    replace Q1 := hid (Q1.out.below hb)
    replace B := hid (B.out.trans (hb.mono B.out.size))
    clear hb
    have R0 := hid (good_vrel.keep r0 (sm_below B.out (Nat.le_refl _)))
    obtain ⟨c0_8, c1_8, c2_8, f0_8, f1_8, f2_8, z_8⟩ := HasL.three Q0.out
    obtain ⟨c0_9, c1_9, c2_9, f0_9, f1_9, f2_9, z_9⟩ := HasL.three P0.out
    have hk0 := kp_refl w6
    go_upto_region 14 with fail
    go_cut [39] (fun s wx => s = .bool false ∧ Kp w6 0 wx)
    case first =>
      go_region_held3 (fun w' => w'.cell? ⟨w.heap.size, 0, none⟩ = some (.slice a0 x0.1.length cap0) ∧ w'.cell? ⟨w.heap.size, 1, none⟩ = some (.int .i64 x0.2.1) ∧ w'.cell? ⟨w.heap.size, 2, none⟩ = some (.slice o0 x0.2.2.length capo0) ∧ w'.cell? ⟨w4.heap.size, 0, none⟩ = some (.slice ax0 x0.1.length capx0) ∧ w'.cell? ⟨w4.heap.size, 1, none⟩ = some (.int .i64 x0.2.1) ∧ w'.cell? ⟨w4.heap.size, 2, none⟩ = some (.slice ox0 x0.2.2.length capox0) ∧ Kp w6 0 w')
        (first
          | (go_split_ands
             repeat' apply And.intro
             all_goals (first | (with_reducible assumption) | (with_reducible exact cell_drew (by assumption)) | (with_reducible exact Kp.drew (by assumption)) | (with_reducible exact Kp.cell (by assumption) hb1 (by omega) (by assumption)) | (with_reducible exact Kp.call (by assumption) hb1))))
        (first
          | (go_split_ands; go_at_call 8; (with_reducible refine (to_vrel _ x0 0 w.heap.size _ (by omega) (gd_kp good_vrel R0.out (by with_reducible assumption) (by omega)) (kp_le (by with_reducible assumption) (by omega))).mono ?_); rintro e wT ⟨dsT, rfl, hdT, hb1⟩; obtain ⟨aT, capT, oT, capoT, hdsT, _⟩ := vrel_open hdT; subst hdsT; have HT := hid hdT; clear hdT)
          | (go_split_ands; go_at_call 10; (with_reducible refine (eq_vrel _ _ x0 0 w6.heap.size _ wT.heap.size _ (by omega) (gd_kp good_vrel X0.out (by with_reducible assumption) (Nat.le_refl _)) (by first | exact HT.out | exact good_vrel.drew HT.out) (kp_le (by with_reducible assumption) (Nat.le_refl _)) (by first | exact Nat.le_refl _ | simp)).mono ?_); rintro e wU ⟨rfl, hb1⟩))
      all_goals
        go_wp2_with fail
        go_meet
        go_split_ands
        exact ⟨rfl, by with_reducible assumption⟩
    case rest =>
      obtain ⟨rfl, hk⟩ := hcut
      obtain ⟨w7, rfl⟩ : ∃ wo : World, wo = wc := ⟨_, rfl⟩
      clear hk0 R0
      clear c0_8 c1_8 c2_8 f0_8 f1_8 f2_8 z_8
      clear c0_9 c1_9 c2_9 f0_9 f1_9 f2_9 z_9
      have hb := hk.bel
      clear hk
      have s_w7 := hb.size
      (try simp only [World.size_alloc] at s_w7)
      replace P0 := hid (P0.out.below hb)
      replace P1 := hid (P1.out.below hb)
      replace X0 := hid (good_vrel.grown X0.out hb)
      replace Q0 := hid (Q0.out.below hb)
      replace X1 := hid (good_vrel.grown X1.out hb)
      replace Q1 := hid (Q1.out.below hb)
      replace B := hid (B.out.trans (hb.mono B.out.size))
      clear hb
      have R1 := hid (good_vrel.keep r1 (sm_below B.out (Nat.le_refl _)))
      obtain ⟨c0_10, c1_10, c2_10, f0_10, f1_10, f2_10, z_10⟩ := HasL.three Q1.out
      obtain ⟨c0_11, c1_11, c2_11, f0_11, f1_11, f2_11, z_11⟩ := HasL.three P1.out
      have hk0 := kp_refl w7
      go_upto_region 16 with fail
      go_cut [44] (fun s wx => s = .bool false ∧ Kp w7 0 wx)
      case first =>
        go_region_held3 (fun w' => w'.cell? ⟨w.heap.size + 1, 0, none⟩ = some (.slice a1 x1.1.length cap1) ∧ w'.cell? ⟨w.heap.size + 1, 1, none⟩ = some (.int .i64 x1.2.1) ∧ w'.cell? ⟨w.heap.size + 1, 2, none⟩ = some (.slice o1 x1.2.2.length capo1) ∧ w'.cell? ⟨w5.heap.size, 0, none⟩ = some (.slice ax1 x1.1.length capx1) ∧ w'.cell? ⟨w5.heap.size, 1, none⟩ = some (.int .i64 x1.2.1) ∧ w'.cell? ⟨w5.heap.size, 2, none⟩ = some (.slice ox1 x1.2.2.length capox1) ∧ Kp w7 0 w')
          (first
            | (go_split_ands
               repeat' apply And.intro
               all_goals (first | (with_reducible assumption) | (with_reducible exact cell_drew (by assumption)) | (with_reducible exact Kp.drew (by assumption)) | (with_reducible exact Kp.cell (by assumption) hb1 (by omega) (by assumption)) | (with_reducible exact Kp.call (by assumption) hb1))))
          (first
            | (go_split_ands; go_at_call 8; (with_reducible refine (to_vrel _ x1 0 w.heap.size _ (by omega) (gd_kp good_vrel R1.out (by with_reducible assumption) (by omega)) (kp_le (by with_reducible assumption) (by omega))).mono ?_); rintro e wT ⟨dsT, rfl, hdT, hb1⟩; obtain ⟨aT, capT, oT, capoT, hdsT, _⟩ := vrel_open hdT; subst hdsT; have HT := hid hdT; clear hdT)
            | (go_split_ands; go_at_call 10; (with_reducible refine (eq_vrel _ _ x1 0 w7.heap.size _ wT.heap.size _ (by omega) (gd_kp good_vrel X1.out (by with_reducible assumption) (Nat.le_refl _)) (by first | exact HT.out | exact good_vrel.drew HT.out) (kp_le (by with_reducible assumption) (Nat.le_refl _)) (by first | exact Nat.le_refl _ | simp)).mono ?_); rintro e wU ⟨rfl, hb1⟩))
        all_goals
          go_wp2_with fail
          go_meet
          go_split_ands
          exact ⟨rfl, by with_reducible assumption⟩
      case rest =>
        obtain ⟨rfl, hk⟩ := hcut
        obtain ⟨w8, rfl⟩ : ∃ wo : World, wo = wc := ⟨_, rfl⟩
        clear hk0 R1
        clear c0_10 c1_10 c2_10 f0_10 f1_10 f2_10 z_10
        clear c0_11 c1_11 c2_11 f0_11 f1_11 f2_11 z_11
        have hb := hk.bel
        clear hk
        have s_w8 := hb.size
        (try simp only [World.size_alloc] at s_w8)
        replace P0 := hid (P0.out.below hb)
        replace P1 := hid (P1.out.below hb)
        replace X0 := hid (good_vrel.grown X0.out hb)
        replace Q0 := hid (Q0.out.below hb)
        replace X1 := hid (good_vrel.grown X1.out hb)
        replace Q1 := hid (Q1.out.below hb)
        replace B := hid (B.out.trans (hb.mono B.out.size))
        clear hb
        go_wp2_with fail
        go_ret
        exact ⟨rfl, B.out⟩

set_option maxRecDepth 100000 in
theorem walk (cs0 : List Value) (x0 : VrelD) (cs1 : List Value) (x1 : VrelD) (w : World)  (r0 : rVrel w 0 w.heap.size cs0 x0) (r1 : rVrel w 0 w.heap.size cs1 x1) (SI : (szV x0 + szV x1 ≤ 1048576 → ∃ c : Bool, ((∀ (W : World) (d0 : List Value) (d1 : List Value), rVrel W 0 W.heap.size d0 x0 → rVrel W 0 W.heap.size d1 x1 → Calls Try.prog 7 #[.agg d0.toArray, .agg d1.toArray] W fun e w' => e = .returned (.bool c) ∧ Below W.heap.size W w')) ∧ ((∀ (W : World) (d0 : List Value) (d1 : List Value), rVrel W 0 W.heap.size d0 x0 → rVrel W 0 W.heap.size d1 x1 → Calls Try.prog 9 #[.agg d0.toArray, .agg d1.toArray] W fun e w' => e = .returned (.bool c) ∧ Below W.heap.size W w')))) :
    Calls Try.prog 3 #[.agg cs0.toArray, .agg cs1.toArray] w fun e w' => e = .returned (.bool true) ∧ Below w.heap.size w w' := by
  by_cases ht0 : 1048576 < szV x0
  · clear SI
    obtain ⟨a0, cap0, o0, capo0, hcs0, _⟩ := vrel_open r0
    subst hcs0
    obtain ⟨a1, cap1, o1, capo1, hcs1, _⟩ := vrel_open r1
    subst hcs1
    have P0 := hid (hasl_new w [.slice a0 x0.1.length cap0, .int .i64 x0.2.1, .slice o0 x0.2.2.length capo0] 27)
    have P1 := hid (hasl_new (w.alloc (.cells #[.slice a0 x0.1.length cap0, .int .i64 x0.2.1, .slice o0 x0.2.2.length capo0] 27)) [.slice a1 x1.1.length cap1, .int .i64 x1.2.1, .slice o1 x1.2.2.length capo1] 27)
    replace P0 := hid (P0.out.alloc (.cells #[.slice a1 x1.1.length cap1, .int .i64 x1.2.1, .slice o1 x1.2.2.length capo1] 27))
    simp only [World.size_alloc] at P1
    have B := hid (((Below.refl w.heap.size w).alloc (by simp) (.cells #[.slice a0 x0.1.length cap0, .int .i64 x0.2.1, .slice o0 x0.2.2.length capo0] 27)).alloc (by simp) (.cells #[.slice a1 x1.1.length cap1, .int .i64 x1.2.1, .slice o1 x1.2.2.length capo1] 27))
    go_enter Try.func3, Try.ntmps3
    obtain ⟨c0_12, c1_12, c2_12, f0_12, f1_12, f2_12, z_12⟩ := HasL.three P0.out
    go_wp2_with fail
    refine (sz_vrel _ x0 0 w.heap.size (1048576) (-1) _ (by omega) (by omega) (good_vrel.keep r0 (sm_below B.out (Nat.le_refl _))) B.out.size (hid (.inl ⟨by omega, rfl⟩))).mono ?_
    rintro e w1 ⟨rfl, hb⟩
    clear c0_12 c1_12 c2_12 f0_12 f1_12 f2_12 z_12
    replace P0 := hid (P0.out.below hb)
    replace P1 := hid (P1.out.below hb)
    replace B := hid (B.out.trans (hb.mono B.out.size))
    clear hb
    go_wp2
    go_ret
    exact ⟨rfl, B.out⟩
  · by_cases ht1 : 1048576 < szV x0 + szV x1
    · clear SI
      obtain ⟨a0, cap0, o0, capo0, hcs0, _⟩ := vrel_open r0
      subst hcs0
      obtain ⟨a1, cap1, o1, capo1, hcs1, _⟩ := vrel_open r1
      subst hcs1
      have P0 := hid (hasl_new w [.slice a0 x0.1.length cap0, .int .i64 x0.2.1, .slice o0 x0.2.2.length capo0] 27)
      have P1 := hid (hasl_new (w.alloc (.cells #[.slice a0 x0.1.length cap0, .int .i64 x0.2.1, .slice o0 x0.2.2.length capo0] 27)) [.slice a1 x1.1.length cap1, .int .i64 x1.2.1, .slice o1 x1.2.2.length capo1] 27)
      replace P0 := hid (P0.out.alloc (.cells #[.slice a1 x1.1.length cap1, .int .i64 x1.2.1, .slice o1 x1.2.2.length capo1] 27))
      simp only [World.size_alloc] at P1
      have B := hid (((Below.refl w.heap.size w).alloc (by simp) (.cells #[.slice a0 x0.1.length cap0, .int .i64 x0.2.1, .slice o0 x0.2.2.length capo0] 27)).alloc (by simp) (.cells #[.slice a1 x1.1.length cap1, .int .i64 x1.2.1, .slice o1 x1.2.2.length capo1] 27))
      have t_sz0 : ¬ ((1048576 - (szV x0 : Nat) : Int) < 0) := by omega
      go_enter Try.func3, Try.ntmps3
      obtain ⟨c0_13, c1_13, c2_13, f0_13, f1_13, f2_13, z_13⟩ := HasL.three P0.out
      go_wp2_with fail
      refine (sz_vrel _ x0 0 w.heap.size (1048576) (1048576 - (szV x0 : Nat)) _ (by omega) (by omega) (good_vrel.keep r0 (sm_below B.out (Nat.le_refl _))) B.out.size (hid (.inr ⟨by omega, by omega⟩))).mono ?_
      rintro e w1 ⟨rfl, hb⟩
      clear c0_13 c1_13 c2_13 f0_13 f1_13 f2_13 z_13
      replace P0 := hid (P0.out.below hb)
      replace P1 := hid (P1.out.below hb)
      replace B := hid (B.out.trans (hb.mono B.out.size))
      clear hb
      obtain ⟨c0_14, c1_14, c2_14, f0_14, f1_14, f2_14, z_14⟩ := HasL.three P1.out
      go_wp2_with fail
      refine (sz_vrel _ x1 0 w.heap.size (1048576 - (szV x0 : Nat)) (-1) _ (by omega) (by omega) (good_vrel.keep r1 (sm_below B.out (Nat.le_refl _))) B.out.size (hid (.inl ⟨by omega, rfl⟩))).mono ?_
      rintro e w2 ⟨rfl, hb⟩
      clear c0_14 c1_14 c2_14 f0_14 f1_14 f2_14 z_14
      replace P0 := hid (P0.out.below hb)
      replace P1 := hid (P1.out.below hb)
      replace B := hid (B.out.trans (hb.mono B.out.size))
      clear hb
      go_wp2
      go_ret
      exact ⟨rfl, B.out⟩
    · obtain ⟨c, S, I⟩ := SI (by omega) 
      exact core cs0 x0 cs1 x1 c w (by omega)  r0 r1 (hid S) (hid I)
end Go.Proofs.Ytffhfnkcbgbliaa.EqualVarRelationsC
