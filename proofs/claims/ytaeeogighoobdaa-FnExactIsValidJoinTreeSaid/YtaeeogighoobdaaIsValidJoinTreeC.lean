/- The walk of law FnExactIsValidJoinTree, at every argument, out of the contracts of the model's function and the program's. -/
import Derived.Test.YtaeeogighoobdaaForest
import Derived.Test.YtaeeogighoobdaaQueryLaw
import Derived.Test.YtaeeogighoobdaaLawKit
import Derived.Deep.RegionHeld3
import Derived.Deep.DeepCutAuto
namespace Go.Proofs.Ytaeeogighoobdaa.IsValidJoinTreeC
open Go.RowKit
open Go.Proofs.Ytaeeogighoobdaa.Num Go.Proofs.Ytaeeogighoobdaa.IntRow Go.Proofs.Ytaeeogighoobdaa.Rdr Go.Proofs.Ytaeeogighoobdaa.Dat Go.Proofs.Ytaeeogighoobdaa.HasL Go.Proofs.Ytaeeogighoobdaa.LawKit Go.Proofs.Ytaeeogighoobdaa.Forest Go.Proofs.Ytaeeogighoobdaa.QueryLaw Go.Proofs.Ytaeeogighoobdaa.Keep Go.Proofs.Ytaeeogighoobdaa.Kept
set_option linter.unusedVariables false

set_option maxRecDepth 100000 in
set_option maxHeartbeats 4000000 in
theorem core (cs0 : List Value) (x0 : QueryD) (cs1 : List Value) (x1 : List Int) (c : Bool) (w : World) (ht : szQ x0 + szF x1 ≤ 1048576)  (r0 : rQuery w 0 w.heap.size cs0 x0) (r1 : rRow w 0 w.heap.size cs1 x1)
    (S : RowKit.Hid (∀ (W : World) (d0 : List Value) (d1 : List Value), rQuery W 0 W.heap.size d0 x0 → rRow W 0 W.heap.size d1 x1 → Calls Try.prog 27 #[.agg d0.toArray, .agg d1.toArray] W fun e w' => e = .returned (.bool c) ∧ Below W.heap.size W w'))
    (I : RowKit.Hid (∀ (W : World) (d0 : List Value) (d1 : List Value), rQuery W 0 W.heap.size d0 x0 → rRow W 0 W.heap.size d1 x1 → Calls Try.prog 29 #[.agg d0.toArray, .agg d1.toArray] W fun e w' => e = .returned (.bool c) ∧ Below W.heap.size W w')) :
    Calls Try.prog 6 #[.agg cs0.toArray, .agg cs1.toArray] w fun e w' => e = .returned (.bool true) ∧ Below w.heap.size w w' := by
  obtain ⟨a0, cap0, o0, capo0, hcs0, _⟩ := query_open r0
  subst hcs0
  obtain ⟨a1, cap1, hcs1, _⟩ := row_open r1
  subst hcs1
  have P0 := hid (hasl_new w [.int .i64 x0.1, .slice a0 x0.2.1.length cap0, .slice o0 x0.2.2.length capo0] 25)
  have P1 := hid (hasl_new (w.alloc (.cells #[.int .i64 x0.1, .slice a0 x0.2.1.length cap0, .slice o0 x0.2.2.length capo0] 25)) [.slice a1 x1.length cap1] 44)
  replace P0 := hid (P0.out.alloc (.cells #[.slice a1 x1.length cap1] 44))
  simp only [World.size_alloc] at P1
  have B := hid (((Below.refl w.heap.size w).alloc (by simp) (.cells #[.int .i64 x0.1, .slice a0 x0.2.1.length cap0, .slice o0 x0.2.2.length capo0] 25)).alloc (by simp) (.cells #[.slice a1 x1.length cap1] 44))
  have hne : (c != c) = false := by simp
  go_enter Try.func6, Try.ntmps6
  have t_sz0 : ¬ ((1048576 - (szQ x0 : Nat) : Int) < 0) := by omega
  obtain ⟨c0_1, c1_1, c2_1, f0_1, f1_1, f2_1, z_1⟩ := HasL.three P0.out
  go_wp2_with fail
  refine (sz_query _ x0 0 w.heap.size (1048576) (1048576 - (szQ x0 : Nat)) _ (by omega) (by omega) (good_query.keep r0 (sm_below B.out (Nat.le_refl _))) B.out.size (hid (.inr ⟨by omega, by omega⟩))).mono ?_
  rintro e w1 ⟨rfl, hb⟩
  clear c0_1 c1_1 c2_1 f0_1 f1_1 f2_1 z_1
  have s_w1 := hb.size
  (try simp only [World.size_alloc] at s_w1)
  replace P0 := hid (P0.out.below hb)
  replace P1 := hid (P1.out.below hb)
  replace B := hid (B.out.trans (hb.mono B.out.size))
  clear hb
  have t_sz1 : ¬ ((1048576 - (szQ x0 : Nat) - (szF x1 : Nat) : Int) < 0) := by omega
  obtain ⟨c0_2, f0_2, z_2⟩ := HasL.one P1.out
  go_wp2_with fail
  refine (sz_forest _ x1 0 w.heap.size (1048576 - (szQ x0 : Nat)) (1048576 - (szQ x0 : Nat) - (szF x1 : Nat)) _ (by omega) (by omega) (good_forest.keep r1 (sm_below B.out (Nat.le_refl _))) B.out.size (hid (.inr ⟨by omega, by omega⟩))).mono ?_
  rintro e w2 ⟨rfl, hb⟩
  clear c0_2 f0_2 z_2
  have s_w2 := hb.size
  (try simp only [World.size_alloc] at s_w2)
  replace P0 := hid (P0.out.below hb)
  replace P1 := hid (P1.out.below hb)
  replace B := hid (B.out.trans (hb.mono B.out.size))
  clear hb
  have R0 := hid (good_query.keep r0 (sm_below B.out (Nat.le_refl _)))
  have R1 := hid (good_forest.keep r1 (sm_below B.out (Nat.le_refl _)))
  have hs2 : w.heap.size + 2 ≤ w2.heap.size := by have := P1.out.1; omega
  obtain ⟨c0_3, c1_3, c2_3, f0_3, f1_3, f2_3, z_3⟩ := HasL.three P0.out
  obtain ⟨c0_4, f0_4, z_4⟩ := HasL.one P1.out
  have hk2 := kp_refl w2
  go_upto_region 8 with fail
  go_cut [6] (fun s6 wx => s6 = .bool c ∧ Kp w2 0 wx)
  case first =>
    go_region_held3 (fun w' => w'.cell? ⟨w.heap.size, 0, none⟩ = some (.int .i64 x0.1) ∧ w'.cell? ⟨w.heap.size, 1, none⟩ = some (.slice a0 x0.2.1.length cap0) ∧ w'.cell? ⟨w.heap.size, 2, none⟩ = some (.slice o0 x0.2.2.length capo0) ∧ w'.cell? ⟨w.heap.size + 1, 0, none⟩ = some (.slice a1 x1.length cap1) ∧ Kp w2 0 w')
      (first
        | (go_split_ands
           repeat' apply And.intro
           all_goals (first | (with_reducible assumption) | (with_reducible exact cell_drew (by assumption)) | (with_reducible exact Kp.drew (by assumption)) | (with_reducible exact Kp.cell (by assumption) hb1 (by omega) (by assumption)) | (with_reducible exact Kp.call (by assumption) hb1))))
      (first | (go_split_ands; go_at_call 12; (with_reducible refine (to_query _ x0 0 w.heap.size _ (by omega) (gd_kp good_query R0.out (by with_reducible assumption) (by omega)) (kp_le (by with_reducible assumption) (by omega))).mono ?_); rintro e wA ⟨dsA, rfl, hdA, hb1⟩; have HA := hid (good_query.up hdA (Nat.zero_le _) (Nat.le_refl _)); obtain ⟨aA, capA, oA, capoA, hdsA, _⟩ := query_open hdA; subst hdsA; clear hdA) | (go_split_ands; go_at_call 28; (with_reducible refine (to_forest _ x1 0 w.heap.size _ (by omega) (gd_kp good_forest R1.out (by with_reducible assumption) (by omega)) (kp_le (by with_reducible assumption) (by omega))).mono ?_); rintro e wB ⟨dsB, rfl, hdB, hb1⟩; have HB := hid (good_forest.up hdB (Nat.zero_le _) (Nat.le_refl _)); obtain ⟨aB, capB, hdsB, _⟩ := row_open hdB; subst hdsB; clear hdB; (try (first | (with_reducible have HA := hid (good_query.grown HA.out hb1) ) | (with_reducible have HA := hid (good_query.grown_drew HA.out hb1))))) | (go_split_ands; go_at_call 27; (with_reducible refine (S.out _ _ _ (by first | (with_reducible exact HA.out) | (with_reducible exact good_query.drew HA.out)) (by first | (with_reducible exact HB.out) | (with_reducible exact good_forest.drew HB.out))).mono ?_); rintro e wC ⟨rfl, hb1⟩))
    all_goals
      go_wp2_with fail
      go_meet
      go_split_ands
      exact ⟨rfl, by with_reducible assumption⟩
  case rest =>
    obtain ⟨rfl, hk⟩ := hcut
    obtain ⟨w3, rfl⟩ : ∃ wo : World, wo = wc := ⟨_, rfl⟩
    have hb := hk.bel
    clear hk hk2
    clear c0_3 c1_3 c2_3 f0_3 f1_3 f2_3 z_3
    clear c0_4 f0_4 z_4
    have s_w3 := hb.size
    (try simp only [World.size_alloc] at s_w3)
    replace P0 := hid (P0.out.below hb)
    replace P1 := hid (P1.out.below hb)
    replace B := hid (B.out.trans (hb.mono B.out.size))
    clear hb
    clear R0 R1
    obtain ⟨c0_5, c1_5, c2_5, f0_5, f1_5, f2_5, z_5⟩ := HasL.three P0.out
    go_wp2_with fail
    refine (to_query _ x0 0 w.heap.size _ (by omega) (good_query.keep r0 (sm_below B.out (Nat.le_refl _))) B.out.size).mono ?_
    rintro e w4 ⟨dsx0, rfl, hd, hb⟩
    clear c0_5 c1_5 c2_5 f0_5 f1_5 f2_5 z_5
    have s_w4 := hb.size
    (try simp only [World.size_alloc] at s_w4)
    replace P0 := hid (P0.out.below hb)
    replace P1 := hid (P1.out.below hb)
    replace B := hid (B.out.trans (hb.mono B.out.size))
    clear hb
    have hd0 := good_query.up hd (Nat.zero_le _) (Nat.le_refl _)
    obtain ⟨ax0, capx0, ox0, capox0, hds, _⟩ := query_open hd
    subst hds
    have X0 := hid hd0
    clear hd hd0
    obtain ⟨c0_6, f0_6, z_6⟩ := HasL.one P1.out
    go_wp2_with fail
    clear c0_6 f0_6 z_6
    replace P0 := hid (P0.out.alloc (.cells #[.int .i64 x0.1, .slice ax0 x0.2.1.length capx0, .slice ox0 x0.2.2.length capox0] 30))
    replace P1 := hid (P1.out.alloc (.cells #[.int .i64 x0.1, .slice ax0 x0.2.1.length capx0, .slice ox0 x0.2.2.length capox0] 30))
    replace X0 := hid (good_query.grown X0.out ((Below.refl _ _).alloc (Nat.le_refl _) (.cells #[.int .i64 x0.1, .slice ax0 x0.2.1.length capx0, .slice ox0 x0.2.2.length capox0] 30)))
    replace B := hid (B.out.alloc B.out.size (.cells #[.int .i64 x0.1, .slice ax0 x0.2.1.length capx0, .slice ox0 x0.2.2.length capox0] 30))
    have Q0 := hid (hasl_new w4 [.int .i64 x0.1, .slice ax0 x0.2.1.length capx0, .slice ox0 x0.2.2.length capox0] 30)
    refine (to_forest _ x1 0 w.heap.size _ (by omega) (good_forest.keep r1 (sm_below B.out (Nat.le_refl _))) B.out.size).mono ?_
    rintro e w5 ⟨dsx1, rfl, hd, hb⟩
    have s_w5 := hb.size
    (try simp only [World.size_alloc] at s_w5)
    replace P0 := hid (P0.out.below hb)
    replace P1 := hid (P1.out.below hb)
    replace X0 := hid (good_query.grown X0.out hb)
    replace Q0 := hid (Q0.out.below hb)
    replace B := hid (B.out.trans (hb.mono B.out.size))
    clear hb
    have hd0 := good_forest.up hd (Nat.zero_le _) (Nat.le_refl _)
    obtain ⟨ax1, capx1, hds, _⟩ := row_open hd
    subst hds
    have X1 := hid hd0
    clear hd hd0
    obtain ⟨c0_7, c1_7, c2_7, f0_7, f1_7, f2_7, z_7⟩ := HasL.three Q0.out
    go_wp2_with fail
    clear c0_7 c1_7 c2_7 f0_7 f1_7 f2_7 z_7
    replace P0 := hid (P0.out.alloc (.cells #[.slice ax1 x1.length capx1] 39))
    replace P1 := hid (P1.out.alloc (.cells #[.slice ax1 x1.length capx1] 39))
    replace X0 := hid (good_query.grown X0.out ((Below.refl _ _).alloc (Nat.le_refl _) (.cells #[.slice ax1 x1.length capx1] 39)))
    replace Q0 := hid (Q0.out.alloc (.cells #[.slice ax1 x1.length capx1] 39))
    replace X1 := hid (good_forest.grown X1.out ((Below.refl _ _).alloc (Nat.le_refl _) (.cells #[.slice ax1 x1.length capx1] 39)))
    replace B := hid (B.out.alloc B.out.size (.cells #[.slice ax1 x1.length capx1] 39))
    have Q1 := hid (hasl_new w5 [.slice ax1 x1.length capx1] 39)
    refine (I.out _ _ _ X0.out X1.out).mono ?_
    rintro e w6 ⟨rfl, hb⟩
    have s_w6 := hb.size
    (try simp only [World.size_alloc] at s_w6)
    replace P0 := hid (P0.out.below hb)
    replace P1 := hid (P1.out.below hb)
    replace X0 := hid (good_query.grown X0.out hb)
    replace Q0 := hid (Q0.out.below hb)
    replace X1 := hid (good_forest.grown X1.out hb)
    replace Q1 := hid (Q1.out.below hb)
    replace B := hid (B.out.trans (hb.mono B.out.size))
    clear hb
    have R0 := hid (good_query.keep r0 (sm_below B.out (Nat.le_refl _)))
    obtain ⟨c0_8, c1_8, c2_8, f0_8, f1_8, f2_8, z_8⟩ := HasL.three Q0.out
    obtain ⟨c0_9, c1_9, c2_9, f0_9, f1_9, f2_9, z_9⟩ := HasL.three P0.out
    have hk0 := kp_refl w6
    go_upto_region 14 with fail
    go_cut [39] (fun s wx => s = .bool false ∧ Kp w6 0 wx)
    case first =>
      go_region_held3 (fun w' => w'.cell? ⟨w.heap.size, 0, none⟩ = some (.int .i64 x0.1) ∧ w'.cell? ⟨w.heap.size, 1, none⟩ = some (.slice a0 x0.2.1.length cap0) ∧ w'.cell? ⟨w.heap.size, 2, none⟩ = some (.slice o0 x0.2.2.length capo0) ∧ w'.cell? ⟨w4.heap.size, 0, none⟩ = some (.int .i64 x0.1) ∧ w'.cell? ⟨w4.heap.size, 1, none⟩ = some (.slice ax0 x0.2.1.length capx0) ∧ w'.cell? ⟨w4.heap.size, 2, none⟩ = some (.slice ox0 x0.2.2.length capox0) ∧ Kp w6 0 w')
        (first
          | (go_split_ands
             repeat' apply And.intro
             all_goals (first | (with_reducible assumption) | (with_reducible exact cell_drew (by assumption)) | (with_reducible exact Kp.drew (by assumption)) | (with_reducible exact Kp.cell (by assumption) hb1 (by omega) (by assumption)) | (with_reducible exact Kp.call (by assumption) hb1))))
        (first
          | (go_split_ands; go_at_call 12; (with_reducible refine (to_query _ x0 0 w.heap.size _ (by omega) (gd_kp good_query R0.out (by with_reducible assumption) (by omega)) (kp_le (by with_reducible assumption) (by omega))).mono ?_); rintro e wT ⟨dsT, rfl, hdT, hb1⟩; obtain ⟨aT, capT, oT, capoT, hdsT, _⟩ := query_open hdT; subst hdsT; have HT := hid hdT; clear hdT)
          | (go_split_ands; go_at_call 15; (with_reducible refine (eq_query _ _ x0 0 w6.heap.size _ wT.heap.size _ (by omega) (gd_kp good_query X0.out (by with_reducible assumption) (Nat.le_refl _)) (by first | exact HT.out | exact good_query.drew HT.out) (kp_le (by with_reducible assumption) (Nat.le_refl _)) (by first | exact Nat.le_refl _ | simp)).mono ?_); rintro e wU ⟨rfl, hb1⟩))
      all_goals
        go_wp2_with fail
        go_meet
        go_split_ands
        exact ⟨rfl, by with_reducible assumption⟩
    case rest =>
      obtain ⟨rfl, hk⟩ := hcut
      obtain ⟨w7, rfl⟩ : ∃ wo : World, wo = wc := ⟨_, rfl⟩
      clear hk0 R0
      clear c0_8 c1_8 c2_8 f0_8 f1_8 f2_8 z_8
      clear c0_9 c1_9 c2_9 f0_9 f1_9 f2_9 z_9
      have hb := hk.bel
      clear hk
      have s_w7 := hb.size
      (try simp only [World.size_alloc] at s_w7)
      replace P0 := hid (P0.out.below hb)
      replace P1 := hid (P1.out.below hb)
      replace X0 := hid (good_query.grown X0.out hb)
      replace Q0 := hid (Q0.out.below hb)
      replace X1 := hid (good_forest.grown X1.out hb)
      replace Q1 := hid (Q1.out.below hb)
      replace B := hid (B.out.trans (hb.mono B.out.size))
      clear hb
      have R1 := hid (good_forest.keep r1 (sm_below B.out (Nat.le_refl _)))
      obtain ⟨c0_10, f0_10, z_10⟩ := HasL.one Q1.out
      obtain ⟨c0_11, f0_11, z_11⟩ := HasL.one P1.out
      have hk0 := kp_refl w7
      go_upto_region 16 with fail
      go_cut [44] (fun s wx => s = .bool false ∧ Kp w7 0 wx)
      case first =>
        go_region_held3 (fun w' => w'.cell? ⟨w.heap.size + 1, 0, none⟩ = some (.slice a1 x1.length cap1) ∧ w'.cell? ⟨w5.heap.size, 0, none⟩ = some (.slice ax1 x1.length capx1) ∧ Kp w7 0 w')
          (first
            | (go_split_ands
               repeat' apply And.intro
               all_goals (first | (with_reducible assumption) | (with_reducible exact cell_drew (by assumption)) | (with_reducible exact Kp.drew (by assumption)) | (with_reducible exact Kp.cell (by assumption) hb1 (by omega) (by assumption)) | (with_reducible exact Kp.call (by assumption) hb1))))
          (first
            | (go_split_ands; go_at_call 28; (with_reducible refine (to_forest _ x1 0 w.heap.size _ (by omega) (gd_kp good_forest R1.out (by with_reducible assumption) (by omega)) (kp_le (by with_reducible assumption) (by omega))).mono ?_); rintro e wT ⟨dsT, rfl, hdT, hb1⟩; obtain ⟨aT, capT, hdsT, _⟩ := row_open hdT; subst hdsT; have HT := hid hdT; clear hdT)
            | (go_split_ands; go_at_call 23; (with_reducible refine (eq_forest _ _ x1 0 w7.heap.size _ wT.heap.size _ (by omega) (gd_kp good_forest X1.out (by with_reducible assumption) (Nat.le_refl _)) (by first | exact HT.out | exact good_forest.drew HT.out) (kp_le (by with_reducible assumption) (Nat.le_refl _)) (by first | exact Nat.le_refl _ | simp)).mono ?_); rintro e wU ⟨rfl, hb1⟩))
        all_goals
          go_wp2_with fail
          go_meet
          go_split_ands
          exact ⟨rfl, by with_reducible assumption⟩
      case rest =>
        obtain ⟨rfl, hk⟩ := hcut
        obtain ⟨w8, rfl⟩ : ∃ wo : World, wo = wc := ⟨_, rfl⟩
        clear hk0 R1
        clear c0_10 f0_10 z_10
        clear c0_11 f0_11 z_11
        have hb := hk.bel
        clear hk
        have s_w8 := hb.size
        (try simp only [World.size_alloc] at s_w8)
        replace P0 := hid (P0.out.below hb)
        replace P1 := hid (P1.out.below hb)
        replace X0 := hid (good_query.grown X0.out hb)
        replace Q0 := hid (Q0.out.below hb)
        replace X1 := hid (good_forest.grown X1.out hb)
        replace Q1 := hid (Q1.out.below hb)
        replace B := hid (B.out.trans (hb.mono B.out.size))
        clear hb
        go_wp2_with fail
        go_ret
        exact ⟨rfl, B.out⟩

set_option maxRecDepth 100000 in
theorem walk (cs0 : List Value) (x0 : QueryD) (cs1 : List Value) (x1 : List Int) (w : World)  (r0 : rQuery w 0 w.heap.size cs0 x0) (r1 : rRow w 0 w.heap.size cs1 x1) (SI : (szQ x0 + szF x1 ≤ 1048576 → ∃ c : Bool, ((∀ (W : World) (d0 : List Value) (d1 : List Value), rQuery W 0 W.heap.size d0 x0 → rRow W 0 W.heap.size d1 x1 → Calls Try.prog 27 #[.agg d0.toArray, .agg d1.toArray] W fun e w' => e = .returned (.bool c) ∧ Below W.heap.size W w')) ∧ ((∀ (W : World) (d0 : List Value) (d1 : List Value), rQuery W 0 W.heap.size d0 x0 → rRow W 0 W.heap.size d1 x1 → Calls Try.prog 29 #[.agg d0.toArray, .agg d1.toArray] W fun e w' => e = .returned (.bool c) ∧ Below W.heap.size W w')))) :
    Calls Try.prog 6 #[.agg cs0.toArray, .agg cs1.toArray] w fun e w' => e = .returned (.bool true) ∧ Below w.heap.size w w' := by
  by_cases ht0 : 1048576 < szQ x0
  · clear SI
    obtain ⟨a0, cap0, o0, capo0, hcs0, _⟩ := query_open r0
    subst hcs0
    obtain ⟨a1, cap1, hcs1, _⟩ := row_open r1
    subst hcs1
    have P0 := hid (hasl_new w [.int .i64 x0.1, .slice a0 x0.2.1.length cap0, .slice o0 x0.2.2.length capo0] 25)
    have P1 := hid (hasl_new (w.alloc (.cells #[.int .i64 x0.1, .slice a0 x0.2.1.length cap0, .slice o0 x0.2.2.length capo0] 25)) [.slice a1 x1.length cap1] 44)
    replace P0 := hid (P0.out.alloc (.cells #[.slice a1 x1.length cap1] 44))
    simp only [World.size_alloc] at P1
    have B := hid (((Below.refl w.heap.size w).alloc (by simp) (.cells #[.int .i64 x0.1, .slice a0 x0.2.1.length cap0, .slice o0 x0.2.2.length capo0] 25)).alloc (by simp) (.cells #[.slice a1 x1.length cap1] 44))
    go_enter Try.func6, Try.ntmps6
    obtain ⟨c0_12, c1_12, c2_12, f0_12, f1_12, f2_12, z_12⟩ := HasL.three P0.out
    go_wp2_with fail
    refine (sz_query _ x0 0 w.heap.size (1048576) (-1) _ (by omega) (by omega) (good_query.keep r0 (sm_below B.out (Nat.le_refl _))) B.out.size (hid (.inl ⟨by omega, rfl⟩))).mono ?_
    rintro e w1 ⟨rfl, hb⟩
    clear c0_12 c1_12 c2_12 f0_12 f1_12 f2_12 z_12
    replace P0 := hid (P0.out.below hb)
    replace P1 := hid (P1.out.below hb)
    replace B := hid (B.out.trans (hb.mono B.out.size))
    clear hb
    go_wp2
    go_ret
    exact ⟨rfl, B.out⟩
  · by_cases ht1 : 1048576 < szQ x0 + szF x1
    · clear SI
      obtain ⟨a0, cap0, o0, capo0, hcs0, _⟩ := query_open r0
      subst hcs0
      obtain ⟨a1, cap1, hcs1, _⟩ := row_open r1
      subst hcs1
      have P0 := hid (hasl_new w [.int .i64 x0.1, .slice a0 x0.2.1.length cap0, .slice o0 x0.2.2.length capo0] 25)
      have P1 := hid (hasl_new (w.alloc (.cells #[.int .i64 x0.1, .slice a0 x0.2.1.length cap0, .slice o0 x0.2.2.length capo0] 25)) [.slice a1 x1.length cap1] 44)
      replace P0 := hid (P0.out.alloc (.cells #[.slice a1 x1.length cap1] 44))
      simp only [World.size_alloc] at P1
      have B := hid (((Below.refl w.heap.size w).alloc (by simp) (.cells #[.int .i64 x0.1, .slice a0 x0.2.1.length cap0, .slice o0 x0.2.2.length capo0] 25)).alloc (by simp) (.cells #[.slice a1 x1.length cap1] 44))
      have t_sz0 : ¬ ((1048576 - (szQ x0 : Nat) : Int) < 0) := by omega
      go_enter Try.func6, Try.ntmps6
      obtain ⟨c0_13, c1_13, c2_13, f0_13, f1_13, f2_13, z_13⟩ := HasL.three P0.out
      go_wp2_with fail
      refine (sz_query _ x0 0 w.heap.size (1048576) (1048576 - (szQ x0 : Nat)) _ (by omega) (by omega) (good_query.keep r0 (sm_below B.out (Nat.le_refl _))) B.out.size (hid (.inr ⟨by omega, by omega⟩))).mono ?_
      rintro e w1 ⟨rfl, hb⟩
      clear c0_13 c1_13 c2_13 f0_13 f1_13 f2_13 z_13
      replace P0 := hid (P0.out.below hb)
      replace P1 := hid (P1.out.below hb)
      replace B := hid (B.out.trans (hb.mono B.out.size))
      clear hb
      obtain ⟨c0_14, f0_14, z_14⟩ := HasL.one P1.out
      go_wp2_with fail
      refine (sz_forest _ x1 0 w.heap.size (1048576 - (szQ x0 : Nat)) (-1) _ (by omega) (by omega) (good_forest.keep r1 (sm_below B.out (Nat.le_refl _))) B.out.size (hid (.inl ⟨by omega, rfl⟩))).mono ?_
      rintro e w2 ⟨rfl, hb⟩
      clear c0_14 f0_14 z_14
      replace P0 := hid (P0.out.below hb)
      replace P1 := hid (P1.out.below hb)
      replace B := hid (B.out.trans (hb.mono B.out.size))
      clear hb
      go_wp2
      go_ret
      exact ⟨rfl, B.out⟩
    · obtain ⟨c, S, I⟩ := SI (by omega) 
      exact core cs0 x0 cs1 x1 c w (by omega)  r0 r1 (hid S) (hid I)
end Go.Proofs.Ytaeeogighoobdaa.IsValidJoinTreeC
