/- The walk of law FnExactIsBinding, at every argument, out of the contracts of the model's function and the program's. -/
import Derived.Test.YtpeojpdgknamgaaIntLaw
import Derived.Test.YtpeojpdgknamgaaQueryLaw
import Derived.Test.YtpeojpdgknamgaaRelKit
import Derived.Test.YtpeojpdgknamgaaTableLaw
import Derived.Test.YtpeojpdgknamgaaLawKit
import Derived.Deep.RegionHeld3
import Derived.Deep.DeepCutAuto
namespace Go.Proofs.Ytpeojpdgknamgaa.IsBindingC
open Go.RowKit
open Go.Proofs.Ytpeojpdgknamgaa.Num Go.Proofs.Ytpeojpdgknamgaa.IntRow Go.Proofs.Ytpeojpdgknamgaa.Rdr Go.Proofs.Ytpeojpdgknamgaa.Dat Go.Proofs.Ytpeojpdgknamgaa.HasL Go.Proofs.Ytpeojpdgknamgaa.LawKit Go.Proofs.Ytpeojpdgknamgaa.IntLaw Go.Proofs.Ytpeojpdgknamgaa.QueryLaw Go.Proofs.Ytpeojpdgknamgaa.RelKit Go.Proofs.Ytpeojpdgknamgaa.TableLaw Go.Proofs.Ytpeojpdgknamgaa.Keep Go.Proofs.Ytpeojpdgknamgaa.Kept
set_option linter.unusedVariables false

set_option maxRecDepth 100000 in
set_option maxHeartbeats 4000000 in
theorem core (cs0 : List Value) (x0 : List TableD) (cs1 : List Value) (x1 : QueryD) (a2 : Option Addr) (cap2 : Nat) (xs2 : List Int) (c : Bool) (w : World) (ht : szD x0 + szQ x1 ≤ 1048576) (hn2 : xs2.length ≤ 1048576) (r0 : rDb w 0 w.heap.size cs0 x0) (r1 : rQuery w 0 w.heap.size cs1 x1) (r2 : Rd w w.heap.size a2 xs2)
    (S : RowKit.Hid (∀ (W : World) (d0 : List Value) (d1 : List Value) (b2 : Option Addr) (cc2 : Nat), rDb W 0 W.heap.size d0 x0 → rQuery W 0 W.heap.size d1 x1 → Rd W W.heap.size b2 xs2 → Calls Try.prog 28 #[.agg d0.toArray, .agg d1.toArray, .slice b2 xs2.length cc2] W fun e w' => e = .returned (.bool c) ∧ Below W.heap.size W w'))
    (I : RowKit.Hid (∀ (W : World) (d0 : List Value) (d1 : List Value) (b2 : Option Addr) (cc2 : Nat), rDb W 0 W.heap.size d0 x0 → rQuery W 0 W.heap.size d1 x1 → Rd W W.heap.size b2 xs2 → Calls Try.prog 29 #[.agg d0.toArray, .agg d1.toArray, .slice b2 xs2.length cc2] W fun e w' => e = .returned (.bool c) ∧ Below W.heap.size W w')) :
    Calls Try.prog 6 #[.agg cs0.toArray, .agg cs1.toArray, .slice a2 xs2.length cap2] w fun e w' => e = .returned (.bool true) ∧ Below w.heap.size w w' := by
  obtain ⟨a0, cap0, hcs0, _⟩ := db_open r0
  subst hcs0
  obtain ⟨a1, cap1, o1, capo1, hcs1, _⟩ := query_open r1
  subst hcs1
  have P0 := hid (hasl_new w [.slice a0 x0.length cap0] 39)
  have P1 := hid (hasl_new (w.alloc (.cells #[.slice a0 x0.length cap0] 39)) [.int .i64 x1.1, .slice a1 x1.2.1.length cap1, .slice o1 x1.2.2.length capo1] 51)
  replace P0 := hid (P0.out.alloc (.cells #[.int .i64 x1.1, .slice a1 x1.2.1.length cap1, .slice o1 x1.2.2.length capo1] 51))
  simp only [World.size_alloc] at P1
  have B := hid (((Below.refl w.heap.size w).alloc (by simp) (.cells #[.slice a0 x0.length cap0] 39)).alloc (by simp) (.cells #[.int .i64 x1.1, .slice a1 x1.2.1.length cap1, .slice o1 x1.2.2.length capo1] 51))
  have t_row2 : ¬ (1048576 : Int) < (xs2.length : Int) := by omega
  have hne : (c != c) = false := by simp
  go_enter Try.func6, Try.ntmps6
  have t_sz0 : ¬ ((1048576 - (szD x0 : Nat) : Int) < 0) := by omega
  obtain ⟨c0_1, f0_1, z_1⟩ := HasL.one P0.out
  go_wp2_with fail
  with_reducible refine (sz_db _ x0 0 w.heap.size (1048576) (1048576 - (szD x0 : Nat)) _ (by omega) (by omega) (good_db.keep r0 (sm_below B.out (Nat.le_refl _))) B.out.size (hid (.inr ⟨by omega, by omega⟩))).mono ?_
  rintro e w1 ⟨rfl, hb⟩
  clear c0_1 f0_1 z_1
  have s_w1 := hb.size
  (try simp only [World.size_alloc] at s_w1)
  replace P0 := hid (P0.out.below hb)
  replace P1 := hid (P1.out.below hb)
  replace B := hid (B.out.trans (hb.mono B.out.size))
  clear hb
  have t_sz1 : ¬ ((1048576 - (szD x0 : Nat) - (szQ x1 : Nat) : Int) < 0) := by omega
  obtain ⟨c0_2, c1_2, c2_2, f0_2, f1_2, f2_2, z_2⟩ := HasL.three P1.out
  go_wp2_with fail
  with_reducible refine (sz_query _ x1 0 w.heap.size (1048576 - (szD x0 : Nat)) (1048576 - (szD x0 : Nat) - (szQ x1 : Nat)) _ (by omega) (by omega) (good_query.keep r1 (sm_below B.out (Nat.le_refl _))) B.out.size (hid (.inr ⟨by omega, by omega⟩))).mono ?_
  rintro e w2 ⟨rfl, hb⟩
  clear c0_2 c1_2 c2_2 f0_2 f1_2 f2_2 z_2
  have s_w2 := hb.size
  (try simp only [World.size_alloc] at s_w2)
  replace P0 := hid (P0.out.below hb)
  replace P1 := hid (P1.out.below hb)
  replace B := hid (B.out.trans (hb.mono B.out.size))
  clear hb
  have R0 := hid (good_db.keep r0 (sm_below B.out (Nat.le_refl _)))
  have R1 := hid (good_query.keep r1 (sm_below B.out (Nat.le_refl _)))
  have R2 := hid (r2.below B.out)
  have hs2 : w.heap.size + 2 ≤ w2.heap.size := by have := P1.out.1; omega
  obtain ⟨c0_3, f0_3, z_3⟩ := HasL.one P0.out
  obtain ⟨c0_4, c1_4, c2_4, f0_4, f1_4, f2_4, z_4⟩ := HasL.three P1.out
  have hk2 := kp_refl w2
  go_upto_region 10 with fail
  go_cut [8] (fun s6 wx => s6 = .bool c ∧ Kp w2 0 wx)
  case first =>
    go_region_held3 (fun w' => w'.cell? ⟨w.heap.size, 0, none⟩ = some (.slice a0 x0.length cap0) ∧ w'.cell? ⟨w.heap.size + 1, 0, none⟩ = some (.int .i64 x1.1) ∧ w'.cell? ⟨w.heap.size + 1, 1, none⟩ = some (.slice a1 x1.2.1.length cap1) ∧ w'.cell? ⟨w.heap.size + 1, 2, none⟩ = some (.slice o1 x1.2.2.length capo1) ∧ Kp w2 0 w')
      (first
        | (go_split_ands
           repeat' apply And.intro
           all_goals (first | (with_reducible assumption) | (with_reducible exact cell_drew (by assumption)) | (with_reducible exact Kp.drew (by assumption)) | (with_reducible exact Kp.cell (by assumption) hb1 (by omega) (by assumption)) | (with_reducible exact Kp.call (by assumption) hb1))))
      (first | (go_split_ands; go_at_call 19; (with_reducible refine (to_db _ x0 0 w.heap.size _ (by omega) (gd_kp good_db R0.out (by with_reducible assumption) (by omega)) (kp_le (by with_reducible assumption) (by omega))).mono ?_); rintro e wA ⟨dsA, rfl, hdA, hb1⟩; have HA := hid (good_db.up hdA (Nat.zero_le _) (Nat.le_refl _)); obtain ⟨aA, capA, hdsA, _⟩ := db_open hdA; subst hdsA; clear hdA) | (go_split_ands; go_at_call 25; (with_reducible refine (to_query _ x1 0 w.heap.size _ (by omega) (gd_kp good_query R1.out (by with_reducible assumption) (by omega)) (kp_le (by with_reducible assumption) (by omega))).mono ?_); rintro e wB ⟨dsB, rfl, hdB, hb1⟩; have HB := hid (good_query.up hdB (Nat.zero_le _) (Nat.le_refl _)); obtain ⟨aB, capB, oB, capoB, hdsB, _⟩ := query_open hdB; subst hdsB; clear hdB; (try (first | (with_reducible have HA := hid (good_db.grown HA.out hb1)) | (with_reducible have HA := hid (good_db.grown_drew HA.out hb1))))) | (go_split_ands; go_at_call 10; (with_reducible refine (to_ints a2 cap2 w.heap.size xs2 _ hn2 (rd_kp R2.out (by with_reducible assumption) (by omega)) (kp_le (by with_reducible assumption) (by omega))).mono ?_); rintro e wC ⟨rfl, hatC, hb1⟩; have HC := hid (at_rd hatC); clear hatC; (try (first | (with_reducible have HA := hid (good_db.grown HA.out hb1)) | (with_reducible have HA := hid (good_db.grown_drew HA.out hb1)))); (try (first | (with_reducible have HB := hid (good_query.grown HB.out hb1)) | (with_reducible have HB := hid (good_query.grown_drew HB.out hb1))))) | (go_split_ands; go_at_call 28; (with_reducible refine (S.out _ _ _ _ _ (by first | (with_reducible exact HA.out) | (with_reducible exact good_db.drew HA.out)) (by first | (with_reducible exact HB.out) | (with_reducible exact good_query.drew HB.out)) (by first | (with_reducible exact HC.out) | (with_reducible exact HC.out.drew))).mono ?_); rintro e wZ ⟨rfl, hb1⟩))
    all_goals
      go_wp2_with fail
      go_meet
      go_split_ands
      exact ⟨rfl, by with_reducible assumption⟩
  case rest =>
    obtain ⟨rfl, hk⟩ := hcut
    obtain ⟨w3, rfl⟩ : ∃ wo : World, wo = wc := ⟨_, rfl⟩
    have hb := hk.bel
    clear hk hk2
    clear c0_3 f0_3 z_3
    clear c0_4 c1_4 c2_4 f0_4 f1_4 f2_4 z_4
    have s_w3 := hb.size
    (try simp only [World.size_alloc] at s_w3)
    replace P0 := hid (P0.out.below hb)
    replace P1 := hid (P1.out.below hb)
    replace B := hid (B.out.trans (hb.mono B.out.size))
    clear hb
    clear R0 R1 R2
    obtain ⟨c0_5, f0_5, z_5⟩ := HasL.one P0.out
    go_wp2_with fail
    with_reducible refine (to_db _ x0 0 w.heap.size _ (by omega) (good_db.keep r0 (sm_below B.out (Nat.le_refl _))) B.out.size).mono ?_
    rintro e w4 ⟨dsx0, rfl, hd, hb⟩
    clear c0_5 f0_5 z_5
    have s_w4 := hb.size
    (try simp only [World.size_alloc] at s_w4)
    replace P0 := hid (P0.out.below hb)
    replace P1 := hid (P1.out.below hb)
    replace B := hid (B.out.trans (hb.mono B.out.size))
    clear hb
    have hd0 := good_db.up hd (Nat.zero_le _) (Nat.le_refl _)
    obtain ⟨ax0, capx0, hds, _⟩ := db_open hd
    subst hds
    have X0 := hid hd0
    clear hd hd0
    obtain ⟨c0_6, c1_6, c2_6, f0_6, f1_6, f2_6, z_6⟩ := HasL.three P1.out
    go_wp2_with fail
    clear c0_6 c1_6 c2_6 f0_6 f1_6 f2_6 z_6
    replace P0 := hid (P0.out.alloc (.cells #[.slice ax0 x0.length capx0] 44))
    replace P1 := hid (P1.out.alloc (.cells #[.slice ax0 x0.length capx0] 44))
    replace X0 := hid (good_db.grown X0.out ((Below.refl _ _).alloc (Nat.le_refl _) (.cells #[.slice ax0 x0.length capx0] 44)))
    replace B := hid (B.out.alloc B.out.size (.cells #[.slice ax0 x0.length capx0] 44))
    have Q0 := hid (hasl_new w4 [.slice ax0 x0.length capx0] 44)
    with_reducible refine (to_query _ x1 0 w.heap.size _ (by omega) (good_query.keep r1 (sm_below B.out (Nat.le_refl _))) B.out.size).mono ?_
    rintro e w5 ⟨dsx1, rfl, hd, hb⟩
    have s_w5 := hb.size
    (try simp only [World.size_alloc] at s_w5)
    replace P0 := hid (P0.out.below hb)
    replace P1 := hid (P1.out.below hb)
    replace X0 := hid (good_db.grown X0.out hb)
    replace Q0 := hid (Q0.out.below hb)
    replace B := hid (B.out.trans (hb.mono B.out.size))
    clear hb
    have hd0 := good_query.up hd (Nat.zero_le _) (Nat.le_refl _)
    obtain ⟨ax1, capx1, ox1, capox1, hds, _⟩ := query_open hd
    subst hds
    have X1 := hid hd0
    clear hd hd0
    go_wp2_with fail
    replace P0 := hid (P0.out.alloc (.cells #[.int .i64 x1.1, .slice ax1 x1.2.1.length capx1, .slice ox1 x1.2.2.length capox1] 56))
    replace P1 := hid (P1.out.alloc (.cells #[.int .i64 x1.1, .slice ax1 x1.2.1.length capx1, .slice ox1 x1.2.2.length capox1] 56))
    replace X0 := hid (good_db.grown X0.out ((Below.refl _ _).alloc (Nat.le_refl _) (.cells #[.int .i64 x1.1, .slice ax1 x1.2.1.length capx1, .slice ox1 x1.2.2.length capox1] 56)))
    replace Q0 := hid (Q0.out.alloc (.cells #[.int .i64 x1.1, .slice ax1 x1.2.1.length capx1, .slice ox1 x1.2.2.length capox1] 56))
    replace X1 := hid (good_query.grown X1.out ((Below.refl _ _).alloc (Nat.le_refl _) (.cells #[.int .i64 x1.1, .slice ax1 x1.2.1.length capx1, .slice ox1 x1.2.2.length capox1] 56)))
    replace B := hid (B.out.alloc B.out.size (.cells #[.int .i64 x1.1, .slice ax1 x1.2.1.length capx1, .slice ox1 x1.2.2.length capox1] 56))
    have Q1 := hid (hasl_new w5 [.int .i64 x1.1, .slice ax1 x1.2.1.length capx1, .slice ox1 x1.2.2.length capox1] 56)
    with_reducible refine (to_ints a2 cap2 w.heap.size xs2 _ hn2 (r2.below B.out) B.out.size).mono ?_
    rintro e w6 ⟨rfl, hat, hb⟩
    have s_w6 := hb.size
    (try simp only [World.size_alloc] at s_w6)
    replace P0 := hid (P0.out.below hb)
    replace P1 := hid (P1.out.below hb)
    replace X0 := hid (good_db.grown X0.out hb)
    replace Q0 := hid (Q0.out.below hb)
    replace X1 := hid (good_query.grown X1.out hb)
    replace Q1 := hid (Q1.out.below hb)
    replace B := hid (B.out.trans (hb.mono B.out.size))
    clear hb
    (try simp only [World.size_alloc] at hat)
    have X2 := hid (at_rd hat)
    clear hat
    obtain ⟨c0_7, f0_7, z_7⟩ := HasL.one Q0.out
    obtain ⟨c0_8, c1_8, c2_8, f0_8, f1_8, f2_8, z_8⟩ := HasL.three Q1.out
    go_wp2_with fail
    with_reducible refine (I.out _ _ _ _ _ X0.out X1.out X2.out).mono ?_
    rintro e w7 ⟨rfl, hb⟩
    clear c0_7 f0_7 z_7
    clear c0_8 c1_8 c2_8 f0_8 f1_8 f2_8 z_8
    have s_w7 := hb.size
    (try simp only [World.size_alloc] at s_w7)
    replace P0 := hid (P0.out.below hb)
    replace P1 := hid (P1.out.below hb)
    replace X0 := hid (good_db.grown X0.out hb)
    replace Q0 := hid (Q0.out.below hb)
    replace X1 := hid (good_query.grown X1.out hb)
    replace Q1 := hid (Q1.out.below hb)
    replace X2 := hid ((X2.out.below hb).mono hb.size)
    replace B := hid (B.out.trans (hb.mono B.out.size))
    clear hb
    have R0 := hid (good_db.keep r0 (sm_below B.out (Nat.le_refl _)))
    obtain ⟨c0_9, f0_9, z_9⟩ := HasL.one Q0.out
    obtain ⟨c0_10, f0_10, z_10⟩ := HasL.one P0.out
    have hk0 := kp_refl w7
    go_upto_region 17 with fail
    go_cut [50] (fun s wx => s = .bool false ∧ Kp w7 0 wx)
    case first =>
      go_region_held3 (fun w' => w'.cell? ⟨w.heap.size, 0, none⟩ = some (.slice a0 x0.length cap0) ∧ w'.cell? ⟨w4.heap.size, 0, none⟩ = some (.slice ax0 x0.length capx0) ∧ Kp w7 0 w')
        (first
          | (go_split_ands
             repeat' apply And.intro
             all_goals (first | (with_reducible assumption) | (with_reducible exact cell_drew (by assumption)) | (with_reducible exact Kp.drew (by assumption)) | (with_reducible exact Kp.cell (by assumption) hb1 (by omega) (by assumption)) | (with_reducible exact Kp.call (by assumption) hb1))))
        (first
          | (go_split_ands; go_at_call 19; (with_reducible refine (to_db _ x0 0 w.heap.size _ (by omega) (gd_kp good_db R0.out (by with_reducible assumption) (by omega)) (kp_le (by with_reducible assumption) (by omega))).mono ?_); rintro e wT ⟨dsT, rfl, hdT, hb1⟩; obtain ⟨aT, capT, hdsT, _⟩ := db_open hdT; subst hdsT; have HT := hid hdT; clear hdT)
          | (go_split_ands; go_at_call 21; (with_reducible refine (eq_db _ _ x0 0 w7.heap.size _ wT.heap.size _ (by omega) (gd_kp good_db X0.out (by with_reducible assumption) (Nat.le_refl _)) (by first | exact HT.out | exact good_db.drew HT.out) (kp_le (by with_reducible assumption) (Nat.le_refl _)) (by first | exact Nat.le_refl _ | simp)).mono ?_); rintro e wU ⟨rfl, hb1⟩))
      all_goals
        go_wp2_with fail
        go_meet
        go_split_ands
        exact ⟨rfl, by with_reducible assumption⟩
    case rest =>
      obtain ⟨rfl, hk⟩ := hcut
      obtain ⟨w8, rfl⟩ : ∃ wo : World, wo = wc := ⟨_, rfl⟩
      clear hk0 R0
      clear c0_9 f0_9 z_9
      clear c0_10 f0_10 z_10
      have hb := hk.bel
      clear hk
      have s_w8 := hb.size
      (try simp only [World.size_alloc] at s_w8)
      replace P0 := hid (P0.out.below hb)
      replace P1 := hid (P1.out.below hb)
      replace X0 := hid (good_db.grown X0.out hb)
      replace Q0 := hid (Q0.out.below hb)
      replace X1 := hid (good_query.grown X1.out hb)
      replace Q1 := hid (Q1.out.below hb)
      replace X2 := hid ((X2.out.below hb).mono hb.size)
      replace B := hid (B.out.trans (hb.mono B.out.size))
      clear hb
      have R1 := hid (good_query.keep r1 (sm_below B.out (Nat.le_refl _)))
      obtain ⟨c0_11, c1_11, c2_11, f0_11, f1_11, f2_11, z_11⟩ := HasL.three Q1.out
      obtain ⟨c0_12, c1_12, c2_12, f0_12, f1_12, f2_12, z_12⟩ := HasL.three P1.out
      have hk0 := kp_refl w8
      go_upto_region 19 with fail
      go_cut [55] (fun s wx => s = .bool false ∧ Kp w8 0 wx)
      case first =>
        go_region_held3 (fun w' => w'.cell? ⟨w.heap.size + 1, 0, none⟩ = some (.int .i64 x1.1) ∧ w'.cell? ⟨w.heap.size + 1, 1, none⟩ = some (.slice a1 x1.2.1.length cap1) ∧ w'.cell? ⟨w.heap.size + 1, 2, none⟩ = some (.slice o1 x1.2.2.length capo1) ∧ w'.cell? ⟨w5.heap.size, 0, none⟩ = some (.int .i64 x1.1) ∧ w'.cell? ⟨w5.heap.size, 1, none⟩ = some (.slice ax1 x1.2.1.length capx1) ∧ w'.cell? ⟨w5.heap.size, 2, none⟩ = some (.slice ox1 x1.2.2.length capox1) ∧ Kp w8 0 w')
          (first
            | (go_split_ands
               repeat' apply And.intro
               all_goals (first | (with_reducible assumption) | (with_reducible exact cell_drew (by assumption)) | (with_reducible exact Kp.drew (by assumption)) | (with_reducible exact Kp.cell (by assumption) hb1 (by omega) (by assumption)) | (with_reducible exact Kp.call (by assumption) hb1))))
          (first
            | (go_split_ands; go_at_call 25; (with_reducible refine (to_query _ x1 0 w.heap.size _ (by omega) (gd_kp good_query R1.out (by with_reducible assumption) (by omega)) (kp_le (by with_reducible assumption) (by omega))).mono ?_); rintro e wT ⟨dsT, rfl, hdT, hb1⟩; obtain ⟨aT, capT, oT, capoT, hdsT, _⟩ := query_open hdT; subst hdsT; have HT := hid hdT; clear hdT)
            | (go_split_ands; go_at_call 27; (with_reducible refine (eq_query _ _ x1 0 w8.heap.size _ wT.heap.size _ (by omega) (gd_kp good_query X1.out (by with_reducible assumption) (Nat.le_refl _)) (by first | exact HT.out | exact good_query.drew HT.out) (kp_le (by with_reducible assumption) (Nat.le_refl _)) (by first | exact Nat.le_refl _ | simp)).mono ?_); rintro e wU ⟨rfl, hb1⟩))
        all_goals
          go_wp2_with fail
          go_meet
          go_split_ands
          exact ⟨rfl, by with_reducible assumption⟩
      case rest =>
        obtain ⟨rfl, hk⟩ := hcut
        obtain ⟨w9, rfl⟩ : ∃ wo : World, wo = wc := ⟨_, rfl⟩
        clear hk0 R1
        clear c0_11 c1_11 c2_11 f0_11 f1_11 f2_11 z_11
        clear c0_12 c1_12 c2_12 f0_12 f1_12 f2_12 z_12
        have hb := hk.bel
        clear hk
        have s_w9 := hb.size
        (try simp only [World.size_alloc] at s_w9)
        replace P0 := hid (P0.out.below hb)
        replace P1 := hid (P1.out.below hb)
        replace X0 := hid (good_db.grown X0.out hb)
        replace Q0 := hid (Q0.out.below hb)
        replace X1 := hid (good_query.grown X1.out hb)
        replace Q1 := hid (Q1.out.below hb)
        replace X2 := hid ((X2.out.below hb).mono hb.size)
        replace B := hid (B.out.trans (hb.mono B.out.size))
        clear hb
        go_wp2_with fail
        with_reducible refine (to_ints a2 cap2 w.heap.size xs2 _ hn2 (r2.below B.out) B.out.size).mono ?_
        rintro e w10 ⟨rfl, hat, hb⟩
        have s_w10 := hb.size
        (try simp only [World.size_alloc] at s_w10)
        replace P0 := hid (P0.out.below hb)
        replace P1 := hid (P1.out.below hb)
        replace X0 := hid (good_db.grown X0.out hb)
        replace Q0 := hid (Q0.out.below hb)
        replace X1 := hid (good_query.grown X1.out hb)
        replace Q1 := hid (Q1.out.below hb)
        replace X2 := hid ((X2.out.below hb).mono hb.size)
        replace B := hid (B.out.trans (hb.mono B.out.size))
        clear hb
        (try simp only [World.size_alloc] at hat)
        have T2 := hid (at_rd hat)
        clear hat
        go_wp2_with fail
        with_reducible refine (eq_ints _ _ _ _ xs2 _ _ _ hn2 X2.out T2.out (Nat.le_refl _) (Nat.le_refl _)).mono ?_
        rintro e w11 ⟨rfl, hb⟩
        have s_w11 := hb.size
        (try simp only [World.size_alloc] at s_w11)
        replace P0 := hid (P0.out.below hb)
        replace P1 := hid (P1.out.below hb)
        replace X0 := hid (good_db.grown X0.out hb)
        replace Q0 := hid (Q0.out.below hb)
        replace X1 := hid (good_query.grown X1.out hb)
        replace Q1 := hid (Q1.out.below hb)
        replace X2 := hid ((X2.out.below hb).mono hb.size)
        replace B := hid (B.out.trans (hb.mono B.out.size))
        clear hb
        go_wp2_with fail
        go_ret
        exact ⟨rfl, B.out⟩

set_option maxRecDepth 100000 in
theorem walk (cs0 : List Value) (x0 : List TableD) (cs1 : List Value) (x1 : QueryD) (a2 : Option Addr) (cap2 : Nat) (xs2 : List Int) (w : World) (hm2 : xs2.length ≤ 9223372036854775807) (r0 : rDb w 0 w.heap.size cs0 x0) (r1 : rQuery w 0 w.heap.size cs1 x1) (r2 : Rd w w.heap.size a2 xs2) (SI : (szD x0 + szQ x1 ≤ 1048576 → xs2.length ≤ 1048576 → ∃ c : Bool, ((∀ (W : World) (d0 : List Value) (d1 : List Value) (b2 : Option Addr) (cc2 : Nat), rDb W 0 W.heap.size d0 x0 → rQuery W 0 W.heap.size d1 x1 → Rd W W.heap.size b2 xs2 → Calls Try.prog 28 #[.agg d0.toArray, .agg d1.toArray, .slice b2 xs2.length cc2] W fun e w' => e = .returned (.bool c) ∧ Below W.heap.size W w')) ∧ ((∀ (W : World) (d0 : List Value) (d1 : List Value) (b2 : Option Addr) (cc2 : Nat), rDb W 0 W.heap.size d0 x0 → rQuery W 0 W.heap.size d1 x1 → Rd W W.heap.size b2 xs2 → Calls Try.prog 29 #[.agg d0.toArray, .agg d1.toArray, .slice b2 xs2.length cc2] W fun e w' => e = .returned (.bool c) ∧ Below W.heap.size W w')))) :
    Calls Try.prog 6 #[.agg cs0.toArray, .agg cs1.toArray, .slice a2 xs2.length cap2] w fun e w' => e = .returned (.bool true) ∧ Below w.heap.size w w' := by
  by_cases hbig2 : (1048576 : Int) < (xs2.length : Int)
  · clear SI
    obtain ⟨a0, cap0, hcs0, _⟩ := db_open r0
    subst hcs0
    obtain ⟨a1, cap1, o1, capo1, hcs1, _⟩ := query_open r1
    subst hcs1
    have P0 := hid (hasl_new w [.slice a0 x0.length cap0] 39)
    have P1 := hid (hasl_new (w.alloc (.cells #[.slice a0 x0.length cap0] 39)) [.int .i64 x1.1, .slice a1 x1.2.1.length cap1, .slice o1 x1.2.2.length capo1] 51)
    replace P0 := hid (P0.out.alloc (.cells #[.int .i64 x1.1, .slice a1 x1.2.1.length cap1, .slice o1 x1.2.2.length capo1] 51))
    simp only [World.size_alloc] at P1
    have B := hid (((Below.refl w.heap.size w).alloc (by simp) (.cells #[.slice a0 x0.length cap0] 39)).alloc (by simp) (.cells #[.int .i64 x1.1, .slice a1 x1.2.1.length cap1, .slice o1 x1.2.2.length capo1] 51))
    clear r0 P0 r1 P1 r2
    go_enter Try.func6, Try.ntmps6
    go_wp2
    go_ret
    exact ⟨rfl, B.out⟩
  · have t_row2 : ¬ (1048576 : Int) < (xs2.length : Int) := by omega
    by_cases ht0 : 1048576 < szD x0
    · clear SI
      obtain ⟨a0, cap0, hcs0, _⟩ := db_open r0
      subst hcs0
      obtain ⟨a1, cap1, o1, capo1, hcs1, _⟩ := query_open r1
      subst hcs1
      have P0 := hid (hasl_new w [.slice a0 x0.length cap0] 39)
      have P1 := hid (hasl_new (w.alloc (.cells #[.slice a0 x0.length cap0] 39)) [.int .i64 x1.1, .slice a1 x1.2.1.length cap1, .slice o1 x1.2.2.length capo1] 51)
      replace P0 := hid (P0.out.alloc (.cells #[.int .i64 x1.1, .slice a1 x1.2.1.length cap1, .slice o1 x1.2.2.length capo1] 51))
      simp only [World.size_alloc] at P1
      have B := hid (((Below.refl w.heap.size w).alloc (by simp) (.cells #[.slice a0 x0.length cap0] 39)).alloc (by simp) (.cells #[.int .i64 x1.1, .slice a1 x1.2.1.length cap1, .slice o1 x1.2.2.length capo1] 51))
      go_enter Try.func6, Try.ntmps6
      obtain ⟨c0_13, f0_13, z_13⟩ := HasL.one P0.out
      go_wp2_with fail
      with_reducible refine (sz_db _ x0 0 w.heap.size (1048576) (-1) _ (by omega) (by omega) (good_db.keep r0 (sm_below B.out (Nat.le_refl _))) B.out.size (hid (.inl ⟨by omega, rfl⟩))).mono ?_
      rintro e w1 ⟨rfl, hb⟩
      clear c0_13 f0_13 z_13
      replace P0 := hid (P0.out.below hb)
      replace P1 := hid (P1.out.below hb)
      replace B := hid (B.out.trans (hb.mono B.out.size))
      clear hb
      go_wp2
      go_ret
      exact ⟨rfl, B.out⟩
    · by_cases ht1 : 1048576 < szD x0 + szQ x1
      · clear SI
        obtain ⟨a0, cap0, hcs0, _⟩ := db_open r0
        subst hcs0
        obtain ⟨a1, cap1, o1, capo1, hcs1, _⟩ := query_open r1
        subst hcs1
        have P0 := hid (hasl_new w [.slice a0 x0.length cap0] 39)
        have P1 := hid (hasl_new (w.alloc (.cells #[.slice a0 x0.length cap0] 39)) [.int .i64 x1.1, .slice a1 x1.2.1.length cap1, .slice o1 x1.2.2.length capo1] 51)
        replace P0 := hid (P0.out.alloc (.cells #[.int .i64 x1.1, .slice a1 x1.2.1.length cap1, .slice o1 x1.2.2.length capo1] 51))
        simp only [World.size_alloc] at P1
        have B := hid (((Below.refl w.heap.size w).alloc (by simp) (.cells #[.slice a0 x0.length cap0] 39)).alloc (by simp) (.cells #[.int .i64 x1.1, .slice a1 x1.2.1.length cap1, .slice o1 x1.2.2.length capo1] 51))
        have t_sz0 : ¬ ((1048576 - (szD x0 : Nat) : Int) < 0) := by omega
        go_enter Try.func6, Try.ntmps6
        obtain ⟨c0_14, f0_14, z_14⟩ := HasL.one P0.out
        go_wp2_with fail
        with_reducible refine (sz_db _ x0 0 w.heap.size (1048576) (1048576 - (szD x0 : Nat)) _ (by omega) (by omega) (good_db.keep r0 (sm_below B.out (Nat.le_refl _))) B.out.size (hid (.inr ⟨by omega, by omega⟩))).mono ?_
        rintro e w1 ⟨rfl, hb⟩
        clear c0_14 f0_14 z_14
        replace P0 := hid (P0.out.below hb)
        replace P1 := hid (P1.out.below hb)
        replace B := hid (B.out.trans (hb.mono B.out.size))
        clear hb
        obtain ⟨c0_15, c1_15, c2_15, f0_15, f1_15, f2_15, z_15⟩ := HasL.three P1.out
        go_wp2_with fail
        with_reducible refine (sz_query _ x1 0 w.heap.size (1048576 - (szD x0 : Nat)) (-1) _ (by omega) (by omega) (good_query.keep r1 (sm_below B.out (Nat.le_refl _))) B.out.size (hid (.inl ⟨by omega, rfl⟩))).mono ?_
        rintro e w2 ⟨rfl, hb⟩
        clear c0_15 c1_15 c2_15 f0_15 f1_15 f2_15 z_15
        replace P0 := hid (P0.out.below hb)
        replace P1 := hid (P1.out.below hb)
        replace B := hid (B.out.trans (hb.mono B.out.size))
        clear hb
        go_wp2
        go_ret
        exact ⟨rfl, B.out⟩
      · obtain ⟨c, S, I⟩ := SI (by omega) (by omega)
        exact core cs0 x0 cs1 x1 a2 cap2 xs2 c w (by omega) (by omega) r0 r1 r2 (hid S) (hid I)
end Go.Proofs.Ytpeojpdgknamgaa.IsBindingC
