/- The walk of law FnExactLookupRelation, at every argument, out of the contracts of the model's function and the program's. -/
import Derived.Test.YtbafhahmpflnjaaMarkA
import Derived.Test.YtbafhahmpflnjaaRelLaw
import Derived.Test.YtbafhahmpflnjaaRelKit
import Derived.Test.YtbafhahmpflnjaaLawKit
import Derived.Deep.RegionHeld3
import Derived.Deep.DeepCutAuto
namespace Go.Proofs.Ytbafhahmpflnjaa.LookupRelationC
open Go.RowKit
open Go.Proofs.Ytbafhahmpflnjaa.Num Go.Proofs.Ytbafhahmpflnjaa.IntRow Go.Proofs.Ytbafhahmpflnjaa.IntLaw Go.Proofs.Ytbafhahmpflnjaa.Grid Go.Proofs.Ytbafhahmpflnjaa.GridMore Go.Proofs.Ytbafhahmpflnjaa.GridLaw Go.Proofs.Ytbafhahmpflnjaa.GridLaw2 Go.Proofs.Ytbafhahmpflnjaa.RelLaw Go.Proofs.Ytbafhahmpflnjaa.RelKit Go.Proofs.Ytbafhahmpflnjaa.Rdr Go.Proofs.Ytbafhahmpflnjaa.Dat Go.Proofs.Ytbafhahmpflnjaa.HasL Go.Proofs.Ytbafhahmpflnjaa.LawKit Go.Proofs.Ytbafhahmpflnjaa.AtomLaw Go.Proofs.Ytbafhahmpflnjaa.QueryLaw Go.Proofs.Ytbafhahmpflnjaa.TableLaw Go.Proofs.Ytbafhahmpflnjaa.Keep Go.Proofs.Ytbafhahmpflnjaa.Kept Go.Proofs.Ytbafhahmpflnjaa.Cells Go.Proofs.Ytbafhahmpflnjaa.Thaw Go.Proofs.Ytbafhahmpflnjaa.ToF Go.Proofs.Ytbafhahmpflnjaa.MarkA
set_option linter.unusedVariables false

set_option maxRecDepth 100000 in
set_option maxHeartbeats 4000000 in
theorem core (cs0 : List Value) (x0 : List TableD) (s1 : ByteArray) (m : Int) (zss : List (List Int)) (ok : Bool) (w : World) (ht : szD x0 ≤ 1048576) (hz : tot zss ≤ 1048576) (hs1 : s1.size ≤ 1048576) (r0 : rDb w 0 w.heap.size cs0 x0)
    (S : RowKit.Hid (∀ (W : World) (d0 : List Value), rDb W 0 W.heap.size d0 x0 → Calls Try.prog 37 #[.agg d0.toArray, .string s1] W fun e w' => ∃ a cap vs, e = .returned (.tuple #[.agg #[.int .i64 m, .slice a zss.length cap], .bool ok]) ∧ GOwn w' W.heap.size eR eI (.slice a zss.length cap) vs zss ∧ Below W.heap.size W w'))
    (I : RowKit.Hid (∀ (W : World) (d0 : List Value), rDb W 0 W.heap.size d0 x0 → Calls Try.prog 38 #[.agg d0.toArray, .string s1] W fun e w' => ∃ a cap vs, e = .returned (.tuple #[.agg #[.int .i64 m, .slice a zss.length cap], .bool ok]) ∧ GOwn w' W.heap.size eR eI (.slice a zss.length cap) vs zss ∧ Below W.heap.size W w')) :
    Calls Try.prog 6 #[.agg cs0.toArray, .string s1] w fun e w' => e = .returned (.bool true) ∧ Below w.heap.size w w' := by
  obtain ⟨a0, cap0, hcs0, _⟩ := db_open r0
  subst hcs0
  have P0 := hid (hasl_new w [.slice a0 x0.length cap0] 24)
  have B := hid ((Below.refl w.heap.size w).alloc (by simp) (.cells #[.slice a0 x0.length cap0] 24))
  have t_str1 : ¬ (1048576 : Int) < (s1.size : Int) := by omega
  have hne : (ok != ok) = false := by simp
  have hmk0 : wD x0 ≤ 2097152 := w_table (by have h : szD x0 ≤ 1048576 := (by omega); exact h)
  go_enter Try.func6, Try.ntmps6
  have t_sz0 : ¬ ((1048576 - (szD x0 : Nat) : Int) < 0) := by omega
  obtain ⟨c0_1, f0_1, z_1⟩ := HasL.one P0.out
  go_wp2_with fail
  with_reducible refine (sz_db _ x0 0 w.heap.size (1048576) (1048576 - (szD x0 : Nat)) _ (by omega) (by omega) (good_db.keep r0 (sm_below B.out (Nat.le_refl _))) B.out.size (hid (.inr ⟨by omega, by omega⟩))).mono ?_
  rintro e w1 ⟨rfl, hb⟩
  clear c0_1 f0_1 z_1
  have s_w1 := hb.size
  (try simp only [World.size_alloc] at s_w1)
  replace P0 := hid (P0.out.below hb)
  replace B := hid (B.out.trans (hb.mono B.out.size))
  clear hb
  obtain ⟨c0_2, f0_2, z_2⟩ := HasL.one P0.out
  go_wp2_with fail
  with_reducible refine (to_db _ x0 0 w.heap.size _ (by omega) (good_db.keep r0 (sm_below B.out (Nat.le_refl _))) B.out.size).mono ?_
  rintro e w2 ⟨dss0, rfl, hd, hb⟩
  clear c0_2 f0_2 z_2
  have s_w2 := hb.size
  (try simp only [World.size_alloc] at s_w2)
  replace P0 := hid (P0.out.below hb)
  replace B := hid (B.out.trans (hb.mono B.out.size))
  clear hb
  have hd0 := good_db.up hd (Nat.zero_le _) (Nat.le_refl _)
  obtain ⟨as0, caps0, hds, _⟩ := db_open hd
  subst hds
  have Xs0 := hid hd0
  clear hd hd0
  go_wp2_with fail
  with_reducible refine (S.out _ _ Xs0.out).mono ?_
  rintro e w3 ⟨aV, capV, vsV, rfl, hown, hb⟩
  have s_w3 := hb.size
  (try simp only [World.size_alloc] at s_w3)
  replace P0 := hid (P0.out.below hb)
  replace B := hid (B.out.trans (hb.mono B.out.size))
  clear hb
  (try simp only [World.size_alloc] at hown)
  have V := hid hown
  have UV := hid (gown_under hown)
  clear hown
  clear Xs0
  obtain ⟨c0_3, f0_3, z_3⟩ := HasL.one P0.out
  go_wp2_with fail
  clear c0_3 f0_3 z_3
  replace P0 := hid (P0.out.alloc (.cells #[.int .i64 m, .slice aV zss.length capV] 58))
  replace V := hid (V.out.alloc (.cells #[.int .i64 m, .slice aV zss.length capV] 58))
  replace B := hid (B.out.alloc B.out.size (.cells #[.int .i64 m, .slice aV zss.length capV] 58))
  have OV := hid (hasl_new w3 [.int .i64 m, .slice aV zss.length capV] 58)
  with_reducible refine (to_dbF _ x0 0 w.heap.size _ (by omega) (good_db.keep r0 (sm_below B.out (Nat.le_refl _))) B.out.size).mono ?_
  rintro e w4 ⟨dsx0, rfl, hd, hbf⟩
  have hb := hbf.toBelow
  have ht0 := hbf.thw w4.heap.size
  have s_w4 := hb.size
  (try simp only [World.size_alloc] at s_w4)
  replace P0 := hid (P0.out.below hb)
  replace V := hid (V.out.below' hb)
  replace OV := hid (OV.out.below hb)
  replace B := hid (B.out.trans (hb.mono B.out.size))
  clear hb
  (try simp only [World.size_alloc] at hd ht0)
  clear hbf
  obtain ⟨ax0, capx0, hds, _⟩ := db_open hd
  subst hds
  have X0 := hid hd
  have Th0 := hid ht0
  clear hd ht0
  go_wp2_with fail
  replace P0 := hid (P0.out.alloc (.cells #[.slice ax0 x0.length capx0] 34))
  replace V := hid (V.out.alloc (.cells #[.slice ax0 x0.length capx0] 34))
  replace OV := hid (OV.out.alloc (.cells #[.slice ax0 x0.length capx0] 34))
  replace X0 := hid (good_db.keep X0.out (sm_below ((Below.refl _ _).alloc (Nat.le_refl _) (.cells #[.slice ax0 x0.length capx0] 34)) (by (try simp only [World.size_alloc]); omega)))
  replace Th0 := hid (Th0.out.nf (Nf.alloc _ (.cells #[.slice ax0 x0.length capx0] 34) ⟨_, _, rfl⟩))
  replace B := hid (B.out.alloc B.out.size (.cells #[.slice ax0 x0.length capx0] 34))
  have Q0 := hid (hasl_new w4 [.slice ax0 x0.length capx0] 34)
  with_reducible refine (I.out _ _ (good_db.up X0.out (Nat.zero_le _) (by (try simp only [World.size_alloc]); omega))).mono ?_
  rintro e w5 ⟨aG, capG, vsG, rfl, hown, hb⟩
  have s_w5 := hb.size
  (try simp only [World.size_alloc] at s_w5)
  replace P0 := hid (P0.out.below hb)
  replace V := hid (V.out.below' hb)
  replace OV := hid (OV.out.below hb)
  replace X0 := hid (good_db.keep X0.out (sm_below hb (by (try simp only [World.size_alloc]); omega)))
  replace Th0 := hid (Th0.out.below hb (by (try simp only [World.size_alloc]); omega))
  replace Q0 := hid (Q0.out.below hb)
  replace B := hid (B.out.trans (hb.mono B.out.size))
  clear hb
  (try simp only [World.size_alloc] at hown)
  have G := hid hown
  have UG := hid (gown_under hown)
  clear hown
  obtain ⟨c0_4, c1_4, f0_4, f1_4, z_4⟩ := HasL.two OV.out
  go_wp2_with fail
  clear c0_4 c1_4 f0_4 f1_4 z_4
  replace P0 := hid (P0.out.alloc (.cells #[.int .i64 m, .slice aG zss.length capG] 58))
  replace V := hid (V.out.alloc (.cells #[.int .i64 m, .slice aG zss.length capG] 58))
  replace OV := hid (OV.out.alloc (.cells #[.int .i64 m, .slice aG zss.length capG] 58))
  replace X0 := hid (good_db.keep X0.out (sm_below ((Below.refl _ _).alloc (Nat.le_refl _) (.cells #[.int .i64 m, .slice aG zss.length capG] 58)) (by (try simp only [World.size_alloc]); omega)))
  replace Th0 := hid (Th0.out.nf (Nf.alloc _ (.cells #[.int .i64 m, .slice aG zss.length capG] 58) ⟨_, _, rfl⟩))
  replace Q0 := hid (Q0.out.alloc (.cells #[.int .i64 m, .slice aG zss.length capG] 58))
  replace G := hid (G.out.alloc (.cells #[.int .i64 m, .slice aG zss.length capG] 58))
  replace B := hid (B.out.alloc B.out.size (.cells #[.int .i64 m, .slice aG zss.length capG] 58))
  have OG := hid (hasl_new w5 [.int .i64 m, .slice aG zss.length capG] 58)
  with_reducible refine (eq_rel m _ _ _ _ zss _ _ _ hz (gown_rd G.out) (gown_rd V.out) (Nat.le_refl _) (Nat.le_refl _)).mono ?_
  rintro e w6 ⟨rfl, hb⟩
  have s_w6 := hb.size
  (try simp only [World.size_alloc] at s_w6)
  replace P0 := hid (P0.out.below hb)
  replace V := hid (V.out.below' hb)
  replace OV := hid (OV.out.below hb)
  replace X0 := hid (good_db.keep X0.out (sm_below hb (by (try simp only [World.size_alloc]); omega)))
  replace Th0 := hid (Th0.out.below hb (by (try simp only [World.size_alloc]); omega))
  replace Q0 := hid (Q0.out.below hb)
  replace G := hid (G.out.below' hb)
  replace OG := hid (OG.out.below hb)
  replace B := hid (B.out.trans (hb.mono B.out.size))
  clear hb
  have R0 := hid (good_db.keep r0 (sm_below B.out (Nat.le_refl _)))
  have XR0 := hid (good_db.up X0.out (hi' := w6.heap.size) (Nat.zero_le _) (by (try simp only [World.size_alloc]); omega))
  obtain ⟨c0_5, f0_5, z_5⟩ := HasL.one Q0.out
  obtain ⟨c0_6, f0_6, z_6⟩ := HasL.one P0.out
  have hk0 := kp_refl w6
  go_upto_region 12 with fail
  go_cut [52] (fun s wx => s = .bool false ∧ Kp w6 0 wx)
  case first =>
    go_region_held3 (fun w' => w'.cell? ⟨w.heap.size, 0, none⟩ = some (.slice a0 x0.length cap0) ∧ w'.cell? ⟨w4.heap.size, 0, none⟩ = some (.slice ax0 x0.length capx0) ∧ Kp w6 0 w')
      (first
        | (go_split_ands
           repeat' apply And.intro
           all_goals (first | (with_reducible assumption) | (with_reducible exact cell_drew (by assumption)) | (with_reducible exact Kp.drew (by assumption)) | (with_reducible exact Kp.cell (by assumption) hb1 (by omega) (by assumption)) | (with_reducible exact Kp.call (by assumption) hb1))))
      (first
        | (go_split_ands; go_at_call 15; (with_reducible refine (to_db _ x0 0 w.heap.size _ (by omega) (gd_kp good_db R0.out (by with_reducible assumption) (by omega)) (kp_le (by with_reducible assumption) (by omega))).mono ?_); rintro e wT ⟨dsT, rfl, hdT, hb1⟩; obtain ⟨aT, capT, hdsT, _⟩ := db_open hdT; subst hdsT; have HT := hid hdT; clear hdT)
        | (go_split_ands; go_at_call 18; (with_reducible refine (eq_db _ _ x0 0 w6.heap.size _ wT.heap.size _ (by omega) (gd_kp good_db XR0.out (by with_reducible assumption) (Nat.le_refl _)) (by first | exact HT.out | exact good_db.drew HT.out) (kp_le (by with_reducible assumption) (Nat.le_refl _)) (by first | exact Nat.le_refl _ | simp)).mono ?_); rintro e wU ⟨rfl, hb1⟩))
    all_goals
      go_wp2_with fail
      go_meet
      go_split_ands
      exact ⟨rfl, by with_reducible assumption⟩
  case rest =>
    obtain ⟨rfl, hk⟩ := hcut
    obtain ⟨w7, rfl⟩ : ∃ wo : World, wo = wc := ⟨_, rfl⟩
    clear hk0 R0 XR0
    clear c0_5 f0_5 z_5
    clear c0_6 f0_6 z_6
    have hb := hk.bel
    clear hk
    have s_w7 := hb.size
    (try simp only [World.size_alloc] at s_w7)
    replace P0 := hid (P0.out.below hb)
    replace V := hid (V.out.below' hb)
    replace OV := hid (OV.out.below hb)
    replace X0 := hid (good_db.keep X0.out (sm_below hb (by (try simp only [World.size_alloc]); omega)))
    replace Th0 := hid (Th0.out.below hb (by (try simp only [World.size_alloc]); omega))
    replace Q0 := hid (Q0.out.below hb)
    replace G := hid (G.out.below' hb)
    replace OG := hid (OG.out.below hb)
    replace B := hid (B.out.trans (hb.mono B.out.size))
    clear hb
    obtain ⟨c0_7, f0_7, z_7⟩ := HasL.one Q0.out
    go_wp2_with fail
    with_reducible refine (mark_dbA _ x0 (w3.heap.size + 1) (w4.heap.size) (1) _ (by omega) (by omega) (by omega) X0.out (by omega) Th0.out).mono ?_
    rintro e w8 ⟨rfl, hkt⟩
    clear c0_7 f0_7 z_7
    have ht := hkt.toTurn
    clear hkt
    clear X0
    clear Th0
    replace P0 := hid (hasl_turned P0.out ht (by omega))
    replace V := hid (gown_turned V.out ht (.inr (UV.out.mono (by omega))))
    replace OV := hid (hasl_turned OV.out ht (by omega))
    replace Q0 := hid (hasl_turned Q0.out ht (by omega))
    replace G := hid (gown_turned G.out ht (.inl (by omega)))
    replace OG := hid (hasl_turned OG.out ht (by omega))
    replace B := hid (B.out.trans ((ht.below (by omega)).mono (by omega)))
    have s_t8 := ht.size
    clear ht
    have t_k : ¬ (1 + (wD x0 : Nat) < 0) := by omega
    obtain ⟨c0_8, c1_8, f0_8, f1_8, z_8⟩ := HasL.two OG.out
    obtain ⟨c0_9, c1_9, f0_9, f1_9, z_9⟩ := HasL.two OV.out
    go_wp2_with fail
    with_reducible refine (eq_rel m _ _ _ _ zss _ _ _ hz (gown_rd G.out) (gown_rd V.out) (Nat.le_refl _) (Nat.le_refl _)).mono ?_
    rintro e w9 ⟨rfl, hb⟩
    clear c0_8 c1_8 f0_8 f1_8 z_8
    clear c0_9 c1_9 f0_9 f1_9 z_9
    have s_w9 := hb.size
    (try simp only [World.size_alloc] at s_w9)
    replace P0 := hid (P0.out.below hb)
    replace V := hid (V.out.below' hb)
    replace OV := hid (OV.out.below hb)
    replace Q0 := hid (Q0.out.below hb)
    replace G := hid (G.out.below' hb)
    replace OG := hid (OG.out.below hb)
    replace B := hid (B.out.trans (hb.mono B.out.size))
    clear hb
    clear Q0
    have hiz := ints_le zss
    have hneg : ¬ ((1 : Int) + (ints zss : Nat) < 0) := by omega
    have hsame : (((1 : Int) + (ints zss : Nat)) != ((1 : Int) + (ints zss : Nat))) = false := by simp
    obtain ⟨c0_10, c1_10, f0_10, f1_10, z_10⟩ := HasL.two OG.out
    go_wp2_with fail
    with_reducible refine (mark_rel _ w5.heap.size m _ _ 1 zss _ hz (by omega) (by omega) G.out UG.out).mono ?_
    rintro e w10 ⟨yss, rfl, hown, hm, ht⟩
    clear c0_10 c1_10 f0_10 f1_10 z_10
    have HM := hid hm
    have hml := hm.1
    clear hm G
    replace P0 := hid (hasl_turned P0.out ht (by omega))
    replace V := hid (gown_turned V.out ht (.inr (UV.out.mono (by omega))))
    replace OV := hid (hasl_turned OV.out ht (by omega))
    replace OG := hid (hasl_turned OG.out ht (by omega))
    replace B := hid (B.out.trans ((ht.below (by omega)).mono (by omega)))
    have s_t10 := ht.size
    clear ht
    have G := hid hown
    clear hown
    obtain ⟨c0_11, c1_11, f0_11, f1_11, z_11⟩ := HasL.two OG.out
    go_wp2_with fail
    with_reducible refine (held_rel m _ _ _ 1 zss yss _ hz (by omega) (by omega) HM.out (gown_rd' G.out hml) (Nat.le_refl _)).mono ?_
    rintro e w11 ⟨rfl, hb⟩
    clear c0_11 c1_11 f0_11 f1_11 z_11
    have s_w11 := hb.size
    (try simp only [World.size_alloc] at s_w11)
    replace P0 := hid (P0.out.below hb)
    replace V := hid (V.out.below' hb)
    replace OV := hid (OV.out.below hb)
    replace OG := hid (OG.out.below hb)
    replace G := hid (G.out.below' hb)
    replace B := hid (B.out.trans (hb.mono B.out.size))
    clear hb
    obtain ⟨c0_12, f0_12, z_12⟩ := HasL.one P0.out
    go_wp2_with fail
    with_reducible refine (to_db _ x0 0 w.heap.size _ (by omega) (good_db.keep r0 (sm_below B.out (Nat.le_refl _))) B.out.size).mono ?_
    rintro e w12 ⟨dsh0, rfl, hd, hb⟩
    clear c0_12 f0_12 z_12
    have s_w12 := hb.size
    (try simp only [World.size_alloc] at s_w12)
    replace P0 := hid (P0.out.below hb)
    replace V := hid (V.out.below' hb)
    replace OV := hid (OV.out.below hb)
    replace OG := hid (OG.out.below hb)
    replace G := hid (G.out.below' hb)
    replace B := hid (B.out.trans (hb.mono B.out.size))
    clear hb
    have hd0 := good_db.up hd (Nat.zero_le _) (Nat.le_refl _)
    obtain ⟨ah0, caph0, hds, _⟩ := db_open hd
    subst hds
    have Xh0 := hid hd0
    clear hd hd0
    go_wp2_with fail
    with_reducible refine (I.out _ _ Xh0.out).mono ?_
    rintro e w13 ⟨aH, capH, vsH, rfl, hown, hb⟩
    have s_w13 := hb.size
    (try simp only [World.size_alloc] at s_w13)
    replace P0 := hid (P0.out.below hb)
    replace V := hid (V.out.below' hb)
    replace OV := hid (OV.out.below hb)
    replace OG := hid (OG.out.below hb)
    replace G := hid (G.out.below' hb)
    replace B := hid (B.out.trans (hb.mono B.out.size))
    clear hb
    (try simp only [World.size_alloc] at hown)
    have H := hid hown
    have UH := hid (gown_under hown)
    clear hown
    clear Xh0
    obtain ⟨c0_13, c1_13, f0_13, f1_13, z_13⟩ := HasL.two OV.out
    go_wp2_with fail
    clear c0_13 c1_13 f0_13 f1_13 z_13
    replace P0 := hid (P0.out.alloc (.cells #[.int .i64 m, .slice aH zss.length capH] 58))
    replace V := hid (V.out.alloc (.cells #[.int .i64 m, .slice aH zss.length capH] 58))
    replace OV := hid (OV.out.alloc (.cells #[.int .i64 m, .slice aH zss.length capH] 58))
    replace OG := hid (OG.out.alloc (.cells #[.int .i64 m, .slice aH zss.length capH] 58))
    replace G := hid (G.out.alloc (.cells #[.int .i64 m, .slice aH zss.length capH] 58))
    replace H := hid (H.out.alloc (.cells #[.int .i64 m, .slice aH zss.length capH] 58))
    replace B := hid (B.out.alloc B.out.size (.cells #[.int .i64 m, .slice aH zss.length capH] 58))
    with_reducible refine (eq_rel m _ _ _ _ zss _ _ _ hz (gown_rd H.out) (gown_rd V.out) (Nat.le_refl _) (Nat.le_refl _)).mono ?_
    rintro e w14 ⟨rfl, hb⟩
    have s_w14 := hb.size
    (try simp only [World.size_alloc] at s_w14)
    replace P0 := hid (P0.out.below hb)
    replace V := hid (V.out.below' hb)
    replace OV := hid (OV.out.below hb)
    replace OG := hid (OG.out.below hb)
    replace G := hid (G.out.below' hb)
    replace H := hid (H.out.below' hb)
    replace B := hid (B.out.trans (hb.mono B.out.size))
    clear hb
    obtain ⟨c0_14, c1_14, f0_14, f1_14, z_14⟩ := HasL.two OG.out
    go_wp2_with fail
    with_reducible refine (held_rel m _ _ _ 1 zss yss _ hz (by omega) (by omega) HM.out (gown_rd' G.out hml) (Nat.le_refl _)).mono ?_
    rintro e w15 ⟨rfl, hb⟩
    clear c0_14 c1_14 f0_14 f1_14 z_14
    have s_w15 := hb.size
    (try simp only [World.size_alloc] at s_w15)
    replace P0 := hid (P0.out.below hb)
    replace V := hid (V.out.below' hb)
    replace OV := hid (OV.out.below hb)
    replace OG := hid (OG.out.below hb)
    replace G := hid (G.out.below' hb)
    replace H := hid (H.out.below' hb)
    replace B := hid (B.out.trans (hb.mono B.out.size))
    clear hb
    go_wp2_with fail
    go_ret
    exact ⟨rfl, B.out⟩

set_option maxRecDepth 100000 in
theorem walk (cs0 : List Value) (x0 : List TableD) (s1 : ByteArray) (w : World) (hs1 : s1.size ≤ 9223372036854775807) (r0 : rDb w 0 w.heap.size cs0 x0) (SI : (szD x0 ≤ 1048576 → s1.size ≤ 1048576 → ∃ (m : Int) (zss : List (List Int)) (ok : Bool), tot zss ≤ 1048576 ∧ (∀ (W : World) (d0 : List Value), rDb W 0 W.heap.size d0 x0 → Calls Try.prog 37 #[.agg d0.toArray, .string s1] W fun e w' => ∃ a cap vs, e = .returned (.tuple #[.agg #[.int .i64 m, .slice a zss.length cap], .bool ok]) ∧ GOwn w' W.heap.size eR eI (.slice a zss.length cap) vs zss ∧ Below W.heap.size W w') ∧ (∀ (W : World) (d0 : List Value), rDb W 0 W.heap.size d0 x0 → Calls Try.prog 38 #[.agg d0.toArray, .string s1] W fun e w' => ∃ a cap vs, e = .returned (.tuple #[.agg #[.int .i64 m, .slice a zss.length cap], .bool ok]) ∧ GOwn w' W.heap.size eR eI (.slice a zss.length cap) vs zss ∧ Below W.heap.size W w'))) :
    Calls Try.prog 6 #[.agg cs0.toArray, .string s1] w fun e w' => e = .returned (.bool true) ∧ Below w.heap.size w w' := by
  by_cases hbig1 : (1048576 : Int) < (s1.size : Int)
  · clear SI
    obtain ⟨a0, cap0, hcs0, _⟩ := db_open r0
    subst hcs0
    have P0 := hid (hasl_new w [.slice a0 x0.length cap0] 24)
    have B := hid ((Below.refl w.heap.size w).alloc (by simp) (.cells #[.slice a0 x0.length cap0] 24))
    clear r0 P0
    go_enter Try.func6, Try.ntmps6
    go_wp2
    go_ret
    exact ⟨rfl, B.out⟩
  · have t_str1 : ¬ (1048576 : Int) < (s1.size : Int) := by omega
    by_cases ht0 : 1048576 < szD x0
    · clear SI
      obtain ⟨a0, cap0, hcs0, _⟩ := db_open r0
      subst hcs0
      have P0 := hid (hasl_new w [.slice a0 x0.length cap0] 24)
      have B := hid ((Below.refl w.heap.size w).alloc (by simp) (.cells #[.slice a0 x0.length cap0] 24))
      go_enter Try.func6, Try.ntmps6
      obtain ⟨c0_15, f0_15, z_15⟩ := HasL.one P0.out
      go_wp2_with fail
      with_reducible refine (sz_db _ x0 0 w.heap.size (1048576) (-1) _ (by omega) (by omega) (good_db.keep r0 (sm_below B.out (Nat.le_refl _))) B.out.size (hid (.inl ⟨by omega, rfl⟩))).mono ?_
      rintro e w1 ⟨rfl, hb⟩
      clear c0_15 f0_15 z_15
      replace P0 := hid (P0.out.below hb)
      replace B := hid (B.out.trans (hb.mono B.out.size))
      clear hb
      go_wp2
      go_ret
      exact ⟨rfl, B.out⟩
    · obtain ⟨m, zss, ok, hz, S, I⟩ := SI (by omega) (by omega)
      exact core cs0 x0 s1 m zss ok w (by omega) hz (by omega) r0 (hid S) (hid I)
end Go.Proofs.Ytbafhahmpflnjaa.LookupRelationC
