/- The walk of law FnExactConnectedComponents, at every argument, out of the contracts of the model's function and the program's. -/
import Derived.Test.YtffhfnkcbgbliaaDoorMarkQ
import Derived.Test.YtffhfnkcbgbliaaDoorRelLaw
import Derived.Test.YtffhfnkcbgbliaaDoorRelKit
import Derived.Test.YtffhfnkcbgbliaaDoorLawKit
import Derived.Deep.RegionHeld3
import Derived.Deep.DeepCutAuto
namespace Go.Proofs.YtffhfnkcbgbliaaDoor.ConnectedComponentsC
open Go.RowKit
open Go.Proofs.YtffhfnkcbgbliaaDoor.Num Go.Proofs.YtffhfnkcbgbliaaDoor.IntRow Go.Proofs.YtffhfnkcbgbliaaDoor.IntLaw Go.Proofs.YtffhfnkcbgbliaaDoor.Grid Go.Proofs.YtffhfnkcbgbliaaDoor.GridMore Go.Proofs.YtffhfnkcbgbliaaDoor.GridLaw Go.Proofs.YtffhfnkcbgbliaaDoor.GridLaw2 Go.Proofs.YtffhfnkcbgbliaaDoor.RelLaw Go.Proofs.YtffhfnkcbgbliaaDoor.RelKit Go.Proofs.YtffhfnkcbgbliaaDoor.Rdr Go.Proofs.YtffhfnkcbgbliaaDoor.Dat Go.Proofs.YtffhfnkcbgbliaaDoor.HasL Go.Proofs.YtffhfnkcbgbliaaDoor.LawKit Go.Proofs.YtffhfnkcbgbliaaDoor.AtomLaw Go.Proofs.YtffhfnkcbgbliaaDoor.QueryLaw Go.Proofs.YtffhfnkcbgbliaaDoor.TableLaw Go.Proofs.YtffhfnkcbgbliaaDoor.Keep Go.Proofs.YtffhfnkcbgbliaaDoor.Kept Go.Proofs.YtffhfnkcbgbliaaDoor.Cells Go.Proofs.YtffhfnkcbgbliaaDoor.Thaw Go.Proofs.YtffhfnkcbgbliaaDoor.ToF Go.Proofs.YtffhfnkcbgbliaaDoor.MarkA
set_option linter.unusedVariables false

set_option maxRecDepth 100000 in
set_option maxHeartbeats 4000000 in
theorem core (cs0 : List Value) (x0 : QueryD) (zss : List (List Int)) (w : World) (ht : szQ x0 ≤ 1048576) (hz : tot zss ≤ 1048576)  (r0 : rQuery w 0 w.heap.size cs0 x0)
    (S : RowKit.Hid (∀ (W : World) (d0 : List Value), rQuery W 0 W.heap.size d0 x0 → Below w.heap.size w W → Calls Tryd.prog 17 #[.agg d0.toArray] W fun e w' => ∃ a cap vs, e = .returned (.slice a zss.length cap) ∧ GOwn w' W.heap.size eR eI (.slice a zss.length cap) vs zss ∧ Below W.heap.size W w'))
    (I : RowKit.Hid (∀ (W : World) (d0 : List Value), rQuery W 0 W.heap.size d0 x0 → Below w.heap.size w W → Calls Tryd.prog 19 #[.agg d0.toArray] W fun e w' => ∃ a cap vs, e = .returned (.slice a zss.length cap) ∧ GOwn w' W.heap.size eR eI (.slice a zss.length cap) vs zss ∧ Below W.heap.size W w')) :
    Calls Tryd.prog 5 #[.agg cs0.toArray] w fun e w' => e = .returned (.bool true) ∧ Below w.heap.size w w' := by
  obtain ⟨a0, cap0, o0, capo0, hcs0, _⟩ := query_open r0
  subst hcs0
  have P0 := hid (hasl_new w [.int .i64 x0.1, .slice a0 x0.2.1.length cap0, .slice o0 x0.2.2.length capo0] 43)
  have B := hid ((Below.refl w.heap.size w).alloc (by simp) (.cells #[.int .i64 x0.1, .slice a0 x0.2.1.length cap0, .slice o0 x0.2.2.length capo0] 43))
  have hmk0 : wS wA x0.2.1 + x0.2.2.length ≤ 4194304 := by have h : szQ x0 ≤ 1048576 := (by omega); unfold szQ at h; have h2 := w_atom (show tots szA x0.2.1 ≤ 1048576 by omega); omega
  go_enter Tryd.func5, Tryd.ntmps5
  have t_sz0 : ¬ ((1048576 - (szQ x0 : Nat) : Int) < 0) := by omega
  obtain ⟨c0_1, c1_1, c2_1, f0_1, f1_1, f2_1, z_1⟩ := HasL.three P0.out
  go_wp2_with fail
  with_reducible refine (sz_query _ x0 0 w.heap.size (1048576) (1048576 - (szQ x0 : Nat)) _ (by omega) (by omega) (good_query.keep r0 (sm_below B.out (Nat.le_refl _))) B.out.size (hid (.inr ⟨by omega, by omega⟩))).mono ?_
  rintro e w1 ⟨rfl, hb⟩
  clear c0_1 c1_1 c2_1 f0_1 f1_1 f2_1 z_1
  have s_w1 := hb.size
  (try simp only [World.size_alloc] at s_w1)
  replace P0 := hid (P0.out.below hb)
  replace B := hid (B.out.trans (hb.mono B.out.size))
  clear hb
  obtain ⟨c0_2, c1_2, c2_2, f0_2, f1_2, f2_2, z_2⟩ := HasL.three P0.out
  go_wp2_with fail
  with_reducible refine (to_query _ x0 0 w.heap.size _ (by omega) (good_query.keep r0 (sm_below B.out (Nat.le_refl _))) B.out.size).mono ?_
  rintro e w2 ⟨dss0, rfl, hd, hb⟩
  clear c0_2 c1_2 c2_2 f0_2 f1_2 f2_2 z_2
  have s_w2 := hb.size
  (try simp only [World.size_alloc] at s_w2)
  replace P0 := hid (P0.out.below hb)
  replace B := hid (B.out.trans (hb.mono B.out.size))
  clear hb
  have hd0 := good_query.up hd (Nat.zero_le _) (Nat.le_refl _)
  obtain ⟨as0, caps0, os0, capos0, hds, _⟩ := query_open hd
  subst hds
  have Xs0 := hid hd0
  clear hd hd0
  go_wp2_with fail
  with_reducible refine (S.out _ _ Xs0.out B.out).mono ?_
  rintro e w3 ⟨aV, capV, vsV, rfl, hown, hb⟩
  have s_w3 := hb.size
  (try simp only [World.size_alloc] at s_w3)
  replace P0 := hid (P0.out.below hb)
  replace B := hid (B.out.trans (hb.mono B.out.size))
  clear hb
  (try simp only [World.size_alloc] at hown)
  have V := hid hown
  have UV := hid (gown_under hown)
  clear hown
  clear Xs0
  obtain ⟨c0_3, c1_3, c2_3, f0_3, f1_3, f2_3, z_3⟩ := HasL.three P0.out
  go_wp2_with fail
  clear c0_3 c1_3 c2_3 f0_3 f1_3 f2_3 z_3
  with_reducible refine (to_queryF _ x0 0 w.heap.size _ (by omega) (good_query.keep r0 (sm_below B.out (Nat.le_refl _))) B.out.size).mono ?_
  rintro e w4 ⟨dsx0, rfl, hd, hbf⟩
  have hb := hbf.toBelow
  have ht0 := hbf.thw w4.heap.size
  have s_w4 := hb.size
  (try simp only [World.size_alloc] at s_w4)
  replace P0 := hid (P0.out.below hb)
  replace V := hid (V.out.below' hb)
  replace B := hid (B.out.trans (hb.mono B.out.size))
  clear hb
  (try simp only [World.size_alloc] at hd ht0)
  clear hbf
  obtain ⟨ax0, capx0, ox0, capox0, hds, _⟩ := query_open hd
  subst hds
  have X0 := hid hd
  have Th0 := hid ht0
  clear hd ht0
  go_wp2_with fail
  replace P0 := hid (P0.out.alloc (.cells #[.int .i64 x0.1, .slice ax0 x0.2.1.length capx0, .slice ox0 x0.2.2.length capox0] 48))
  replace V := hid (V.out.alloc (.cells #[.int .i64 x0.1, .slice ax0 x0.2.1.length capx0, .slice ox0 x0.2.2.length capox0] 48))
  replace X0 := hid (good_query.keep X0.out (sm_below ((Below.refl _ _).alloc (Nat.le_refl _) (.cells #[.int .i64 x0.1, .slice ax0 x0.2.1.length capx0, .slice ox0 x0.2.2.length capox0] 48)) (by (try simp only [World.size_alloc]); omega)))
  replace Th0 := hid (Th0.out.nf (Nf.alloc _ (.cells #[.int .i64 x0.1, .slice ax0 x0.2.1.length capx0, .slice ox0 x0.2.2.length capox0] 48) ⟨_, _, rfl⟩))
  replace B := hid (B.out.alloc B.out.size (.cells #[.int .i64 x0.1, .slice ax0 x0.2.1.length capx0, .slice ox0 x0.2.2.length capox0] 48))
  have Q0 := hid (hasl_new w4 [.int .i64 x0.1, .slice ax0 x0.2.1.length capx0, .slice ox0 x0.2.2.length capox0] 48)
  with_reducible refine (I.out _ _ (good_query.up X0.out (Nat.zero_le _) (by (try simp only [World.size_alloc]); omega)) B.out).mono ?_
  rintro e w5 ⟨aG, capG, vsG, rfl, hown, hb⟩
  have s_w5 := hb.size
  (try simp only [World.size_alloc] at s_w5)
  replace P0 := hid (P0.out.below hb)
  replace V := hid (V.out.below' hb)
  replace X0 := hid (good_query.keep X0.out (sm_below hb (by (try simp only [World.size_alloc]); omega)))
  replace Th0 := hid (Th0.out.below hb (by (try simp only [World.size_alloc]); omega))
  replace Q0 := hid (Q0.out.below hb)
  replace B := hid (B.out.trans (hb.mono B.out.size))
  clear hb
  (try simp only [World.size_alloc] at hown)
  have G := hid hown
  have UG := hid (gown_under hown)
  clear hown
  go_wp2_with fail
  with_reducible refine (eq_ss _ _ _ _ zss _ _ _ hz (gown_rd G.out) (gown_rd V.out) (Nat.le_refl _) (Nat.le_refl _)).mono ?_
  rintro e w6 ⟨rfl, hb⟩
  have s_w6 := hb.size
  (try simp only [World.size_alloc] at s_w6)
  replace P0 := hid (P0.out.below hb)
  replace V := hid (V.out.below' hb)
  replace X0 := hid (good_query.keep X0.out (sm_below hb (by (try simp only [World.size_alloc]); omega)))
  replace Th0 := hid (Th0.out.below hb (by (try simp only [World.size_alloc]); omega))
  replace Q0 := hid (Q0.out.below hb)
  replace G := hid (G.out.below' hb)
  replace B := hid (B.out.trans (hb.mono B.out.size))
  clear hb
  have R0 := hid (good_query.keep r0 (sm_below B.out (Nat.le_refl _)))
  have XR0 := hid (good_query.up X0.out (hi' := w6.heap.size) (Nat.zero_le _) (by (try simp only [World.size_alloc]); omega))
  obtain ⟨c0_4, c1_4, c2_4, f0_4, f1_4, f2_4, z_4⟩ := HasL.three Q0.out
  obtain ⟨c0_5, c1_5, c2_5, f0_5, f1_5, f2_5, z_5⟩ := HasL.three P0.out
  have hk0 := kp_refl w6
  go_upto_region 10 with fail
  go_cut [31] (fun s wx => s = .bool false ∧ Kp w6 0 wx)
  case first =>
    go_region_held3 (fun w' => w'.cell? ⟨w.heap.size, 0, none⟩ = some (.int .i64 x0.1) ∧ w'.cell? ⟨w.heap.size, 1, none⟩ = some (.slice a0 x0.2.1.length cap0) ∧ w'.cell? ⟨w.heap.size, 2, none⟩ = some (.slice o0 x0.2.2.length capo0) ∧ w'.cell? ⟨w4.heap.size, 0, none⟩ = some (.int .i64 x0.1) ∧ w'.cell? ⟨w4.heap.size, 1, none⟩ = some (.slice ax0 x0.2.1.length capx0) ∧ w'.cell? ⟨w4.heap.size, 2, none⟩ = some (.slice ox0 x0.2.2.length capox0) ∧ Kp w6 0 w')
      (first
        | (go_split_ands
           repeat' apply And.intro
           all_goals (first | (with_reducible assumption) | (with_reducible exact cell_drew (by assumption)) | (with_reducible exact Kp.drew (by assumption)) | (with_reducible exact Kp.cell (by assumption) hb1 (by omega) (by assumption)) | (with_reducible exact Kp.call (by assumption) hb1))))
      (first
        | (go_split_ands; go_at_call 18; (with_reducible refine (to_query _ x0 0 w.heap.size _ (by omega) (gd_kp good_query R0.out (by with_reducible assumption) (by omega)) (kp_le (by with_reducible assumption) (by omega))).mono ?_); rintro e wT ⟨dsT, rfl, hdT, hb1⟩; obtain ⟨aT, capT, oT, capoT, hdsT, _⟩ := query_open hdT; subst hdsT; have HT := hid hdT; clear hdT)
        | (go_split_ands; go_at_call 21; (with_reducible refine (eq_query _ _ x0 0 w6.heap.size _ wT.heap.size _ (by omega) (gd_kp good_query XR0.out (by with_reducible assumption) (Nat.le_refl _)) (by first | exact HT.out | exact good_query.drew HT.out) (kp_le (by with_reducible assumption) (Nat.le_refl _)) (by first | exact Nat.le_refl _ | simp)).mono ?_); rintro e wU ⟨rfl, hb1⟩))
    all_goals
      go_wp2_with fail
      go_meet
      go_split_ands
      exact ⟨rfl, by with_reducible assumption⟩
  case rest =>
    obtain ⟨rfl, hk⟩ := hcut
    obtain ⟨w7, rfl⟩ : ∃ wo : World, wo = wc := ⟨_, rfl⟩
    clear hk0 R0 XR0
    clear c0_4 c1_4 c2_4 f0_4 f1_4 f2_4 z_4
    clear c0_5 c1_5 c2_5 f0_5 f1_5 f2_5 z_5
    have hb := hk.bel
    clear hk
    have s_w7 := hb.size
    (try simp only [World.size_alloc] at s_w7)
    replace P0 := hid (P0.out.below hb)
    replace V := hid (V.out.below' hb)
    replace X0 := hid (good_query.keep X0.out (sm_below hb (by (try simp only [World.size_alloc]); omega)))
    replace Th0 := hid (Th0.out.below hb (by (try simp only [World.size_alloc]); omega))
    replace Q0 := hid (Q0.out.below hb)
    replace G := hid (G.out.below' hb)
    replace B := hid (B.out.trans (hb.mono B.out.size))
    clear hb
    obtain ⟨c0_6, c1_6, c2_6, f0_6, f1_6, f2_6, z_6⟩ := HasL.three Q0.out
    go_wp2_with fail
    with_reducible refine (mark_queryA _ x0 (w3.heap.size) (w4.heap.size) (1) _ (by omega) (by omega) (by omega) X0.out (by omega) Th0.out).mono ?_
    rintro e w8 ⟨rfl, hkt⟩
    clear c0_6 c1_6 c2_6 f0_6 f1_6 f2_6 z_6
    have ht := hkt.toTurn
    clear hkt
    clear X0
    clear Th0
    replace P0 := hid (hasl_turned P0.out ht (by omega))
    replace V := hid (gown_turned V.out ht (.inr (UV.out.mono (by omega))))
    replace Q0 := hid (hasl_turned Q0.out ht (by omega))
    replace G := hid (gown_turned G.out ht (.inl (by omega)))
    replace B := hid (B.out.trans ((ht.below (by omega)).mono (by omega)))
    have s_t8 := ht.size
    clear ht
    have t_k : ¬ (1 + (wS wA x0.2.1 : Nat) + (x0.2.2.length : Nat) < 0) := by omega
    go_wp2_with fail
    with_reducible refine (eq_ss _ _ _ _ zss _ _ _ hz (gown_rd G.out) (gown_rd V.out) (Nat.le_refl _) (Nat.le_refl _)).mono ?_
    rintro e w9 ⟨rfl, hb⟩
    have s_w9 := hb.size
    (try simp only [World.size_alloc] at s_w9)
    replace P0 := hid (P0.out.below hb)
    replace V := hid (V.out.below' hb)
    replace Q0 := hid (Q0.out.below hb)
    replace G := hid (G.out.below' hb)
    replace B := hid (B.out.trans (hb.mono B.out.size))
    clear hb
    clear Q0
    have hiz := ints_le zss
    have hneg : ¬ ((1 : Int) + (ints zss : Nat) < 0) := by omega
    have hsame : (((1 : Int) + (ints zss : Nat)) != ((1 : Int) + (ints zss : Nat))) = false := by simp
    go_wp2_with fail
    with_reducible refine (mark_ss _ w5.heap.size _ _ 1 zss _ hz (by omega) (by omega) G.out UG.out).mono ?_
    rintro e w10 ⟨yss, rfl, hown, hm, ht⟩
    have HM := hid hm
    have hml := hm.1
    clear hm G
    replace P0 := hid (hasl_turned P0.out ht (by omega))
    replace V := hid (gown_turned V.out ht (.inr (UV.out.mono (by omega))))
    replace B := hid (B.out.trans ((ht.below (by omega)).mono (by omega)))
    have s_t10 := ht.size
    clear ht
    have G := hid hown
    clear hown
    go_wp2_with fail
    with_reducible refine (held_ss _ _ _ 1 zss yss _ hz (by omega) (by omega) HM.out (gown_rd' G.out hml)).mono ?_
    rintro e w' ⟨rfl, rfl⟩
    obtain ⟨c0_7, c1_7, c2_7, f0_7, f1_7, f2_7, z_7⟩ := HasL.three P0.out
    go_wp2_with fail
    with_reducible refine (to_query _ x0 0 w.heap.size _ (by omega) (good_query.keep r0 (sm_below B.out (Nat.le_refl _))) B.out.size).mono ?_
    rintro e w11 ⟨dsh0, rfl, hd, hb⟩
    clear c0_7 c1_7 c2_7 f0_7 f1_7 f2_7 z_7
    have s_w11 := hb.size
    (try simp only [World.size_alloc] at s_w11)
    replace P0 := hid (P0.out.below hb)
    replace V := hid (V.out.below' hb)
    replace G := hid (G.out.below' hb)
    replace B := hid (B.out.trans (hb.mono B.out.size))
    clear hb
    have hd0 := good_query.up hd (Nat.zero_le _) (Nat.le_refl _)
    obtain ⟨ah0, caph0, oh0, capoh0, hds, _⟩ := query_open hd
    subst hds
    have Xh0 := hid hd0
    clear hd hd0
    go_wp2_with fail
    with_reducible refine (I.out _ _ Xh0.out B.out).mono ?_
    rintro e w12 ⟨aH, capH, vsH, rfl, hown, hb⟩
    have s_w12 := hb.size
    (try simp only [World.size_alloc] at s_w12)
    replace P0 := hid (P0.out.below hb)
    replace V := hid (V.out.below' hb)
    replace G := hid (G.out.below' hb)
    replace B := hid (B.out.trans (hb.mono B.out.size))
    clear hb
    (try simp only [World.size_alloc] at hown)
    have H := hid hown
    have UH := hid (gown_under hown)
    clear hown
    clear Xh0
    go_wp2_with fail
    with_reducible refine (eq_ss _ _ _ _ zss _ _ _ hz (gown_rd H.out) (gown_rd V.out) (Nat.le_refl _) (Nat.le_refl _)).mono ?_
    rintro e w13 ⟨rfl, hb⟩
    have s_w13 := hb.size
    (try simp only [World.size_alloc] at s_w13)
    replace P0 := hid (P0.out.below hb)
    replace V := hid (V.out.below' hb)
    replace G := hid (G.out.below' hb)
    replace H := hid (H.out.below' hb)
    replace B := hid (B.out.trans (hb.mono B.out.size))
    clear hb
    go_wp2_with fail
    with_reducible refine (held_ss _ _ _ 1 zss yss _ hz (by omega) (by omega) HM.out (gown_rd' G.out hml)).mono ?_
    rintro e w' ⟨rfl, rfl⟩
    go_wp2_with fail
    go_ret
    exact ⟨rfl, B.out⟩

set_option maxRecDepth 100000 in
theorem walk (cs0 : List Value) (x0 : QueryD) (w : World)  (r0 : rQuery w 0 w.heap.size cs0 x0) (SI : (szQ x0 ≤ 1048576 → ∃ (zss : List (List Int)), tot zss ≤ 1048576 ∧ (∀ (W : World) (d0 : List Value), rQuery W 0 W.heap.size d0 x0 → Below w.heap.size w W → Calls Tryd.prog 17 #[.agg d0.toArray] W fun e w' => ∃ a cap vs, e = .returned (.slice a zss.length cap) ∧ GOwn w' W.heap.size eR eI (.slice a zss.length cap) vs zss ∧ Below W.heap.size W w') ∧ (∀ (W : World) (d0 : List Value), rQuery W 0 W.heap.size d0 x0 → Below w.heap.size w W → Calls Tryd.prog 19 #[.agg d0.toArray] W fun e w' => ∃ a cap vs, e = .returned (.slice a zss.length cap) ∧ GOwn w' W.heap.size eR eI (.slice a zss.length cap) vs zss ∧ Below W.heap.size W w'))) :
    Calls Tryd.prog 5 #[.agg cs0.toArray] w fun e w' => e = .returned (.bool true) ∧ Below w.heap.size w w' := by
  by_cases ht0 : 1048576 < szQ x0
  · clear SI
    obtain ⟨a0, cap0, o0, capo0, hcs0, _⟩ := query_open r0
    subst hcs0
    have P0 := hid (hasl_new w [.int .i64 x0.1, .slice a0 x0.2.1.length cap0, .slice o0 x0.2.2.length capo0] 43)
    have B := hid ((Below.refl w.heap.size w).alloc (by simp) (.cells #[.int .i64 x0.1, .slice a0 x0.2.1.length cap0, .slice o0 x0.2.2.length capo0] 43))
    go_enter Tryd.func5, Tryd.ntmps5
    obtain ⟨c0_8, c1_8, c2_8, f0_8, f1_8, f2_8, z_8⟩ := HasL.three P0.out
    go_wp2_with fail
    with_reducible refine (sz_query _ x0 0 w.heap.size (1048576) (-1) _ (by omega) (by omega) (good_query.keep r0 (sm_below B.out (Nat.le_refl _))) B.out.size (hid (.inl ⟨by omega, rfl⟩))).mono ?_
    rintro e w1 ⟨rfl, hb⟩
    clear c0_8 c1_8 c2_8 f0_8 f1_8 f2_8 z_8
    replace P0 := hid (P0.out.below hb)
    replace B := hid (B.out.trans (hb.mono B.out.size))
    clear hb
    go_wp2
    go_ret
    exact ⟨rfl, B.out⟩
  · obtain ⟨zss, hz, S, I⟩ := SI (by omega) 
    exact core cs0 x0 zss w (by omega) hz  r0 (hid S) (hid I)
end Go.Proofs.YtffhfnkcbgbliaaDoor.ConnectedComponentsC
