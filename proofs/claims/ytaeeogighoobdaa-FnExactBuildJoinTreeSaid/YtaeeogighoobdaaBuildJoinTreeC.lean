/- The walk of law FnExactBuildJoinTree, at every argument, out of the contracts of the model's function and the program's. -/
import Derived.Test.YtaeeogighoobdaaMarkQ
import Derived.Test.YtaeeogighoobdaaRelLaw
import Derived.Test.YtaeeogighoobdaaRelKit
import Derived.Test.YtaeeogighoobdaaLawKit
import Derived.Deep.RegionHeld3
import Derived.Deep.DeepCutAuto
import Derived.Test.YtaeeogighoobdaaForestO
namespace Go.Proofs.Ytaeeogighoobdaa.BuildJoinTreeC
open Go.RowKit
open Go.Proofs.Ytaeeogighoobdaa.Num Go.Proofs.Ytaeeogighoobdaa.IntRow Go.Proofs.Ytaeeogighoobdaa.IntLaw Go.Proofs.Ytaeeogighoobdaa.Grid Go.Proofs.Ytaeeogighoobdaa.GridMore Go.Proofs.Ytaeeogighoobdaa.GridLaw Go.Proofs.Ytaeeogighoobdaa.GridLaw2 Go.Proofs.Ytaeeogighoobdaa.RelLaw Go.Proofs.Ytaeeogighoobdaa.RelKit Go.Proofs.Ytaeeogighoobdaa.Rdr Go.Proofs.Ytaeeogighoobdaa.Dat Go.Proofs.Ytaeeogighoobdaa.HasL Go.Proofs.Ytaeeogighoobdaa.LawKit Go.Proofs.Ytaeeogighoobdaa.AtomLaw Go.Proofs.Ytaeeogighoobdaa.QueryLaw Go.Proofs.Ytaeeogighoobdaa.TableLaw Go.Proofs.Ytaeeogighoobdaa.Keep Go.Proofs.Ytaeeogighoobdaa.Kept Go.Proofs.Ytaeeogighoobdaa.Cells Go.Proofs.Ytaeeogighoobdaa.Thaw Go.Proofs.Ytaeeogighoobdaa.ToF Go.Proofs.Ytaeeogighoobdaa.MarkA Go.Proofs.Ytaeeogighoobdaa.Forest Go.Proofs.Ytaeeogighoobdaa.ForestO
set_option linter.unusedVariables false

set_option maxRecDepth 100000 in
set_option maxHeartbeats 4000000 in
theorem core (cs0 : List Value) (x0 : QueryD) (zs : List Int) (ok : Bool) (w : World) (ht : szQ x0 ≤ 1048576) (hz : zs.length ≤ 1048576)  (r0 : rQuery w 0 w.heap.size cs0 x0)
    (S : RowKit.Hid (∀ (W : World) (d0 : List Value), rQuery W 0 W.heap.size d0 x0 → Calls Try.prog 21 #[.agg d0.toArray] W fun e w' => ∃ a cap, e = .returned (.tuple #[.agg #[.slice a zs.length cap], .bool ok]) ∧ Own w' W.heap.size 3 (.slice a zs.length cap) zs ∧ Below W.heap.size W w'))
    (I : RowKit.Hid (∀ (W : World) (d0 : List Value), rQuery W 0 W.heap.size d0 x0 → Calls Try.prog 22 #[.agg d0.toArray] W fun e w' => ∃ a cap, e = .returned (.tuple #[.agg #[.slice a zs.length cap], .bool ok]) ∧ Own w' W.heap.size 3 (.slice a zs.length cap) zs ∧ Below W.heap.size W w')) :
    Calls Try.prog 5 #[.agg cs0.toArray] w fun e w' => e = .returned (.bool true) ∧ Below w.heap.size w w' := by
  obtain ⟨a0, cap0, o0, capo0, hcs0, _⟩ := query_open r0
  subst hcs0
  have P0 := hid (hasl_new w [.int .i64 x0.1, .slice a0 x0.2.1.length cap0, .slice o0 x0.2.2.length capo0] 25)
  have B := hid ((Below.refl w.heap.size w).alloc (by simp) (.cells #[.int .i64 x0.1, .slice a0 x0.2.1.length cap0, .slice o0 x0.2.2.length capo0] 25))
  have hne : (ok != ok) = false := by simp
  have hmk0 : wS wA x0.2.1 + x0.2.2.length ≤ 4194304 := by have h : szQ x0 ≤ 1048576 := (by omega); unfold szQ at h; have h2 := w_atom (show tots szA x0.2.1 ≤ 1048576 by omega); omega
  go_enter Try.func5, Try.ntmps5
  have t_sz0 : ¬ ((1048576 - (szQ x0 : Nat) : Int) < 0) := by omega
  obtain ⟨c0_1, c1_1, c2_1, f0_1, f1_1, f2_1, z_1⟩ := HasL.three P0.out
  go_wp2_with fail
  with_reducible refine (sz_query _ x0 0 w.heap.size (1048576) (1048576 - (szQ x0 : Nat)) _ (by omega) (by omega) (good_query.keep r0 (sm_below B.out (Nat.le_refl _))) B.out.size (hid (.inr ⟨by omega, by omega⟩))).mono ?_
  rintro e w1 ⟨rfl, hb⟩
  clear c0_1 c1_1 c2_1 f0_1 f1_1 f2_1 z_1
  have s_w1 := hb.size
  (try simp only [World.size_alloc] at s_w1)
  replace P0 := hid (P0.out.below hb)
  replace B := hid (B.out.trans (hb.mono B.out.size))
  clear hb
  obtain ⟨c0_2, c1_2, c2_2, f0_2, f1_2, f2_2, z_2⟩ := HasL.three P0.out
  go_wp2_with fail
  with_reducible refine (to_query _ x0 0 w.heap.size _ (by omega) (good_query.keep r0 (sm_below B.out (Nat.le_refl _))) B.out.size).mono ?_
  rintro e w2 ⟨dss0, rfl, hd, hb⟩
  clear c0_2 c1_2 c2_2 f0_2 f1_2 f2_2 z_2
  have s_w2 := hb.size
  (try simp only [World.size_alloc] at s_w2)
  replace P0 := hid (P0.out.below hb)
  replace B := hid (B.out.trans (hb.mono B.out.size))
  clear hb
  have hd0 := good_query.up hd (Nat.zero_le _) (Nat.le_refl _)
  obtain ⟨as0, caps0, os0, capos0, hds, _⟩ := query_open hd
  subst hds
  have Xs0 := hid hd0
  clear hd hd0
  go_wp2_with fail
  with_reducible refine (S.out _ _ Xs0.out).mono ?_
  rintro e w3 ⟨aV, capV, rfl, hown, hb⟩
  have s_w3 := hb.size
  (try simp only [World.size_alloc] at s_w3)
  replace P0 := hid (P0.out.below hb)
  replace B := hid (B.out.trans (hb.mono B.out.size))
  clear hb
  (try simp only [World.size_alloc] at hown)
  have V := hid hown
  have UV := hid (show Under w3.heap.size (.slice aV zs.length capV) from fun k hk => (hown.lt k hk).2)
  have LV := hid hown.lt
  clear hown
  clear Xs0
  obtain ⟨c0_3, c1_3, c2_3, f0_3, f1_3, f2_3, z_3⟩ := HasL.three P0.out
  go_wp2_with fail
  clear c0_3 c1_3 c2_3 f0_3 f1_3 f2_3 z_3
  replace P0 := hid (P0.out.alloc (.cells #[.slice aV zs.length capV] 39))
  replace V := hid (V.out.alloc (.cells #[.slice aV zs.length capV] 39))
  replace B := hid (B.out.alloc B.out.size (.cells #[.slice aV zs.length capV] 39))
  have OV := hid (hasl_new w3 [.slice aV zs.length capV] 39)
  with_reducible refine (to_queryF _ x0 0 w.heap.size _ (by omega) (good_query.keep r0 (sm_below B.out (Nat.le_refl _))) B.out.size).mono ?_
  rintro e w4 ⟨dsx0, rfl, hd, hbf⟩
  have hb := hbf.toBelow
  have ht0 := hbf.thw w4.heap.size
  have s_w4 := hb.size
  (try simp only [World.size_alloc] at s_w4)
  replace P0 := hid (P0.out.below hb)
  replace V := hid (V.out.below' hb)
  replace OV := hid (OV.out.below hb)
  replace B := hid (B.out.trans (hb.mono B.out.size))
  clear hb
  (try simp only [World.size_alloc] at hd ht0)
  clear hbf
  obtain ⟨ax0, capx0, ox0, capox0, hds, _⟩ := query_open hd
  subst hds
  have X0 := hid hd
  have Th0 := hid ht0
  clear hd ht0
  go_wp2_with fail
  replace P0 := hid (P0.out.alloc (.cells #[.int .i64 x0.1, .slice ax0 x0.2.1.length capx0, .slice ox0 x0.2.2.length capox0] 30))
  replace V := hid (V.out.alloc (.cells #[.int .i64 x0.1, .slice ax0 x0.2.1.length capx0, .slice ox0 x0.2.2.length capox0] 30))
  replace OV := hid (OV.out.alloc (.cells #[.int .i64 x0.1, .slice ax0 x0.2.1.length capx0, .slice ox0 x0.2.2.length capox0] 30))
  replace X0 := hid (good_query.keep X0.out (sm_below ((Below.refl _ _).alloc (Nat.le_refl _) (.cells #[.int .i64 x0.1, .slice ax0 x0.2.1.length capx0, .slice ox0 x0.2.2.length capox0] 30)) (by (try simp only [World.size_alloc]); omega)))
  replace Th0 := hid (Th0.out.nf (Nf.alloc _ (.cells #[.int .i64 x0.1, .slice ax0 x0.2.1.length capx0, .slice ox0 x0.2.2.length capox0] 30) ⟨_, _, rfl⟩))
  replace B := hid (B.out.alloc B.out.size (.cells #[.int .i64 x0.1, .slice ax0 x0.2.1.length capx0, .slice ox0 x0.2.2.length capox0] 30))
  have Q0 := hid (hasl_new w4 [.int .i64 x0.1, .slice ax0 x0.2.1.length capx0, .slice ox0 x0.2.2.length capox0] 30)
  with_reducible refine (I.out _ _ (good_query.up X0.out (Nat.zero_le _) (by (try simp only [World.size_alloc]); omega))).mono ?_
  rintro e w5 ⟨aG, capG, rfl, hown, hb⟩
  have s_w5 := hb.size
  (try simp only [World.size_alloc] at s_w5)
  replace P0 := hid (P0.out.below hb)
  replace V := hid (V.out.below' hb)
  replace OV := hid (OV.out.below hb)
  replace X0 := hid (good_query.keep X0.out (sm_below hb (by (try simp only [World.size_alloc]); omega)))
  replace Th0 := hid (Th0.out.below hb (by (try simp only [World.size_alloc]); omega))
  replace Q0 := hid (Q0.out.below hb)
  replace B := hid (B.out.trans (hb.mono B.out.size))
  clear hb
  (try simp only [World.size_alloc] at hown)
  have G := hid hown
  have UG := hid (show Under w5.heap.size (.slice aG zs.length capG) from fun k hk => (hown.lt k hk).2)
  have LG := hid hown.lt
  clear hown
  obtain ⟨c0_4, f0_4, z_4⟩ := HasL.one OV.out
  go_wp2_with fail
  clear c0_4 f0_4 z_4
  replace P0 := hid (P0.out.alloc (.cells #[.slice aG zs.length capG] 39))
  replace V := hid (V.out.alloc (.cells #[.slice aG zs.length capG] 39))
  replace OV := hid (OV.out.alloc (.cells #[.slice aG zs.length capG] 39))
  replace X0 := hid (good_query.keep X0.out (sm_below ((Below.refl _ _).alloc (Nat.le_refl _) (.cells #[.slice aG zs.length capG] 39)) (by (try simp only [World.size_alloc]); omega)))
  replace Th0 := hid (Th0.out.nf (Nf.alloc _ (.cells #[.slice aG zs.length capG] 39) ⟨_, _, rfl⟩))
  replace Q0 := hid (Q0.out.alloc (.cells #[.slice aG zs.length capG] 39))
  replace G := hid (G.out.alloc (.cells #[.slice aG zs.length capG] 39))
  replace B := hid (B.out.alloc B.out.size (.cells #[.slice aG zs.length capG] 39))
  have OG := hid (hasl_new w5 [.slice aG zs.length capG] 39)
  with_reducible refine (eq_forestO _ _ _ _ zs _ _ _ hz (own_rd G.out) (own_rd V.out) (Nat.le_refl _) (Nat.le_refl _)).mono ?_
  rintro e w6 ⟨rfl, hb⟩
  have s_w6 := hb.size
  (try simp only [World.size_alloc] at s_w6)
  replace P0 := hid (P0.out.below hb)
  replace V := hid (V.out.below' hb)
  replace OV := hid (OV.out.below hb)
  replace X0 := hid (good_query.keep X0.out (sm_below hb (by (try simp only [World.size_alloc]); omega)))
  replace Th0 := hid (Th0.out.below hb (by (try simp only [World.size_alloc]); omega))
  replace Q0 := hid (Q0.out.below hb)
  replace G := hid (G.out.below' hb)
  replace OG := hid (OG.out.below hb)
  replace B := hid (B.out.trans (hb.mono B.out.size))
  clear hb
  have R0 := hid (good_query.keep r0 (sm_below B.out (Nat.le_refl _)))
  have XR0 := hid (good_query.up X0.out (hi' := w6.heap.size) (Nat.zero_le _) (by (try simp only [World.size_alloc]); omega))
  obtain ⟨c0_5, c1_5, c2_5, f0_5, f1_5, f2_5, z_5⟩ := HasL.three Q0.out
  obtain ⟨c0_6, c1_6, c2_6, f0_6, f1_6, f2_6, z_6⟩ := HasL.three P0.out
  have hk0 := kp_refl w6
  go_upto_region 10 with fail
  go_cut [45] (fun s wx => s = .bool false ∧ Kp w6 0 wx)
  case first =>
    go_region_held3 (fun w' => w'.cell? ⟨w.heap.size, 0, none⟩ = some (.int .i64 x0.1) ∧ w'.cell? ⟨w.heap.size, 1, none⟩ = some (.slice a0 x0.2.1.length cap0) ∧ w'.cell? ⟨w.heap.size, 2, none⟩ = some (.slice o0 x0.2.2.length capo0) ∧ w'.cell? ⟨w4.heap.size, 0, none⟩ = some (.int .i64 x0.1) ∧ w'.cell? ⟨w4.heap.size, 1, none⟩ = some (.slice ax0 x0.2.1.length capx0) ∧ w'.cell? ⟨w4.heap.size, 2, none⟩ = some (.slice ox0 x0.2.2.length capox0) ∧ Kp w6 0 w')
      (first
        | (go_split_ands
           repeat' apply And.intro
           all_goals (first | (with_reducible assumption) | (with_reducible exact cell_drew (by assumption)) | (with_reducible exact Kp.drew (by assumption)) | (with_reducible exact Kp.cell (by assumption) hb1 (by omega) (by assumption)) | (with_reducible exact Kp.call (by assumption) hb1))))
      (first
        | (go_split_ands; go_at_call 12; (with_reducible refine (to_query _ x0 0 w.heap.size _ (by omega) (gd_kp good_query R0.out (by with_reducible assumption) (by omega)) (kp_le (by with_reducible assumption) (by omega))).mono ?_); rintro e wT ⟨dsT, rfl, hdT, hb1⟩; obtain ⟨aT, capT, oT, capoT, hdsT, _⟩ := query_open hdT; subst hdsT; have HT := hid hdT; clear hdT)
        | (go_split_ands; go_at_call 15; (with_reducible refine (eq_query _ _ x0 0 w6.heap.size _ wT.heap.size _ (by omega) (gd_kp good_query XR0.out (by with_reducible assumption) (Nat.le_refl _)) (by first | exact HT.out | exact good_query.drew HT.out) (kp_le (by with_reducible assumption) (Nat.le_refl _)) (by first | exact Nat.le_refl _ | simp)).mono ?_); rintro e wU ⟨rfl, hb1⟩))
    all_goals
      go_wp2_with fail
      go_meet
      go_split_ands
      exact ⟨rfl, by with_reducible assumption⟩
  case rest =>
    obtain ⟨rfl, hk⟩ := hcut
    obtain ⟨w7, rfl⟩ : ∃ wo : World, wo = wc := ⟨_, rfl⟩
    clear hk0 R0 XR0
    clear c0_5 c1_5 c2_5 f0_5 f1_5 f2_5 z_5
    clear c0_6 c1_6 c2_6 f0_6 f1_6 f2_6 z_6
    have hb := hk.bel
    clear hk
    have s_w7 := hb.size
    (try simp only [World.size_alloc] at s_w7)
    replace P0 := hid (P0.out.below hb)
    replace V := hid (V.out.below' hb)
    replace OV := hid (OV.out.below hb)
    replace X0 := hid (good_query.keep X0.out (sm_below hb (by (try simp only [World.size_alloc]); omega)))
    replace Th0 := hid (Th0.out.below hb (by (try simp only [World.size_alloc]); omega))
    replace Q0 := hid (Q0.out.below hb)
    replace G := hid (G.out.below' hb)
    replace OG := hid (OG.out.below hb)
    replace B := hid (B.out.trans (hb.mono B.out.size))
    clear hb
    obtain ⟨c0_7, c1_7, c2_7, f0_7, f1_7, f2_7, z_7⟩ := HasL.three Q0.out
    go_wp2_with fail
    with_reducible refine (mark_queryA _ x0 (w3.heap.size + 1) (w4.heap.size) (1) _ (by omega) (by omega) (by omega) X0.out (by omega) Th0.out).mono ?_
    rintro e w8 ⟨rfl, hkt⟩
    clear c0_7 c1_7 c2_7 f0_7 f1_7 f2_7 z_7
    have ht := hkt.toTurn
    clear hkt
    clear X0
    clear Th0
    replace P0 := hid (hasl_turned P0.out ht (by omega))
    replace V := hid (own_turned V.out ht (.inr (fun k hk => Nat.lt_of_lt_of_le (UV.out k hk) (by omega))))
    replace OV := hid (hasl_turned OV.out ht (by omega))
    replace Q0 := hid (hasl_turned Q0.out ht (by omega))
    replace G := hid (own_turned G.out ht (.inl (by omega)))
    replace OG := hid (hasl_turned OG.out ht (by omega))
    replace B := hid (B.out.trans ((ht.below (by omega)).mono (by omega)))
    have s_t8 := ht.size
    clear ht
    have t_k : ¬ (1 + (wS wA x0.2.1 : Nat) + (x0.2.2.length : Nat) < 0) := by omega
    obtain ⟨c0_8, f0_8, z_8⟩ := HasL.one OG.out
    obtain ⟨c0_9, f0_9, z_9⟩ := HasL.one OV.out
    go_wp2_with fail
    with_reducible refine (eq_forestO _ _ _ _ zs _ _ _ hz (own_rd G.out) (own_rd V.out) (Nat.le_refl _) (Nat.le_refl _)).mono ?_
    rintro e w9 ⟨rfl, hb⟩
    clear c0_8 f0_8 z_8
    clear c0_9 f0_9 z_9
    have s_w9 := hb.size
    (try simp only [World.size_alloc] at s_w9)
    replace P0 := hid (P0.out.below hb)
    replace V := hid (V.out.below' hb)
    replace OV := hid (OV.out.below hb)
    replace Q0 := hid (Q0.out.below hb)
    replace G := hid (G.out.below' hb)
    replace OG := hid (OG.out.below hb)
    replace B := hid (B.out.trans (hb.mono B.out.size))
    clear hb
    clear Q0
    have hneg : ¬ ((1 : Int) + (zs.length : Int) < 0) := by omega
    have hsame : (((1 : Int) + (zs.length : Int)) != ((1 : Int) + (zs.length : Int))) = false := by simp
    obtain ⟨c0_10, f0_10, z_10⟩ := HasL.one OG.out
    go_wp2_with fail
    with_reducible refine (mark_forest _ _ 1 zs _ hz (by omega) (by omega) G.out).mono ?_
    rintro e w10 ⟨rfl, hown, hgr⟩
    clear c0_10 f0_10 z_10
    have ht := Turn.of_grown (lo := w4.heap.size + 1) (hi := w5.heap.size) hgr (fun k hk => by have := LG.out k hk; (try simp only [World.size_alloc] at this); omega)
    clear hgr G
    replace P0 := hid (hasl_turned P0.out ht (by omega))
    replace V := hid (own_turned V.out ht (.inr (fun k hk => Nat.lt_of_lt_of_le (UV.out k hk) (by omega))))
    replace OV := hid (hasl_turned OV.out ht (by omega))
    replace OG := hid (hasl_turned OG.out ht (by omega))
    replace B := hid (B.out.trans ((ht.below (by omega)).mono (by omega)))
    have s_t10 := ht.size
    clear ht
    have G := hid hown
    clear hown
    have hml := marks_length 1 zs.length
    obtain ⟨c0_11, f0_11, z_11⟩ := HasL.one OG.out
    go_wp2_with fail
    with_reducible refine (held_forest _ _ 1 zs.length _ _ hz (by omega) (by omega) (own_rd' G.out hml) (Nat.le_refl _)).mono ?_
    rintro e w11 ⟨rfl, hb⟩
    clear c0_11 f0_11 z_11
    have s_w11 := hb.size
    (try simp only [World.size_alloc] at s_w11)
    replace P0 := hid (P0.out.below hb)
    replace V := hid (V.out.below' hb)
    replace OV := hid (OV.out.below hb)
    replace OG := hid (OG.out.below hb)
    replace G := hid (G.out.below' hb)
    replace B := hid (B.out.trans (hb.mono B.out.size))
    clear hb
    obtain ⟨c0_12, c1_12, c2_12, f0_12, f1_12, f2_12, z_12⟩ := HasL.three P0.out
    go_wp2_with fail
    with_reducible refine (to_query _ x0 0 w.heap.size _ (by omega) (good_query.keep r0 (sm_below B.out (Nat.le_refl _))) B.out.size).mono ?_
    rintro e w12 ⟨dsh0, rfl, hd, hb⟩
    clear c0_12 c1_12 c2_12 f0_12 f1_12 f2_12 z_12
    have s_w12 := hb.size
    (try simp only [World.size_alloc] at s_w12)
    replace P0 := hid (P0.out.below hb)
    replace V := hid (V.out.below' hb)
    replace OV := hid (OV.out.below hb)
    replace OG := hid (OG.out.below hb)
    replace G := hid (G.out.below' hb)
    replace B := hid (B.out.trans (hb.mono B.out.size))
    clear hb
    have hd0 := good_query.up hd (Nat.zero_le _) (Nat.le_refl _)
    obtain ⟨ah0, caph0, oh0, capoh0, hds, _⟩ := query_open hd
    subst hds
    have Xh0 := hid hd0
    clear hd hd0
    go_wp2_with fail
    with_reducible refine (I.out _ _ Xh0.out).mono ?_
    rintro e w13 ⟨aH, capH, rfl, hown, hb⟩
    have s_w13 := hb.size
    (try simp only [World.size_alloc] at s_w13)
    replace P0 := hid (P0.out.below hb)
    replace V := hid (V.out.below' hb)
    replace OV := hid (OV.out.below hb)
    replace OG := hid (OG.out.below hb)
    replace G := hid (G.out.below' hb)
    replace B := hid (B.out.trans (hb.mono B.out.size))
    clear hb
    (try simp only [World.size_alloc] at hown)
    have H := hid hown
    have UH := hid (show Under w13.heap.size (.slice aH zs.length capH) from fun k hk => (hown.lt k hk).2)
    have LH := hid hown.lt
    clear hown
    clear Xh0
    obtain ⟨c0_13, f0_13, z_13⟩ := HasL.one OV.out
    go_wp2_with fail
    clear c0_13 f0_13 z_13
    replace P0 := hid (P0.out.alloc (.cells #[.slice aH zs.length capH] 39))
    replace V := hid (V.out.alloc (.cells #[.slice aH zs.length capH] 39))
    replace OV := hid (OV.out.alloc (.cells #[.slice aH zs.length capH] 39))
    replace OG := hid (OG.out.alloc (.cells #[.slice aH zs.length capH] 39))
    replace G := hid (G.out.alloc (.cells #[.slice aH zs.length capH] 39))
    replace H := hid (H.out.alloc (.cells #[.slice aH zs.length capH] 39))
    replace B := hid (B.out.alloc B.out.size (.cells #[.slice aH zs.length capH] 39))
    with_reducible refine (eq_forestO _ _ _ _ zs _ _ _ hz (own_rd H.out) (own_rd V.out) (Nat.le_refl _) (Nat.le_refl _)).mono ?_
    rintro e w14 ⟨rfl, hb⟩
    have s_w14 := hb.size
    (try simp only [World.size_alloc] at s_w14)
    replace P0 := hid (P0.out.below hb)
    replace V := hid (V.out.below' hb)
    replace OV := hid (OV.out.below hb)
    replace OG := hid (OG.out.below hb)
    replace G := hid (G.out.below' hb)
    replace H := hid (H.out.below' hb)
    replace B := hid (B.out.trans (hb.mono B.out.size))
    clear hb
    obtain ⟨c0_14, f0_14, z_14⟩ := HasL.one OG.out
    go_wp2_with fail
    with_reducible refine (held_forest _ _ 1 zs.length _ _ hz (by omega) (by omega) (own_rd' G.out hml) (Nat.le_refl _)).mono ?_
    rintro e w15 ⟨rfl, hb⟩
    clear c0_14 f0_14 z_14
    have s_w15 := hb.size
    (try simp only [World.size_alloc] at s_w15)
    replace P0 := hid (P0.out.below hb)
    replace V := hid (V.out.below' hb)
    replace OV := hid (OV.out.below hb)
    replace OG := hid (OG.out.below hb)
    replace G := hid (G.out.below' hb)
    replace H := hid (H.out.below' hb)
    replace B := hid (B.out.trans (hb.mono B.out.size))
    clear hb
    go_wp2_with fail
    go_ret
    exact ⟨rfl, B.out⟩

set_option maxRecDepth 100000 in
theorem walk (cs0 : List Value) (x0 : QueryD) (w : World)  (r0 : rQuery w 0 w.heap.size cs0 x0) (SI : (szQ x0 ≤ 1048576 → ∃ (zs : List Int) (ok : Bool), zs.length ≤ 1048576 ∧ (∀ (W : World) (d0 : List Value), rQuery W 0 W.heap.size d0 x0 → Calls Try.prog 21 #[.agg d0.toArray] W fun e w' => ∃ a cap, e = .returned (.tuple #[.agg #[.slice a zs.length cap], .bool ok]) ∧ Own w' W.heap.size 3 (.slice a zs.length cap) zs ∧ Below W.heap.size W w') ∧ (∀ (W : World) (d0 : List Value), rQuery W 0 W.heap.size d0 x0 → Calls Try.prog 22 #[.agg d0.toArray] W fun e w' => ∃ a cap, e = .returned (.tuple #[.agg #[.slice a zs.length cap], .bool ok]) ∧ Own w' W.heap.size 3 (.slice a zs.length cap) zs ∧ Below W.heap.size W w'))) :
    Calls Try.prog 5 #[.agg cs0.toArray] w fun e w' => e = .returned (.bool true) ∧ Below w.heap.size w w' := by
  by_cases ht0 : 1048576 < szQ x0
  · clear SI
    obtain ⟨a0, cap0, o0, capo0, hcs0, _⟩ := query_open r0
    subst hcs0
    have P0 := hid (hasl_new w [.int .i64 x0.1, .slice a0 x0.2.1.length cap0, .slice o0 x0.2.2.length capo0] 25)
    have B := hid ((Below.refl w.heap.size w).alloc (by simp) (.cells #[.int .i64 x0.1, .slice a0 x0.2.1.length cap0, .slice o0 x0.2.2.length capo0] 25))
    go_enter Try.func5, Try.ntmps5
    obtain ⟨c0_15, c1_15, c2_15, f0_15, f1_15, f2_15, z_15⟩ := HasL.three P0.out
    go_wp2_with fail
    with_reducible refine (sz_query _ x0 0 w.heap.size (1048576) (-1) _ (by omega) (by omega) (good_query.keep r0 (sm_below B.out (Nat.le_refl _))) B.out.size (hid (.inl ⟨by omega, rfl⟩))).mono ?_
    rintro e w1 ⟨rfl, hb⟩
    clear c0_15 c1_15 c2_15 f0_15 f1_15 f2_15 z_15
    replace P0 := hid (P0.out.below hb)
    replace B := hid (B.out.trans (hb.mono B.out.size))
    clear hb
    go_wp2
    go_ret
    exact ⟨rfl, B.out⟩
  · obtain ⟨zs, ok, hz, S, I⟩ := SI (by omega) 
    exact core cs0 x0 zs ok w (by omega) hz  r0 (hid S) (hid I)
end Go.Proofs.Ytaeeogighoobdaa.BuildJoinTreeC
