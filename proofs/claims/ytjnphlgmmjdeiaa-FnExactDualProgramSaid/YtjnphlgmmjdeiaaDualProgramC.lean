/- The walk of law FnExactDualProgram, at every argument, out of the contracts of the model's function and the program's. -/
import Derived.Test.YtjnphlgmmjdeiaaLpO
import Derived.Test.YtjnphlgmmjdeiaaLawKit
import Derived.Deep.RegionHeld3
import Derived.Deep.DeepCutAuto
namespace Go.Proofs.Ytjnphlgmmjdeiaa.DualProgramC
open Go.RowKit
open Go.Proofs.Ytjnphlgmmjdeiaa.Num Go.Proofs.Ytjnphlgmmjdeiaa.IntRow Go.Proofs.Ytjnphlgmmjdeiaa.Grid Go.Proofs.Ytjnphlgmmjdeiaa.GridMore Go.Proofs.Ytjnphlgmmjdeiaa.Rdr Go.Proofs.Ytjnphlgmmjdeiaa.HasL Go.Proofs.Ytjnphlgmmjdeiaa.LawKit Go.Proofs.Ytjnphlgmmjdeiaa.Rats Go.Proofs.Ytjnphlgmmjdeiaa.RatRow Go.Proofs.Ytjnphlgmmjdeiaa.RatOwn Go.Proofs.Ytjnphlgmmjdeiaa.GridQ Go.Proofs.Ytjnphlgmmjdeiaa.Keep Go.Proofs.Ytjnphlgmmjdeiaa.Kept Go.Proofs.Ytjnphlgmmjdeiaa.Thaw Go.Proofs.Ytjnphlgmmjdeiaa.RatsF Go.Proofs.Ytjnphlgmmjdeiaa.RatsSS Go.Proofs.Ytjnphlgmmjdeiaa.Lp Go.Proofs.Ytjnphlgmmjdeiaa.LpO
set_option linter.unusedVariables false

set_option maxRecDepth 100000 in
set_option maxHeartbeats 4000000 in
theorem core (cs : List Value) (x y : LpD) (ok : Bool) (w : World) (ht : szLp x ≤ 1048576) (hy : szLp y ≤ 1048576) (r : rLp w 0 w.heap.size cs x)
    (S : RowKit.Hid (∀ (W : World) (ds : List Value), rLp W 0 W.heap.size ds x → Calls Try.prog 50 #[.agg ds.toArray] W fun e w' => ∃ m vA vB vC vs, e = .returned (.tuple #[.agg #[vA, vB, vC], .bool ok]) ∧ LpOwn w' W.heap.size m vA vB vC vs y ∧ Below W.heap.size W w'))
    (I : RowKit.Hid (∀ (W : World) (ds : List Value), rLp W 0 W.heap.size ds x → Calls Try.prog 31 #[.agg ds.toArray] W fun e w' => ∃ m vA vB vC vs, e = .returned (.tuple #[.agg #[vA, vB, vC], .bool ok]) ∧ LpOwn w' W.heap.size m vA vB vC vs y ∧ Below W.heap.size W w')) :
    Calls Try.prog 12 #[.agg cs.toArray] w fun e w' => e = .returned (.bool true) ∧ Below w.heap.size w w' := by
  obtain ⟨a, cap, o, capo, u, capu, hcs, _⟩ := lp_open r
  subst hcs
  have P := hid (hasl_new w [.slice a x.1.length cap, .slice o x.2.1.length capo, .slice u x.2.2.length capu] 57)
  have B := hid ((Below.refl w.heap.size w).alloc (by simp) (.cells #[.slice a x.1.length cap, .slice o x.2.1.length capo, .slice u x.2.2.length capu] 57))
  obtain ⟨n1, n2, n3, n4, n5⟩ := lp_sizes ht
  obtain ⟨m1, m2, m3, m4, m5⟩ := lp_sizes hy
  have hneO : (ok != ok) = false := by simp
  have t_sz : ¬ (((1048576 - (szLp x : Nat) : Int)) < 0) := by omega
  go_enter Try.func12, Try.ntmps12
  obtain ⟨c0_1, c1_1, c2_1, f0_1, f1_1, f2_1, z_1⟩ := HasL.three P.out
  go_wp2_with fail
  refine (sz_lp _ x 0 w.heap.size (1048576) (1048576 - (szLp x : Nat)) _ (by omega) (by omega) (good_lp.keep r (sm_below B.out (Nat.le_refl _))) B.out.size (hid (.inr ⟨by omega, by omega⟩))).mono ?_
  rintro e w1 ⟨rfl, hb⟩
  clear c0_1 c1_1 c2_1 f0_1 f1_1 f2_1 z_1
  have s_w1 := hb.size
  (try simp only [World.size_alloc] at s_w1)
  replace P := hid (P.out.below hb)
  replace B := hid (B.out.trans (hb.mono B.out.size))
  clear hb
  obtain ⟨c0_2, c1_2, c2_2, f0_2, f1_2, f2_2, z_2⟩ := HasL.three P.out
  go_wp2_with fail
  refine (to_lp _ x 0 w.heap.size _ (by omega) (good_lp.keep r (sm_below B.out (Nat.le_refl _))) B.out.size).mono ?_
  rintro e w2 ⟨ds, rfl, hd, hb⟩
  clear c0_2 c1_2 c2_2 f0_2 f1_2 f2_2 z_2
  have s_w2 := hb.size
  (try simp only [World.size_alloc] at s_w2)
  replace P := hid (P.out.below hb)
  replace B := hid (B.out.trans (hb.mono B.out.size))
  clear hb
  (try simp only [World.size_alloc] at hd)
  obtain ⟨ap, capp, op, capop, up, capup, hds, _⟩ := lp_open hd
  subst hds
  have Xs := hid hd
  clear hd
  go_wp2_with fail
  refine (S.out _ _ (good_lp.up Xs.out (Nat.zero_le _) (by (try simp only [World.size_alloc]); omega))).mono ?_
  rintro e w3 ⟨mV, vA, vB, vC, vsV, rfl, hown, hb⟩
  have s_w3 := hb.size
  (try simp only [World.size_alloc] at s_w3)
  replace P := hid (P.out.below hb)
  replace Xs := hid (good_lp.keep Xs.out (sm_below hb (by (try simp only [World.size_alloc]); omega)))
  replace B := hid (B.out.trans (hb.mono B.out.size))
  clear hb
  (try simp only [World.size_alloc] at hown)
  obtain ⟨aV, capV, hv, _⟩ := hown.a.form; subst hv
  obtain ⟨oV, capoV, hv, _⟩ := hown.b.form; subst hv
  obtain ⟨uV, capuV, hv, _⟩ := hown.c.form; subst hv
  have V := hid hown
  have UV := hid (lpown_under hown)
  have hmV := hown.le2
  have hlV := hown.le
  clear hown
  clear Xs
  obtain ⟨c0_3, c1_3, c2_3, f0_3, f1_3, f2_3, z_3⟩ := HasL.three P.out
  go_wp2_with fail
  clear c0_3 c1_3 c2_3 f0_3 f1_3 f2_3 z_3
  replace P := hid (P.out.alloc (.cells #[.slice aV y.1.length capV, .slice oV y.2.1.length capoV, .slice uV y.2.2.length capuV] 32))
  replace V := hid (V.out.alloc (.cells #[.slice aV y.1.length capV, .slice oV y.2.1.length capoV, .slice uV y.2.2.length capuV] 32))
  replace B := hid (B.out.alloc B.out.size (.cells #[.slice aV y.1.length capV, .slice oV y.2.1.length capoV, .slice uV y.2.2.length capuV] 32))
  have OV := hid (hasl_new w3 [.slice aV y.1.length capV, .slice oV y.2.1.length capoV, .slice uV y.2.2.length capuV] 32)
  refine (to_lpF _ x 0 w.heap.size _ (by omega) (good_lp.keep r (sm_below B.out (Nat.le_refl _))) B.out.size).mono ?_
  rintro e w4 ⟨ds, rfl, hd, hbf⟩
  have hb := hbf.toBelow
  have ht0 := hbf.thw w4.heap.size
  have s_w4 := hb.size
  (try simp only [World.size_alloc] at s_w4)
  replace P := hid (P.out.below hb)
  replace V := hid (V.out.below' hb)
  replace OV := hid (OV.out.below hb)
  replace B := hid (B.out.trans (hb.mono B.out.size))
  clear hb
  (try simp only [World.size_alloc] at hd ht0)
  obtain ⟨ax, capx, ox, capox, ux, capux, hds, _⟩ := lp_open hd
  subst hds
  have X := hid hd
  have Th := hid ht0
  clear hbf ht0
  clear hd
  go_wp2_with fail
  replace P := hid (P.out.alloc (.cells #[.slice ax x.1.length capx, .slice ox x.2.1.length capox, .slice ux x.2.2.length capux] 32))
  replace V := hid (V.out.alloc (.cells #[.slice ax x.1.length capx, .slice ox x.2.1.length capox, .slice ux x.2.2.length capux] 32))
  replace OV := hid (OV.out.alloc (.cells #[.slice ax x.1.length capx, .slice ox x.2.1.length capox, .slice ux x.2.2.length capux] 32))
  replace X := hid (good_lp.keep X.out (sm_below ((Below.refl _ _).alloc (Nat.le_refl _) (.cells #[.slice ax x.1.length capx, .slice ox x.2.1.length capox, .slice ux x.2.2.length capux] 32)) (by (try simp only [World.size_alloc]); omega)))
  replace Th := hid (Th.out.nf (Nf.alloc _ (.cells #[.slice ax x.1.length capx, .slice ox x.2.1.length capox, .slice ux x.2.2.length capux] 32) ⟨_, _, rfl⟩))
  replace B := hid (B.out.alloc B.out.size (.cells #[.slice ax x.1.length capx, .slice ox x.2.1.length capox, .slice ux x.2.2.length capux] 32))
  have Q := hid (hasl_new w4 [.slice ax x.1.length capx, .slice ox x.2.1.length capox, .slice ux x.2.2.length capux] 32)
  refine (I.out _ _ (good_lp.up X.out (Nat.zero_le _) (by (try simp only [World.size_alloc]); omega))).mono ?_
  rintro e w5 ⟨mG, vA, vB, vC, vsG, rfl, hown, hb⟩
  have s_w5 := hb.size
  (try simp only [World.size_alloc] at s_w5)
  replace P := hid (P.out.below hb)
  replace V := hid (V.out.below' hb)
  replace OV := hid (OV.out.below hb)
  replace X := hid (good_lp.keep X.out (sm_below hb (by (try simp only [World.size_alloc]); omega)))
  replace Th := hid (Th.out.below hb (by (try simp only [World.size_alloc]); omega))
  replace Q := hid (Q.out.below hb)
  replace B := hid (B.out.trans (hb.mono B.out.size))
  clear hb
  (try simp only [World.size_alloc] at hown)
  obtain ⟨aG, capG, hv, _⟩ := hown.a.form; subst hv
  obtain ⟨oG, capoG, hv, _⟩ := hown.b.form; subst hv
  obtain ⟨uG, capuG, hv, _⟩ := hown.c.form; subst hv
  have G := hid hown
  have UG := hid (lpown_under hown)
  have hmG := hown.le2
  have hlG := hown.le
  clear hown
  obtain ⟨c0_4, c1_4, c2_4, f0_4, f1_4, f2_4, z_4⟩ := HasL.three OV.out
  go_wp2_with fail
  clear c0_4 c1_4 c2_4 f0_4 f1_4 f2_4 z_4
  replace P := hid (P.out.alloc (.cells #[.slice aG y.1.length capG, .slice oG y.2.1.length capoG, .slice uG y.2.2.length capuG] 32))
  replace V := hid (V.out.alloc (.cells #[.slice aG y.1.length capG, .slice oG y.2.1.length capoG, .slice uG y.2.2.length capuG] 32))
  replace OV := hid (OV.out.alloc (.cells #[.slice aG y.1.length capG, .slice oG y.2.1.length capoG, .slice uG y.2.2.length capuG] 32))
  replace X := hid (good_lp.keep X.out (sm_below ((Below.refl _ _).alloc (Nat.le_refl _) (.cells #[.slice aG y.1.length capG, .slice oG y.2.1.length capoG, .slice uG y.2.2.length capuG] 32)) (by (try simp only [World.size_alloc]); omega)))
  replace Th := hid (Th.out.nf (Nf.alloc _ (.cells #[.slice aG y.1.length capG, .slice oG y.2.1.length capoG, .slice uG y.2.2.length capuG] 32) ⟨_, _, rfl⟩))
  replace Q := hid (Q.out.alloc (.cells #[.slice aG y.1.length capG, .slice oG y.2.1.length capoG, .slice uG y.2.2.length capuG] 32))
  replace G := hid (G.out.alloc (.cells #[.slice aG y.1.length capG, .slice oG y.2.1.length capoG, .slice uG y.2.2.length capuG] 32))
  replace B := hid (B.out.alloc B.out.size (.cells #[.slice aG y.1.length capG, .slice oG y.2.1.length capoG, .slice uG y.2.2.length capuG] 32))
  have OG := hid (hasl_new w5 [.slice aG y.1.length capG, .slice oG y.2.1.length capoG, .slice uG y.2.2.length capuG] 32)
  refine (eq_lp _ _ y _ _ _ _ _ (by omega) (lpown_rd G.out) (lpown_rd V.out) (Nat.le_refl _) (Nat.le_refl _)).mono ?_
  rintro e w6 ⟨rfl, hb⟩
  have s_w6 := hb.size
  (try simp only [World.size_alloc] at s_w6)
  replace P := hid (P.out.below hb)
  replace V := hid (V.out.below' hb)
  replace OV := hid (OV.out.below hb)
  replace X := hid (good_lp.keep X.out (sm_below hb (by (try simp only [World.size_alloc]); omega)))
  replace Th := hid (Th.out.below hb (by (try simp only [World.size_alloc]); omega))
  replace Q := hid (Q.out.below hb)
  replace G := hid (G.out.below' hb)
  replace OG := hid (OG.out.below hb)
  replace B := hid (B.out.trans (hb.mono B.out.size))
  clear hb
  have R := hid (good_lp.keep r (sm_below B.out (Nat.le_refl _)))
  have XR := hid (good_lp.up X.out (hi' := w6.heap.size) (Nat.zero_le _) (by (try simp only [World.size_alloc]); omega))
  obtain ⟨c0_5, c1_5, c2_5, f0_5, f1_5, f2_5, z_5⟩ := HasL.three Q.out
  obtain ⟨c0_6, c1_6, c2_6, f0_6, f1_6, f2_6, z_6⟩ := HasL.three P.out
  have hk0 := kp_refl w6
  go_upto_region 10 with fail
  go_cut [45] (fun s wx => s = .bool false ∧ Kp w6 0 wx)
  case first =>
    go_region_held3 (fun w' => w'.cell? ⟨w.heap.size, 0, none⟩ = some (.slice a x.1.length cap) ∧ w'.cell? ⟨w.heap.size, 1, none⟩ = some (.slice o x.2.1.length capo) ∧ w'.cell? ⟨w.heap.size, 2, none⟩ = some (.slice u x.2.2.length capu) ∧ w'.cell? ⟨w4.heap.size, 0, none⟩ = some (.slice ax x.1.length capx) ∧ w'.cell? ⟨w4.heap.size, 1, none⟩ = some (.slice ox x.2.1.length capox) ∧ w'.cell? ⟨w4.heap.size, 2, none⟩ = some (.slice ux x.2.2.length capux) ∧ Kp w6 0 w')
      (first
        | (go_split_ands
           repeat' apply And.intro
           all_goals (first | (with_reducible assumption) | (with_reducible exact cell_drew (by assumption)) | (with_reducible exact Kp.drew (by assumption)) | (with_reducible exact Kp.cell (by assumption) hb1 (by omega) (by assumption)) | (with_reducible exact Kp.call (by assumption) hb1))))
      (first
        | (go_split_ands; go_at_call 45; (with_reducible refine (to_lp _ x 0 w.heap.size _ (by omega) (gd_kp good_lp R.out (by with_reducible assumption) (by omega)) (kp_le (by with_reducible assumption) (by omega))).mono ?_); rintro e wT ⟨dsT, rfl, hdT, hb1⟩; obtain ⟨aT, capT, oT, capoT, uT, capuT, hdsT, _⟩ := lp_open hdT; subst hdsT; have HT := hid hdT; clear hdT)
        | (go_split_ands; go_at_call 46; (with_reducible refine (eq_lp _ _ x 0 w6.heap.size _ wT.heap.size _ (by omega) (gd_kp good_lp XR.out (by with_reducible assumption) (Nat.le_refl _)) (by first | exact HT.out | exact good_lp.drew HT.out) (kp_le (by with_reducible assumption) (Nat.le_refl _)) (by first | exact Nat.le_refl _ | simp)).mono ?_); rintro e wU ⟨rfl, hb1⟩))
    all_goals
      go_wp2_with fail
      go_meet
      go_split_ands
      exact ⟨rfl, by with_reducible assumption⟩
  case rest =>
    obtain ⟨rfl, hk⟩ := hcut
    obtain ⟨w7, rfl⟩ : ∃ wo : World, wo = wc := ⟨_, rfl⟩
    clear hk0 R XR
    clear c0_5 c1_5 c2_5 f0_5 f1_5 f2_5 z_5
    clear c0_6 c1_6 c2_6 f0_6 f1_6 f2_6 z_6
    have hb := hk.bel
    clear hk
    have s_w7 := hb.size
    (try simp only [World.size_alloc] at s_w7)
    replace P := hid (P.out.below hb)
    replace V := hid (V.out.below' hb)
    replace OV := hid (OV.out.below hb)
    replace X := hid (good_lp.keep X.out (sm_below hb (by (try simp only [World.size_alloc]); omega)))
    replace Th := hid (Th.out.below hb (by (try simp only [World.size_alloc]); omega))
    replace Q := hid (Q.out.below hb)
    replace G := hid (G.out.below' hb)
    replace OG := hid (OG.out.below hb)
    replace B := hid (B.out.trans (hb.mono B.out.size))
    clear hb
    obtain ⟨c0_7, c1_7, c2_7, f0_7, f1_7, f2_7, z_7⟩ := HasL.three Q.out
    go_wp2_with fail
    refine (mark_lpA _ x (w3.heap.size + 1) (w4.heap.size) 1 _ (by omega) (by omega) (by omega) X.out (by omega) Th.out).mono ?_
    rintro e w8 ⟨rfl, hkt⟩
    clear c0_7 c1_7 c2_7 f0_7 f1_7 f2_7 z_7
    have ht := hkt.toTurn
    clear hkt
    clear X
    clear Th
    replace P := hid (hasl_turned P.out ht (by omega))
    replace V := hid (lpown_turned V.out ht (.inr (UV.out.mono (by omega))))
    replace OV := hid (hasl_turned OV.out ht (by omega))
    replace Q := hid (hasl_turned Q.out ht (by omega))
    replace G := hid (lpown_turned G.out ht (.inl (by omega)))
    replace OG := hid (hasl_turned OG.out ht (by omega))
    replace B := hid (B.out.trans ((ht.below (by omega)).mono (by omega)))
    have s_t8 := ht.size
    clear ht
    have t_k : ¬ ((1 : Int) + 2 * (wM x.1 : Nat) + 2 * (x.2.1.length : Nat) + 2 * (x.2.2.length : Nat) < 0) := by omega
    obtain ⟨c0_8, c1_8, c2_8, f0_8, f1_8, f2_8, z_8⟩ := HasL.three OG.out
    obtain ⟨c0_9, c1_9, c2_9, f0_9, f1_9, f2_9, z_9⟩ := HasL.three OV.out
    go_wp2_with fail
    refine (eq_lp _ _ y _ _ _ _ _ (by omega) (lpown_rd G.out) (lpown_rd V.out) (Nat.le_refl _) (Nat.le_refl _)).mono ?_
    rintro e w9 ⟨rfl, hb⟩
    clear c0_8 c1_8 c2_8 f0_8 f1_8 f2_8 z_8
    clear c0_9 c1_9 c2_9 f0_9 f1_9 f2_9 z_9
    have s_w9 := hb.size
    (try simp only [World.size_alloc] at s_w9)
    replace P := hid (P.out.below hb)
    replace V := hid (V.out.below' hb)
    replace OV := hid (OV.out.below hb)
    replace Q := hid (Q.out.below hb)
    replace G := hid (G.out.below' hb)
    replace OG := hid (OG.out.below hb)
    replace B := hid (B.out.trans (hb.mono B.out.size))
    clear hb
    clear Q
    have hneg : ¬ ((1 : Int) + 2 * (wM y.1 : Nat) + 2 * (y.2.1.length : Nat) + 2 * (y.2.2.length : Nat) < 0) := by omega
    have hsame : (((1 : Int) + 2 * (wM y.1 : Nat) + 2 * (y.2.1.length : Nat) + 2 * (y.2.2.length : Nat)) != ((1 : Int) + 2 * (wM y.1 : Nat) + 2 * (y.2.1.length : Nat) + 2 * (y.2.2.length : Nat))) = false := by simp
    obtain ⟨c0_10, c1_10, c2_10, f0_10, f1_10, f2_10, z_10⟩ := HasL.three OG.out
    go_wp2_with fail
    refine (mark_lp _ mG w5.heap.size _ _ _ _ 1 y _ m1 m2 m4 m5 (by omega) (by omega) G.out UG.out (by omega) (by omega)).mono ?_
    rintro e w10 ⟨yss, rfl, hown, hm, ht⟩
    clear c0_10 c1_10 c2_10 f0_10 f1_10 f2_10 z_10
    have HM := hid hm
    clear hm G
    replace P := hid (hasl_turned P.out ht (by omega))
    replace V := hid (lpown_turned V.out ht (.inr (UV.out.mono (by omega))))
    replace OV := hid (hasl_turned OV.out ht (by omega))
    replace OG := hid (hasl_turned OG.out ht (by omega))
    replace B := hid (B.out.trans ((ht.below (by omega)).mono (by omega)))
    have s_t10 := ht.size
    clear ht
    have G := hid hown
    clear hown
    obtain ⟨c0_11, c1_11, c2_11, f0_11, f1_11, f2_11, z_11⟩ := HasL.three OG.out
    go_wp2_with fail
    refine (held_lp _ _ _ _ _ _ 1 y yss _ m1 m2 m4 m5 (by omega) (by omega) HM.out G.out).mono ?_
    rintro e w11 ⟨rfl, hb⟩
    clear c0_11 c1_11 c2_11 f0_11 f1_11 f2_11 z_11
    have s_w11 := hb.size
    (try simp only [World.size_alloc] at s_w11)
    replace P := hid (P.out.below hb)
    replace V := hid (V.out.below' hb)
    replace OV := hid (OV.out.below hb)
    replace OG := hid (OG.out.below hb)
    replace G := hid (G.out.below' hb)
    replace B := hid (B.out.trans (hb.mono B.out.size))
    clear hb
    obtain ⟨c0_12, c1_12, c2_12, f0_12, f1_12, f2_12, z_12⟩ := HasL.three P.out
    go_wp2_with fail
    refine (to_lp _ x 0 w.heap.size _ (by omega) (good_lp.keep r (sm_below B.out (Nat.le_refl _))) B.out.size).mono ?_
    rintro e w12 ⟨ds, rfl, hd, hb⟩
    clear c0_12 c1_12 c2_12 f0_12 f1_12 f2_12 z_12
    have s_w12 := hb.size
    (try simp only [World.size_alloc] at s_w12)
    replace P := hid (P.out.below hb)
    replace V := hid (V.out.below' hb)
    replace OV := hid (OV.out.below hb)
    replace OG := hid (OG.out.below hb)
    replace G := hid (G.out.below' hb)
    replace B := hid (B.out.trans (hb.mono B.out.size))
    clear hb
    (try simp only [World.size_alloc] at hd)
    obtain ⟨ah, caph, oh, capoh, uh, capuh, hds, _⟩ := lp_open hd
    subst hds
    have Xh := hid hd
    clear hd
    go_wp2_with fail
    refine (I.out _ _ (good_lp.up Xh.out (Nat.zero_le _) (by (try simp only [World.size_alloc]); omega))).mono ?_
    rintro e w13 ⟨mH, vA, vB, vC, vsH, rfl, hown, hb⟩
    have s_w13 := hb.size
    (try simp only [World.size_alloc] at s_w13)
    replace P := hid (P.out.below hb)
    replace V := hid (V.out.below' hb)
    replace OV := hid (OV.out.below hb)
    replace OG := hid (OG.out.below hb)
    replace G := hid (G.out.below' hb)
    replace Xh := hid (good_lp.keep Xh.out (sm_below hb (by (try simp only [World.size_alloc]); omega)))
    replace B := hid (B.out.trans (hb.mono B.out.size))
    clear hb
    (try simp only [World.size_alloc] at hown)
    obtain ⟨aH, capH, hv, _⟩ := hown.a.form; subst hv
    obtain ⟨oH, capoH, hv, _⟩ := hown.b.form; subst hv
    obtain ⟨uH, capuH, hv, _⟩ := hown.c.form; subst hv
    have H := hid hown
    have UH := hid (lpown_under hown)
    have hmH := hown.le2
    have hlH := hown.le
    clear hown
    clear Xh
    obtain ⟨c0_13, c1_13, c2_13, f0_13, f1_13, f2_13, z_13⟩ := HasL.three OV.out
    go_wp2_with fail
    clear c0_13 c1_13 c2_13 f0_13 f1_13 f2_13 z_13
    replace P := hid (P.out.alloc (.cells #[.slice aH y.1.length capH, .slice oH y.2.1.length capoH, .slice uH y.2.2.length capuH] 32))
    replace V := hid (V.out.alloc (.cells #[.slice aH y.1.length capH, .slice oH y.2.1.length capoH, .slice uH y.2.2.length capuH] 32))
    replace OV := hid (OV.out.alloc (.cells #[.slice aH y.1.length capH, .slice oH y.2.1.length capoH, .slice uH y.2.2.length capuH] 32))
    replace OG := hid (OG.out.alloc (.cells #[.slice aH y.1.length capH, .slice oH y.2.1.length capoH, .slice uH y.2.2.length capuH] 32))
    replace G := hid (G.out.alloc (.cells #[.slice aH y.1.length capH, .slice oH y.2.1.length capoH, .slice uH y.2.2.length capuH] 32))
    replace H := hid (H.out.alloc (.cells #[.slice aH y.1.length capH, .slice oH y.2.1.length capoH, .slice uH y.2.2.length capuH] 32))
    replace B := hid (B.out.alloc B.out.size (.cells #[.slice aH y.1.length capH, .slice oH y.2.1.length capoH, .slice uH y.2.2.length capuH] 32))
    have OH := hid (hasl_new w13 [.slice aH y.1.length capH, .slice oH y.2.1.length capoH, .slice uH y.2.2.length capuH] 32)
    refine (eq_lp _ _ y _ _ _ _ _ (by omega) (lpown_rd H.out) (lpown_rd V.out) (Nat.le_refl _) (Nat.le_refl _)).mono ?_
    rintro e w14 ⟨rfl, hb⟩
    have s_w14 := hb.size
    (try simp only [World.size_alloc] at s_w14)
    replace P := hid (P.out.below hb)
    replace V := hid (V.out.below' hb)
    replace OV := hid (OV.out.below hb)
    replace OG := hid (OG.out.below hb)
    replace G := hid (G.out.below' hb)
    replace H := hid (H.out.below' hb)
    replace OH := hid (OH.out.below hb)
    replace B := hid (B.out.trans (hb.mono B.out.size))
    clear hb
    obtain ⟨c0_14, c1_14, c2_14, f0_14, f1_14, f2_14, z_14⟩ := HasL.three OG.out
    go_wp2_with fail
    refine (held_lp _ _ _ _ _ _ 1 y yss _ m1 m2 m4 m5 (by omega) (by omega) HM.out G.out).mono ?_
    rintro e w15 ⟨rfl, hb⟩
    clear c0_14 c1_14 c2_14 f0_14 f1_14 f2_14 z_14
    have s_w15 := hb.size
    (try simp only [World.size_alloc] at s_w15)
    replace P := hid (P.out.below hb)
    replace V := hid (V.out.below' hb)
    replace OV := hid (OV.out.below hb)
    replace OG := hid (OG.out.below hb)
    replace G := hid (G.out.below' hb)
    replace H := hid (H.out.below' hb)
    replace OH := hid (OH.out.below hb)
    replace B := hid (B.out.trans (hb.mono B.out.size))
    clear hb
    go_wp2_with fail
    go_ret
    exact ⟨rfl, B.out⟩

set_option maxRecDepth 100000 in
theorem walk (cs : List Value) (x : LpD) (w : World) (r : rLp w 0 w.heap.size cs x) (SI : szLp x ≤ 1048576 → ∃ (y : LpD) (ok : Bool), szLp y ≤ 1048576 ∧ (∀ (W : World) (ds : List Value), rLp W 0 W.heap.size ds x → Calls Try.prog 50 #[.agg ds.toArray] W fun e w' => ∃ m vA vB vC vs, e = .returned (.tuple #[.agg #[vA, vB, vC], .bool ok]) ∧ LpOwn w' W.heap.size m vA vB vC vs y ∧ Below W.heap.size W w') ∧ (∀ (W : World) (ds : List Value), rLp W 0 W.heap.size ds x → Calls Try.prog 31 #[.agg ds.toArray] W fun e w' => ∃ m vA vB vC vs, e = .returned (.tuple #[.agg #[vA, vB, vC], .bool ok]) ∧ LpOwn w' W.heap.size m vA vB vC vs y ∧ Below W.heap.size W w')) :
    Calls Try.prog 12 #[.agg cs.toArray] w fun e w' => e = .returned (.bool true) ∧ Below w.heap.size w w' := by
  by_cases ht : 1048576 < szLp x
  · clear SI
    obtain ⟨a, cap, o, capo, u, capu, hcs, _⟩ := lp_open r
    subst hcs
    have P := hid (hasl_new w [.slice a x.1.length cap, .slice o x.2.1.length capo, .slice u x.2.2.length capu] 57)
    have B := hid ((Below.refl w.heap.size w).alloc (by simp) (.cells #[.slice a x.1.length cap, .slice o x.2.1.length capo, .slice u x.2.2.length capu] 57))
    go_enter Try.func12, Try.ntmps12
    obtain ⟨c0_15, c1_15, c2_15, f0_15, f1_15, f2_15, z_15⟩ := HasL.three P.out
    go_wp2_with fail
    refine (sz_lp _ x 0 w.heap.size (1048576) (-1) _ (by omega) (by omega) (good_lp.keep r (sm_below B.out (Nat.le_refl _))) B.out.size (hid (.inl ⟨by omega, rfl⟩))).mono ?_
    rintro e w1 ⟨rfl, hb⟩
    clear c0_15 c1_15 c2_15 f0_15 f1_15 f2_15 z_15
    have s_w1 := hb.size
    (try simp only [World.size_alloc] at s_w1)
    replace P := hid (P.out.below hb)
    replace B := hid (B.out.trans (hb.mono B.out.size))
    clear hb
    go_wp2
    go_ret
    exact ⟨rfl, B.out⟩
  · obtain ⟨y, ok, hy, S, I⟩ := SI (by omega)
    exact core cs x y ok w (by omega) hy r (hid S) (hid I)
end Go.Proofs.Ytjnphlgmmjdeiaa.DualProgramC
