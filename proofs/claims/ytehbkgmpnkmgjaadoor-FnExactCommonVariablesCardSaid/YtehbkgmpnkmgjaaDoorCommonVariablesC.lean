/- The walk of law FnExactCommonVariables, at every argument, out of the contracts of the model's function and the program's. -/
import Derived.Test.YtehbkgmpnkmgjaaDoorMarkA
import Derived.Test.YtehbkgmpnkmgjaaDoorRelLaw
import Derived.Test.YtehbkgmpnkmgjaaDoorRelKit
import Derived.Test.YtehbkgmpnkmgjaaDoorLawKit
import Derived.Deep.RegionHeld3
import Derived.Deep.DeepCutAuto
namespace Go.Proofs.YtehbkgmpnkmgjaaDoor.CommonVariablesC
open Go.RowKit
open Go.Proofs.YtehbkgmpnkmgjaaDoor.Num Go.Proofs.YtehbkgmpnkmgjaaDoor.IntRow Go.Proofs.YtehbkgmpnkmgjaaDoor.IntLaw Go.Proofs.YtehbkgmpnkmgjaaDoor.Grid Go.Proofs.YtehbkgmpnkmgjaaDoor.GridMore Go.Proofs.YtehbkgmpnkmgjaaDoor.GridLaw Go.Proofs.YtehbkgmpnkmgjaaDoor.GridLaw2 Go.Proofs.YtehbkgmpnkmgjaaDoor.RelLaw Go.Proofs.YtehbkgmpnkmgjaaDoor.RelKit Go.Proofs.YtehbkgmpnkmgjaaDoor.Rdr Go.Proofs.YtehbkgmpnkmgjaaDoor.Dat Go.Proofs.YtehbkgmpnkmgjaaDoor.HasL Go.Proofs.YtehbkgmpnkmgjaaDoor.LawKit Go.Proofs.YtehbkgmpnkmgjaaDoor.AtomLaw Go.Proofs.YtehbkgmpnkmgjaaDoor.QueryLaw Go.Proofs.YtehbkgmpnkmgjaaDoor.TableLaw Go.Proofs.YtehbkgmpnkmgjaaDoor.Keep Go.Proofs.YtehbkgmpnkmgjaaDoor.Kept Go.Proofs.YtehbkgmpnkmgjaaDoor.Cells Go.Proofs.YtehbkgmpnkmgjaaDoor.Thaw Go.Proofs.YtehbkgmpnkmgjaaDoor.ToF Go.Proofs.YtehbkgmpnkmgjaaDoor.MarkA
set_option linter.unusedVariables false

set_option maxRecDepth 100000 in
set_option maxHeartbeats 4000000 in
theorem core (cs0 : List Value) (x0 : AtomD) (cs1 : List Value) (x1 : AtomD) (zs : List Int) (w : World) (ht : szA x0 + szA x1 ≤ 1048576) (hz : zs.length ≤ 1048576)  (r0 : rAtom w 0 w.heap.size cs0 x0) (r1 : rAtom w 0 w.heap.size cs1 x1)
    (S : RowKit.Hid (∀ (W : World) (d0 : List Value) (d1 : List Value), rAtom W 0 W.heap.size d0 x0 → rAtom W 0 W.heap.size d1 x1 → Below w.heap.size w W → Calls Tryd.prog 24 #[.agg d0.toArray, .agg d1.toArray] W fun e w' => ∃ a cap, e = .returned (.slice a zs.length cap) ∧ Own w' W.heap.size 3 (.slice a zs.length cap) zs ∧ Below W.heap.size W w'))
    (I : RowKit.Hid (∀ (W : World) (d0 : List Value) (d1 : List Value), rAtom W 0 W.heap.size d0 x0 → rAtom W 0 W.heap.size d1 x1 → Below w.heap.size w W → Calls Tryd.prog 26 #[.agg d0.toArray, .agg d1.toArray] W fun e w' => ∃ a cap, e = .returned (.slice a zs.length cap) ∧ Own w' W.heap.size 3 (.slice a zs.length cap) zs ∧ Below W.heap.size W w')) :
    Calls Tryd.prog 5 #[.agg cs0.toArray, .agg cs1.toArray] w fun e w' => e = .returned (.bool true) ∧ Below w.heap.size w w' := by
  obtain ⟨a0, cap0, hcs0, _⟩ := atom_open r0
  subst hcs0
  obtain ⟨a1, cap1, hcs1, _⟩ := atom_open r1
  subst hcs1
  have P0 := hid (hasl_new w [.string x0.1, .slice a0 x0.2.length cap0] 43)
  have P1 := hid (hasl_new (w.alloc (.cells #[.string x0.1, .slice a0 x0.2.length cap0] 43)) [.string x1.1, .slice a1 x1.2.length cap1] 43)
  replace P0 := hid (P0.out.alloc (.cells #[.string x1.1, .slice a1 x1.2.length cap1] 43))
  simp only [World.size_alloc] at P1
  have B := hid (((Below.refl w.heap.size w).alloc (by simp) (.cells #[.string x0.1, .slice a0 x0.2.length cap0] 43)).alloc (by simp) (.cells #[.string x1.1, .slice a1 x1.2.length cap1] 43))
  have hmk0 : x0.2.length ≤ 1048576 := by have h : szA x0 ≤ 1048576 := (by omega); unfold szA at h; omega
  have hmk1 : x1.2.length ≤ 1048576 := by have h : szA x1 ≤ 1048576 := (by omega); unfold szA at h; omega
  go_enter Tryd.func5, Tryd.ntmps5
  have t_sz0 : ¬ ((1048576 - (szA x0 : Nat) : Int) < 0) := by omega
  obtain ⟨c0_1, c1_1, f0_1, f1_1, z_1⟩ := HasL.two P0.out
  go_wp2_with fail
  with_reducible refine (sz_atom _ x0 0 w.heap.size (1048576) (1048576 - (szA x0 : Nat)) _ (by omega) (by omega) (good_atom.keep r0 (sm_below B.out (Nat.le_refl _))) (hid (.inr ⟨by omega, by omega⟩))).mono ?_
  rintro e w1 ⟨rfl, hb⟩
  clear c0_1 c1_1 f0_1 f1_1 z_1
  have s_w1 := hb.size
  (try simp only [World.size_alloc] at s_w1)
  replace P0 := hid (P0.out.below hb)
  replace P1 := hid (P1.out.below hb)
  replace B := hid (B.out.trans (hb.mono B.out.size))
  clear hb
  have t_sz1 : ¬ ((1048576 - (szA x0 : Nat) - (szA x1 : Nat) : Int) < 0) := by omega
  obtain ⟨c0_2, c1_2, f0_2, f1_2, z_2⟩ := HasL.two P1.out
  go_wp2_with fail
  with_reducible refine (sz_atom _ x1 0 w.heap.size (1048576 - (szA x0 : Nat)) (1048576 - (szA x0 : Nat) - (szA x1 : Nat)) _ (by omega) (by omega) (good_atom.keep r1 (sm_below B.out (Nat.le_refl _))) (hid (.inr ⟨by omega, by omega⟩))).mono ?_
  rintro e w2 ⟨rfl, hb⟩
  clear c0_2 c1_2 f0_2 f1_2 z_2
  have s_w2 := hb.size
  (try simp only [World.size_alloc] at s_w2)
  replace P0 := hid (P0.out.below hb)
  replace P1 := hid (P1.out.below hb)
  replace B := hid (B.out.trans (hb.mono B.out.size))
  clear hb
  have R0 := hid (good_atom.keep r0 (sm_below B.out (Nat.le_refl _)))
  have R1 := hid (good_atom.keep r1 (sm_below B.out (Nat.le_refl _)))
  have hs2V : w.heap.size + 2 ≤ w2.heap.size := by have := P1.out.1; omega
  obtain ⟨c0_3, c1_3, f0_3, f1_3, z_3⟩ := HasL.two P0.out
  obtain ⟨c0_4, c1_4, f0_4, f1_4, z_4⟩ := HasL.two P1.out
  have hk2 := kp_refl w2
  have hc2 := B.out.size
  go_upto_region 8 with fail
  go_cut [6] (fun s6 wx => ∃ (a0 : Option Addr) (cap0 : Nat), s6 = .slice a0 zs.length cap0 ∧ Own wx w2.heap.size 3 (.slice a0 zs.length cap0) zs ∧ Kp w2 0 wx)
  case first =>
    go_region_held3 (fun w' => w'.cell? ⟨w.heap.size, 0, none⟩ = some (.string x0.1) ∧ w'.cell? ⟨w.heap.size, 1, none⟩ = some (.slice a0 x0.2.length cap0) ∧ w'.cell? ⟨w.heap.size + 1, 0, none⟩ = some (.string x1.1) ∧ w'.cell? ⟨w.heap.size + 1, 1, none⟩ = some (.slice a1 x1.2.length cap1) ∧ Kp w2 0 w')
      (first
        | (go_split_ands
           repeat' apply And.intro
           all_goals (first | (with_reducible assumption) | (with_reducible exact cell_drew (by assumption)) | (with_reducible exact Kp.drew (by assumption)) | (with_reducible exact Kp.cell (by assumption) hb1 (by omega) (by assumption)) | (with_reducible exact Kp.call (by assumption) hb1) | (with_reducible exact Kp.cell_alloc (by assumption) _ (by omega) (by assumption)) | (with_reducible exact Kp.alloc (by assumption) _) | (with_reducible exact Kp.cell_alloc_drew (by assumption) _ (by omega) (by assumption)) | (with_reducible exact Kp.alloc_drew (by assumption) _) | (with_reducible exact Kp.reall (by assumption) (by omega) _) | (with_reducible exact cell_realloc (by omega) (by assumption) _) | (with_reducible exact cell_set (by assumption) (by omega)) | (with_reducible exact Keep.Kp.set (by assumption) (by omega) _ _))))
      (first | (go_split_ands; go_at_call 25; (with_reducible refine (to_atom _ x0 0 w.heap.size _ (by omega) (gd_kp good_atom R0.out (by with_reducible assumption) (by omega)) (kp_le (by with_reducible assumption) (by omega))).mono ?_); rintro e wA ⟨dsA, rfl, hdA, hb1⟩; have hz0 := hb1.size; (try simp only [World.size_alloc] at hz0); have hz1 : w2.heap.size ≤ wA.heap.size := (by have hk0 : Kp w2 0 _ := (by with_reducible assumption); have hk1 := hk0.sz; (try simp only [World.size_alloc] at hk1); omega); have HA := hid (good_atom.up hdA (Nat.zero_le _) (Nat.le_refl _)); obtain ⟨aA, capA, hdsA, _⟩ := atom_open hdA; subst hdsA; clear hdA; (try (first | (with_reducible have HN := hid (HN.out.below hb1)) | (with_reducible have HN := hid (HN.out.drew.below hb1)) | (with_reducible have HN := hid (new2_kept hb1)) | (with_reducible have HN := hid (new2_kept_drew hb1)))); (try (obtain ⟨m0, m1, mz, m2, m3⟩ := HN.out))) | (go_split_ands; go_at_call 25; (with_reducible refine (to_atom _ x1 0 w.heap.size _ (by omega) (gd_kp good_atom R1.out (by with_reducible assumption) (by omega)) (kp_le (by with_reducible assumption) (by omega))).mono ?_); rintro e wB ⟨dsB, rfl, hdB, hb1⟩; have hz0 := hb1.size; (try simp only [World.size_alloc] at hz0); have hz1 : w2.heap.size ≤ wB.heap.size := (by have hk0 : Kp w2 0 _ := (by with_reducible assumption); have hk1 := hk0.sz; (try simp only [World.size_alloc] at hk1); omega); have HB := hid (good_atom.up hdB (Nat.zero_le _) (Nat.le_refl _)); obtain ⟨aB, capB, hdsB, _⟩ := atom_open hdB; subst hdsB; clear hdB; (try (first | (with_reducible have HA := hid (good_atom.grown HA.out hb1)) | (with_reducible have HA := hid (good_atom.grown_drew HA.out hb1)) | (with_reducible have HA := hid (good_atom.grown (good_atom.grown HA.out ((Below.refl _ _).alloc (Nat.le_refl _) _)) hb1)) | (with_reducible have HA := hid (good_atom.grown_drew (good_atom.grown HA.out ((Below.refl _ _).alloc (Nat.le_refl _) _)) hb1)))); (try (first | (with_reducible have HN := hid (HN.out.below hb1)) | (with_reducible have HN := hid (HN.out.drew.below hb1)) | (with_reducible have HN := hid (new2_kept hb1)) | (with_reducible have HN := hid (new2_kept_drew hb1)))); (try (obtain ⟨m0, m1, mz, m2, m3⟩ := HN.out))) | (go_split_ands; go_at_call 24; (with_reducible refine (S.out _ _ _ (by first | (with_reducible exact HA.out) | (with_reducible exact good_atom.drew HA.out) | (with_reducible exact good_atom.grown HA.out ((Below.refl _ _).alloc (Nat.le_refl _) _)) | (with_reducible exact good_atom.drew (good_atom.grown HA.out ((Below.refl _ _).alloc (Nat.le_refl _) _)))) (by first | (with_reducible exact HB.out) | (with_reducible exact good_atom.drew HB.out) | (with_reducible exact good_atom.grown HB.out ((Below.refl _ _).alloc (Nat.le_refl _) _)) | (with_reducible exact good_atom.drew (good_atom.grown HB.out ((Below.refl _ _).alloc (Nat.le_refl _) _)))) (B.out.trans ((Kp.bel (n := 0) (by with_reducible assumption)).mono hc2))).mono ?_); rintro e wC ⟨a0, cap0, rfl, hown, hb1⟩; have hz0 := hb1.size; (try simp only [World.size_alloc] at hz0); have hz1 : w2.heap.size ≤ wC.heap.size := (by have hk0 : Kp w2 0 _ := (by with_reducible assumption); have hk1 := hk0.sz; (try simp only [World.size_alloc] at hk1); omega); have HO := hid hown; clear hown; (try (first | (with_reducible have HN := hid (HN.out.below hb1)) | (with_reducible have HN := hid (HN.out.drew.below hb1)) | (with_reducible have HN := hid (new2_kept hb1)) | (with_reducible have HN := hid (new2_kept_drew hb1)))); (try (obtain ⟨m0, m1, mz, m2, m3⟩ := HN.out))))
    all_goals
      go_wp2_with fail
      go_meet
      go_split_ands
      first
        | exact ⟨a0, cap0, rfl, HO.out.mono (by (try simp only [World.size_alloc]); omega), by with_reducible assumption⟩
        | exact ⟨a0, cap0, rfl, HO.out.drew.mono (by (try simp only [World.size_alloc]); omega), by with_reducible assumption⟩
  case rest =>
    obtain ⟨aV, capV, rfl, hown, hk⟩ := hcut
    obtain ⟨w3, rfl⟩ : ∃ wo : World, wo = wc := ⟨_, rfl⟩
    have hb := hk.bel
    clear hk hk2 hc2
    clear c0_3 c1_3 f0_3 f1_3 z_3
    clear c0_4 c1_4 f0_4 f1_4 z_4
    have s_w3 := hb.size
    (try simp only [World.size_alloc] at s_w3)
    replace P0 := hid (P0.out.below hb)
    replace P1 := hid (P1.out.below hb)
    replace B := hid (B.out.trans (hb.mono B.out.size))
    clear hb
    clear R0 R1
    have V := hid hown
    have UV := hid (show Under w3.heap.size (.slice aV zs.length capV) from fun k hk => (hown.lt k hk).2)
    have LV := hid hown.lt
    clear hown
    obtain ⟨c0_5, c1_5, f0_5, f1_5, z_5⟩ := HasL.two P0.out
    go_wp2_with fail
    with_reducible refine (to_atomF _ x0 0 w.heap.size _ (by omega) (good_atom.keep r0 (sm_below B.out (Nat.le_refl _))) B.out.size).mono ?_
    rintro e w4 ⟨dsx0, rfl, hd, hbf⟩
    have hb := hbf.toBelow
    have ht0 := hbf.thw w4.heap.size
    clear c0_5 c1_5 f0_5 f1_5 z_5
    have s_w4 := hb.size
    (try simp only [World.size_alloc] at s_w4)
    replace P0 := hid (P0.out.below hb)
    replace P1 := hid (P1.out.below hb)
    replace V := hid (V.out.below' hb)
    replace B := hid (B.out.trans (hb.mono B.out.size))
    clear hb
    (try simp only [World.size_alloc] at hd ht0)
    clear hbf
    obtain ⟨ax0, capx0, hds, _⟩ := atom_open hd
    subst hds
    have X0 := hid hd
    have Th0 := hid ht0
    clear hd ht0
    obtain ⟨c0_6, c1_6, f0_6, f1_6, z_6⟩ := HasL.two P1.out
    go_wp2_with fail
    clear c0_6 c1_6 f0_6 f1_6 z_6
    replace P0 := hid (P0.out.alloc (.cells #[.string x0.1, .slice ax0 x0.2.length capx0] 46))
    replace P1 := hid (P1.out.alloc (.cells #[.string x0.1, .slice ax0 x0.2.length capx0] 46))
    replace V := hid (V.out.alloc (.cells #[.string x0.1, .slice ax0 x0.2.length capx0] 46))
    replace X0 := hid (good_atom.keep X0.out (sm_below ((Below.refl _ _).alloc (Nat.le_refl _) (.cells #[.string x0.1, .slice ax0 x0.2.length capx0] 46)) (by (try simp only [World.size_alloc]); omega)))
    replace Th0 := hid (Th0.out.nf (Nf.alloc _ (.cells #[.string x0.1, .slice ax0 x0.2.length capx0] 46) ⟨_, _, rfl⟩))
    replace B := hid (B.out.alloc B.out.size (.cells #[.string x0.1, .slice ax0 x0.2.length capx0] 46))
    have Q0 := hid (hasl_new w4 [.string x0.1, .slice ax0 x0.2.length capx0] 46)
    with_reducible refine (to_atomF _ x1 0 w.heap.size _ (by omega) (good_atom.keep r1 (sm_below B.out (Nat.le_refl _))) B.out.size).mono ?_
    rintro e w5 ⟨dsx1, rfl, hd, hbf⟩
    have hb := hbf.toBelow
    have ht0 := hbf.thw w5.heap.size
    have s_w5 := hb.size
    (try simp only [World.size_alloc] at s_w5)
    replace P0 := hid (P0.out.below hb)
    replace P1 := hid (P1.out.below hb)
    replace V := hid (V.out.below' hb)
    replace X0 := hid (good_atom.keep X0.out (sm_below hb (by (try simp only [World.size_alloc]); omega)))
    replace Th0 := hid (Th0.out.below hb (by (try simp only [World.size_alloc]); omega))
    replace Q0 := hid (Q0.out.below hb)
    replace B := hid (B.out.trans (hb.mono B.out.size))
    clear hb
    (try simp only [World.size_alloc] at hd ht0)
    clear hbf
    obtain ⟨ax1, capx1, hds, _⟩ := atom_open hd
    subst hds
    have X1 := hid hd
    have Th1 := hid ht0
    clear hd ht0
    obtain ⟨c0_7, c1_7, f0_7, f1_7, z_7⟩ := HasL.two Q0.out
    go_wp2_with fail
    clear c0_7 c1_7 f0_7 f1_7 z_7
    replace P0 := hid (P0.out.alloc (.cells #[.string x1.1, .slice ax1 x1.2.length capx1] 46))
    replace P1 := hid (P1.out.alloc (.cells #[.string x1.1, .slice ax1 x1.2.length capx1] 46))
    replace V := hid (V.out.alloc (.cells #[.string x1.1, .slice ax1 x1.2.length capx1] 46))
    replace X0 := hid (good_atom.keep X0.out (sm_below ((Below.refl _ _).alloc (Nat.le_refl _) (.cells #[.string x1.1, .slice ax1 x1.2.length capx1] 46)) (by (try simp only [World.size_alloc]); omega)))
    replace Th0 := hid (Th0.out.nf (Nf.alloc _ (.cells #[.string x1.1, .slice ax1 x1.2.length capx1] 46) ⟨_, _, rfl⟩))
    replace Q0 := hid (Q0.out.alloc (.cells #[.string x1.1, .slice ax1 x1.2.length capx1] 46))
    replace X1 := hid (good_atom.keep X1.out (sm_below ((Below.refl _ _).alloc (Nat.le_refl _) (.cells #[.string x1.1, .slice ax1 x1.2.length capx1] 46)) (by (try simp only [World.size_alloc]); omega)))
    replace Th1 := hid (Th1.out.nf (Nf.alloc _ (.cells #[.string x1.1, .slice ax1 x1.2.length capx1] 46) ⟨_, _, rfl⟩))
    replace B := hid (B.out.alloc B.out.size (.cells #[.string x1.1, .slice ax1 x1.2.length capx1] 46))
    have Q1 := hid (hasl_new w5 [.string x1.1, .slice ax1 x1.2.length capx1] 46)
    with_reducible refine (I.out _ _ _ (good_atom.up X0.out (Nat.zero_le _) (by (try simp only [World.size_alloc]); omega)) (good_atom.up X1.out (Nat.zero_le _) (by (try simp only [World.size_alloc]); omega)) B.out).mono ?_
    rintro e w6 ⟨aG, capG, rfl, hown, hb⟩
    have s_w6 := hb.size
    (try simp only [World.size_alloc] at s_w6)
    replace P0 := hid (P0.out.below hb)
    replace P1 := hid (P1.out.below hb)
    replace V := hid (V.out.below' hb)
    replace X0 := hid (good_atom.keep X0.out (sm_below hb (by (try simp only [World.size_alloc]); omega)))
    replace Th0 := hid (Th0.out.below hb (by (try simp only [World.size_alloc]); omega))
    replace Q0 := hid (Q0.out.below hb)
    replace X1 := hid (good_atom.keep X1.out (sm_below hb (by (try simp only [World.size_alloc]); omega)))
    replace Th1 := hid (Th1.out.below hb (by (try simp only [World.size_alloc]); omega))
    replace Q1 := hid (Q1.out.below hb)
    replace B := hid (B.out.trans (hb.mono B.out.size))
    clear hb
    (try simp only [World.size_alloc] at hown)
    have G := hid hown
    have UG := hid (show Under w6.heap.size (.slice aG zs.length capG) from fun k hk => (hown.lt k hk).2)
    have LG := hid hown.lt
    clear hown
    go_wp2_with fail
    with_reducible refine (eq_ints _ _ _ _ zs _ _ _ hz (own_rd G.out) (own_rd V.out) (Nat.le_refl _) (Nat.le_refl _)).mono ?_
    rintro e w7 ⟨rfl, hb⟩
    have s_w7 := hb.size
    (try simp only [World.size_alloc] at s_w7)
    replace P0 := hid (P0.out.below hb)
    replace P1 := hid (P1.out.below hb)
    replace V := hid (V.out.below' hb)
    replace X0 := hid (good_atom.keep X0.out (sm_below hb (by (try simp only [World.size_alloc]); omega)))
    replace Th0 := hid (Th0.out.below hb (by (try simp only [World.size_alloc]); omega))
    replace Q0 := hid (Q0.out.below hb)
    replace X1 := hid (good_atom.keep X1.out (sm_below hb (by (try simp only [World.size_alloc]); omega)))
    replace Th1 := hid (Th1.out.below hb (by (try simp only [World.size_alloc]); omega))
    replace Q1 := hid (Q1.out.below hb)
    replace G := hid (G.out.below' hb)
    replace B := hid (B.out.trans (hb.mono B.out.size))
    clear hb
    have R0 := hid (good_atom.keep r0 (sm_below B.out (Nat.le_refl _)))
    have XR0 := hid (good_atom.up X0.out (hi' := w7.heap.size) (Nat.zero_le _) (by (try simp only [World.size_alloc]); omega))
    obtain ⟨c0_8, c1_8, f0_8, f1_8, z_8⟩ := HasL.two Q0.out
    obtain ⟨c0_9, c1_9, f0_9, f1_9, z_9⟩ := HasL.two P0.out
    have hk0 := kp_refl w7
    go_upto_region 14 with fail
    go_cut [44] (fun s wx => s = .bool false ∧ Kp w7 0 wx)
    case first =>
      go_region_held3 (fun w' => w'.cell? ⟨w.heap.size, 0, none⟩ = some (.string x0.1) ∧ w'.cell? ⟨w.heap.size, 1, none⟩ = some (.slice a0 x0.2.length cap0) ∧ w'.cell? ⟨w4.heap.size, 0, none⟩ = some (.string x0.1) ∧ w'.cell? ⟨w4.heap.size, 1, none⟩ = some (.slice ax0 x0.2.length capx0) ∧ Kp w7 0 w')
        (first
          | (go_split_ands
             repeat' apply And.intro
             all_goals (first | (with_reducible assumption) | (with_reducible exact cell_drew (by assumption)) | (with_reducible exact Kp.drew (by assumption)) | (with_reducible exact Kp.cell (by assumption) hb1 (by omega) (by assumption)) | (with_reducible exact Kp.call (by assumption) hb1))))
        (first
          | (go_split_ands; go_at_call 25; (with_reducible refine (to_atom _ x0 0 w.heap.size _ (by omega) (gd_kp good_atom R0.out (by with_reducible assumption) (by omega)) (kp_le (by with_reducible assumption) (by omega))).mono ?_); rintro e wT ⟨dsT, rfl, hdT, hb1⟩; obtain ⟨aT, capT, hdsT, _⟩ := atom_open hdT; subst hdsT; have HT := hid hdT; clear hdT)
          | (go_split_ands; go_at_call 27; (with_reducible refine (eq_atom _ _ x0 0 w7.heap.size _ wT.heap.size _ (by omega) (gd_kp good_atom XR0.out (by with_reducible assumption) (Nat.le_refl _)) (by first | exact HT.out | exact good_atom.drew HT.out) (kp_le (by with_reducible assumption) (Nat.le_refl _)) (by first | exact Nat.le_refl _ | simp)).mono ?_); rintro e wU ⟨rfl, hb1⟩))
      all_goals
        go_wp2_with fail
        go_meet
        go_split_ands
        exact ⟨rfl, by with_reducible assumption⟩
    case rest =>
      obtain ⟨rfl, hk⟩ := hcut
      obtain ⟨w8, rfl⟩ : ∃ wo : World, wo = wc := ⟨_, rfl⟩
      clear hk0 R0 XR0
      clear c0_8 c1_8 f0_8 f1_8 z_8
      clear c0_9 c1_9 f0_9 f1_9 z_9
      have hb := hk.bel
      clear hk
      have s_w8 := hb.size
      (try simp only [World.size_alloc] at s_w8)
      replace P0 := hid (P0.out.below hb)
      replace P1 := hid (P1.out.below hb)
      replace V := hid (V.out.below' hb)
      replace X0 := hid (good_atom.keep X0.out (sm_below hb (by (try simp only [World.size_alloc]); omega)))
      replace Th0 := hid (Th0.out.below hb (by (try simp only [World.size_alloc]); omega))
      replace Q0 := hid (Q0.out.below hb)
      replace X1 := hid (good_atom.keep X1.out (sm_below hb (by (try simp only [World.size_alloc]); omega)))
      replace Th1 := hid (Th1.out.below hb (by (try simp only [World.size_alloc]); omega))
      replace Q1 := hid (Q1.out.below hb)
      replace G := hid (G.out.below' hb)
      replace B := hid (B.out.trans (hb.mono B.out.size))
      clear hb
      have R1 := hid (good_atom.keep r1 (sm_below B.out (Nat.le_refl _)))
      have XR1 := hid (good_atom.up X1.out (hi' := w8.heap.size) (Nat.zero_le _) (by (try simp only [World.size_alloc]); omega))
      obtain ⟨c0_10, c1_10, f0_10, f1_10, z_10⟩ := HasL.two Q1.out
      obtain ⟨c0_11, c1_11, f0_11, f1_11, z_11⟩ := HasL.two P1.out
      have hk0 := kp_refl w8
      go_upto_region 16 with fail
      go_cut [49] (fun s wx => s = .bool false ∧ Kp w8 0 wx)
      case first =>
        go_region_held3 (fun w' => w'.cell? ⟨w.heap.size + 1, 0, none⟩ = some (.string x1.1) ∧ w'.cell? ⟨w.heap.size + 1, 1, none⟩ = some (.slice a1 x1.2.length cap1) ∧ w'.cell? ⟨w5.heap.size, 0, none⟩ = some (.string x1.1) ∧ w'.cell? ⟨w5.heap.size, 1, none⟩ = some (.slice ax1 x1.2.length capx1) ∧ Kp w8 0 w')
          (first
            | (go_split_ands
               repeat' apply And.intro
               all_goals (first | (with_reducible assumption) | (with_reducible exact cell_drew (by assumption)) | (with_reducible exact Kp.drew (by assumption)) | (with_reducible exact Kp.cell (by assumption) hb1 (by omega) (by assumption)) | (with_reducible exact Kp.call (by assumption) hb1))))
          (first
            | (go_split_ands; go_at_call 25; (with_reducible refine (to_atom _ x1 0 w.heap.size _ (by omega) (gd_kp good_atom R1.out (by with_reducible assumption) (by omega)) (kp_le (by with_reducible assumption) (by omega))).mono ?_); rintro e wT ⟨dsT, rfl, hdT, hb1⟩; obtain ⟨aT, capT, hdsT, _⟩ := atom_open hdT; subst hdsT; have HT := hid hdT; clear hdT)
            | (go_split_ands; go_at_call 27; (with_reducible refine (eq_atom _ _ x1 0 w8.heap.size _ wT.heap.size _ (by omega) (gd_kp good_atom XR1.out (by with_reducible assumption) (Nat.le_refl _)) (by first | exact HT.out | exact good_atom.drew HT.out) (kp_le (by with_reducible assumption) (Nat.le_refl _)) (by first | exact Nat.le_refl _ | simp)).mono ?_); rintro e wU ⟨rfl, hb1⟩))
        all_goals
          go_wp2_with fail
          go_meet
          go_split_ands
          exact ⟨rfl, by with_reducible assumption⟩
      case rest =>
        obtain ⟨rfl, hk⟩ := hcut
        obtain ⟨w9, rfl⟩ : ∃ wo : World, wo = wc := ⟨_, rfl⟩
        clear hk0 R1 XR1
        clear c0_10 c1_10 f0_10 f1_10 z_10
        clear c0_11 c1_11 f0_11 f1_11 z_11
        have hb := hk.bel
        clear hk
        have s_w9 := hb.size
        (try simp only [World.size_alloc] at s_w9)
        replace P0 := hid (P0.out.below hb)
        replace P1 := hid (P1.out.below hb)
        replace V := hid (V.out.below' hb)
        replace X0 := hid (good_atom.keep X0.out (sm_below hb (by (try simp only [World.size_alloc]); omega)))
        replace Th0 := hid (Th0.out.below hb (by (try simp only [World.size_alloc]); omega))
        replace Q0 := hid (Q0.out.below hb)
        replace X1 := hid (good_atom.keep X1.out (sm_below hb (by (try simp only [World.size_alloc]); omega)))
        replace Th1 := hid (Th1.out.below hb (by (try simp only [World.size_alloc]); omega))
        replace Q1 := hid (Q1.out.below hb)
        replace G := hid (G.out.below' hb)
        replace B := hid (B.out.trans (hb.mono B.out.size))
        clear hb
        obtain ⟨c0_12, c1_12, f0_12, f1_12, z_12⟩ := HasL.two Q0.out
        go_wp2_with fail
        with_reducible refine (mark_atomA _ x0 (w3.heap.size) (w4.heap.size) (1) _ (by omega) (by omega) (by omega) X0.out (by omega) Th0.out).mono ?_
        rintro e w10 ⟨rfl, hkt⟩
        clear c0_12 c1_12 f0_12 f1_12 z_12
        have ht := hkt.toTurn
        clear hkt
        clear X0
        clear Th0
        replace P0 := hid (hasl_turned P0.out ht (by omega))
        replace P1 := hid (hasl_turned P1.out ht (by omega))
        replace V := hid (own_turned V.out ht (.inr (fun k hk => Nat.lt_of_lt_of_le (UV.out k hk) (by omega))))
        replace Q0 := hid (hasl_turned Q0.out ht (by omega))
        replace X1 := hid (good_atom.keep X1.out (sm_turn ht (by omega) (by omega)))
        replace Th1 := hid (thw_turned Th1.out ht (by omega) (by omega))
        replace Q1 := hid (hasl_turned Q1.out ht (by omega))
        replace G := hid (own_turned G.out ht (.inl (by omega)))
        replace B := hid (B.out.trans ((ht.below (by omega)).mono (by omega)))
        have s_t10 := ht.size
        clear ht
        obtain ⟨c0_13, c1_13, f0_13, f1_13, z_13⟩ := HasL.two Q1.out
        go_wp2_with fail
        with_reducible refine (mark_atomA _ x1 (w4.heap.size + 1) (w5.heap.size) (1 + (x0.2.length : Nat)) _ (by omega) (by omega) (by omega) X1.out (by omega) Th1.out).mono ?_
        rintro e w11 ⟨rfl, hkt⟩
        clear c0_13 c1_13 f0_13 f1_13 z_13
        have ht := hkt.toTurn
        clear hkt
        clear X1
        clear Th1
        replace P0 := hid (hasl_turned P0.out ht (by omega))
        replace P1 := hid (hasl_turned P1.out ht (by omega))
        replace V := hid (own_turned V.out ht (.inr (fun k hk => Nat.lt_of_lt_of_le (UV.out k hk) (by omega))))
        replace Q0 := hid (hasl_turned Q0.out ht (by omega))
        replace Q1 := hid (hasl_turned Q1.out ht (by omega))
        replace G := hid (own_turned G.out ht (.inl (by omega)))
        replace B := hid (B.out.trans ((ht.below (by omega)).mono (by omega)))
        have s_t11 := ht.size
        clear ht
        have t_k : ¬ (1 + (x0.2.length : Nat) + (x1.2.length : Nat) < 0) := by omega
        go_wp2_with fail
        with_reducible refine (eq_ints _ _ _ _ zs _ _ _ hz (own_rd G.out) (own_rd V.out) (Nat.le_refl _) (Nat.le_refl _)).mono ?_
        rintro e w12 ⟨rfl, hb⟩
        have s_w12 := hb.size
        (try simp only [World.size_alloc] at s_w12)
        replace P0 := hid (P0.out.below hb)
        replace P1 := hid (P1.out.below hb)
        replace V := hid (V.out.below' hb)
        replace Q0 := hid (Q0.out.below hb)
        replace Q1 := hid (Q1.out.below hb)
        replace G := hid (G.out.below' hb)
        replace B := hid (B.out.trans (hb.mono B.out.size))
        clear hb
        clear Q0
        clear Q1
        have hneg : ¬ ((1 : Int) + (zs.length : Int) < 0) := by omega
        have hsame : (((1 : Int) + (zs.length : Int)) != ((1 : Int) + (zs.length : Int))) = false := by simp
        go_wp2_with fail
        with_reducible refine (mark_own _ _ 1 zs _ hz (by omega) (by omega) G.out).mono ?_
        rintro e w13 ⟨rfl, hown, hgr⟩
        have ht := Turn.of_grown (lo := w5.heap.size + 1) (hi := w6.heap.size) hgr (fun k hk => by have := LG.out k hk; (try simp only [World.size_alloc] at this); omega)
        clear hgr G
        replace P0 := hid (hasl_turned P0.out ht (by omega))
        replace P1 := hid (hasl_turned P1.out ht (by omega))
        replace V := hid (own_turned V.out ht (.inr (fun k hk => Nat.lt_of_lt_of_le (UV.out k hk) (by omega))))
        replace B := hid (B.out.trans ((ht.below (by omega)).mono (by omega)))
        have s_t13 := ht.size
        clear ht
        have G := hid hown
        clear hown
        have hml := marks_length 1 zs.length
        go_wp2_with fail
        with_reducible refine (held_ints _ _ 1 zs.length _ _ hz (by omega) (by omega) (own_rd' G.out hml)).mono ?_
        rintro e w' ⟨rfl, rfl⟩
        have R0 := hid (good_atom.keep r0 (sm_below B.out (Nat.le_refl _)))
        have R1 := hid (good_atom.keep r1 (sm_below B.out (Nat.le_refl _)))
        have hs2H : w.heap.size + 2 ≤ w13.heap.size := by have := P1.out.1; omega
        obtain ⟨c0_14, c1_14, f0_14, f1_14, z_14⟩ := HasL.two P0.out
        obtain ⟨c0_15, c1_15, f0_15, f1_15, z_15⟩ := HasL.two P1.out
        have hk2 := kp_refl w13
        have hc2 := B.out.size
        go_upto_region 31 with fail
        go_cut [13] (fun s6 wx => ∃ (a0 : Option Addr) (cap0 : Nat), s6 = .slice a0 zs.length cap0 ∧ Own wx w13.heap.size 3 (.slice a0 zs.length cap0) zs ∧ Kp w13 0 wx)
        case first =>
          go_region_held3 (fun w' => w'.cell? ⟨w.heap.size, 0, none⟩ = some (.string x0.1) ∧ w'.cell? ⟨w.heap.size, 1, none⟩ = some (.slice a0 x0.2.length cap0) ∧ w'.cell? ⟨w.heap.size + 1, 0, none⟩ = some (.string x1.1) ∧ w'.cell? ⟨w.heap.size + 1, 1, none⟩ = some (.slice a1 x1.2.length cap1) ∧ Kp w13 0 w')
            (first
              | (go_split_ands
                 repeat' apply And.intro
                 all_goals (first | (with_reducible assumption) | (with_reducible exact cell_drew (by assumption)) | (with_reducible exact Kp.drew (by assumption)) | (with_reducible exact Kp.cell (by assumption) hb1 (by omega) (by assumption)) | (with_reducible exact Kp.call (by assumption) hb1) | (with_reducible exact Kp.cell_alloc (by assumption) _ (by omega) (by assumption)) | (with_reducible exact Kp.alloc (by assumption) _) | (with_reducible exact Kp.cell_alloc_drew (by assumption) _ (by omega) (by assumption)) | (with_reducible exact Kp.alloc_drew (by assumption) _) | (with_reducible exact Kp.reall (by assumption) (by omega) _) | (with_reducible exact cell_realloc (by omega) (by assumption) _) | (with_reducible exact cell_set (by assumption) (by omega)) | (with_reducible exact Keep.Kp.set (by assumption) (by omega) _ _))))
            (first | (go_split_ands; go_at_call 25; (with_reducible refine (to_atom _ x0 0 w.heap.size _ (by omega) (gd_kp good_atom R0.out (by with_reducible assumption) (by omega)) (kp_le (by with_reducible assumption) (by omega))).mono ?_); rintro e wA ⟨dsA, rfl, hdA, hb1⟩; have hz0 := hb1.size; (try simp only [World.size_alloc] at hz0); have hz1 : w13.heap.size ≤ wA.heap.size := (by have hk0 : Kp w13 0 _ := (by with_reducible assumption); have hk1 := hk0.sz; (try simp only [World.size_alloc] at hk1); omega); have HA := hid (good_atom.up hdA (Nat.zero_le _) (Nat.le_refl _)); obtain ⟨aA, capA, hdsA, _⟩ := atom_open hdA; subst hdsA; clear hdA; (try (first | (with_reducible have HN := hid (HN.out.below hb1)) | (with_reducible have HN := hid (HN.out.drew.below hb1)) | (with_reducible have HN := hid (new2_kept hb1)) | (with_reducible have HN := hid (new2_kept_drew hb1)))); (try (obtain ⟨m0, m1, mz, m2, m3⟩ := HN.out))) | (go_split_ands; go_at_call 25; (with_reducible refine (to_atom _ x1 0 w.heap.size _ (by omega) (gd_kp good_atom R1.out (by with_reducible assumption) (by omega)) (kp_le (by with_reducible assumption) (by omega))).mono ?_); rintro e wB ⟨dsB, rfl, hdB, hb1⟩; have hz0 := hb1.size; (try simp only [World.size_alloc] at hz0); have hz1 : w13.heap.size ≤ wB.heap.size := (by have hk0 : Kp w13 0 _ := (by with_reducible assumption); have hk1 := hk0.sz; (try simp only [World.size_alloc] at hk1); omega); have HB := hid (good_atom.up hdB (Nat.zero_le _) (Nat.le_refl _)); obtain ⟨aB, capB, hdsB, _⟩ := atom_open hdB; subst hdsB; clear hdB; (try (first | (with_reducible have HA := hid (good_atom.grown HA.out hb1)) | (with_reducible have HA := hid (good_atom.grown_drew HA.out hb1)) | (with_reducible have HA := hid (good_atom.grown (good_atom.grown HA.out ((Below.refl _ _).alloc (Nat.le_refl _) _)) hb1)) | (with_reducible have HA := hid (good_atom.grown_drew (good_atom.grown HA.out ((Below.refl _ _).alloc (Nat.le_refl _) _)) hb1)))); (try (first | (with_reducible have HN := hid (HN.out.below hb1)) | (with_reducible have HN := hid (HN.out.drew.below hb1)) | (with_reducible have HN := hid (new2_kept hb1)) | (with_reducible have HN := hid (new2_kept_drew hb1)))); (try (obtain ⟨m0, m1, mz, m2, m3⟩ := HN.out))) | (go_split_ands; go_at_call 26; (with_reducible refine (I.out _ _ _ (by first | (with_reducible exact HA.out) | (with_reducible exact good_atom.drew HA.out) | (with_reducible exact good_atom.grown HA.out ((Below.refl _ _).alloc (Nat.le_refl _) _)) | (with_reducible exact good_atom.drew (good_atom.grown HA.out ((Below.refl _ _).alloc (Nat.le_refl _) _)))) (by first | (with_reducible exact HB.out) | (with_reducible exact good_atom.drew HB.out) | (with_reducible exact good_atom.grown HB.out ((Below.refl _ _).alloc (Nat.le_refl _) _)) | (with_reducible exact good_atom.drew (good_atom.grown HB.out ((Below.refl _ _).alloc (Nat.le_refl _) _)))) (B.out.trans ((Kp.bel (n := 0) (by with_reducible assumption)).mono hc2))).mono ?_); rintro e wC ⟨a0, cap0, rfl, hown, hb1⟩; have hz0 := hb1.size; (try simp only [World.size_alloc] at hz0); have hz1 : w13.heap.size ≤ wC.heap.size := (by have hk0 : Kp w13 0 _ := (by with_reducible assumption); have hk1 := hk0.sz; (try simp only [World.size_alloc] at hk1); omega); have HO := hid hown; clear hown; (try (first | (with_reducible have HN := hid (HN.out.below hb1)) | (with_reducible have HN := hid (HN.out.drew.below hb1)) | (with_reducible have HN := hid (new2_kept hb1)) | (with_reducible have HN := hid (new2_kept_drew hb1)))); (try (obtain ⟨m0, m1, mz, m2, m3⟩ := HN.out))))
          all_goals
            go_wp2_with fail
            go_meet
            go_split_ands
            first
              | exact ⟨a0, cap0, rfl, HO.out.mono (by (try simp only [World.size_alloc]); omega), by with_reducible assumption⟩
              | exact ⟨a0, cap0, rfl, HO.out.drew.mono (by (try simp only [World.size_alloc]); omega), by with_reducible assumption⟩
        case rest =>
          obtain ⟨aH, capH, rfl, hown, hk⟩ := hcut
          obtain ⟨w14, rfl⟩ : ∃ wo : World, wo = wc := ⟨_, rfl⟩
          have hb := hk.bel
          clear hk hk2 hc2
          clear c0_14 c1_14 f0_14 f1_14 z_14
          clear c0_15 c1_15 f0_15 f1_15 z_15
          have s_w14 := hb.size
          (try simp only [World.size_alloc] at s_w14)
          replace P0 := hid (P0.out.below hb)
          replace P1 := hid (P1.out.below hb)
          replace V := hid (V.out.below' hb)
          replace G := hid (G.out.below' hb)
          replace B := hid (B.out.trans (hb.mono B.out.size))
          clear hb
          clear R0 R1
          have H := hid hown
          have UH := hid (show Under w14.heap.size (.slice aH zs.length capH) from fun k hk => (hown.lt k hk).2)
          have LH := hid hown.lt
          clear hown
          go_wp2_with fail
          with_reducible refine (eq_ints _ _ _ _ zs _ _ _ hz (own_rd H.out) (own_rd V.out) (Nat.le_refl _) (Nat.le_refl _)).mono ?_
          rintro e w15 ⟨rfl, hb⟩
          have s_w15 := hb.size
          (try simp only [World.size_alloc] at s_w15)
          replace P0 := hid (P0.out.below hb)
          replace P1 := hid (P1.out.below hb)
          replace V := hid (V.out.below' hb)
          replace G := hid (G.out.below' hb)
          replace H := hid (H.out.below' hb)
          replace B := hid (B.out.trans (hb.mono B.out.size))
          clear hb
          go_wp2_with fail
          with_reducible refine (held_ints _ _ 1 zs.length _ _ hz (by omega) (by omega) (own_rd' G.out hml)).mono ?_
          rintro e w' ⟨rfl, rfl⟩
          go_wp2_with fail
          go_ret
          exact ⟨rfl, B.out⟩

set_option maxRecDepth 100000 in
theorem walk (cs0 : List Value) (x0 : AtomD) (cs1 : List Value) (x1 : AtomD) (w : World)  (r0 : rAtom w 0 w.heap.size cs0 x0) (r1 : rAtom w 0 w.heap.size cs1 x1) (SI : (szA x0 + szA x1 ≤ 1048576 → ∃ (zs : List Int), zs.length ≤ 1048576 ∧ (∀ (W : World) (d0 : List Value) (d1 : List Value), rAtom W 0 W.heap.size d0 x0 → rAtom W 0 W.heap.size d1 x1 → Below w.heap.size w W → Calls Tryd.prog 24 #[.agg d0.toArray, .agg d1.toArray] W fun e w' => ∃ a cap, e = .returned (.slice a zs.length cap) ∧ Own w' W.heap.size 3 (.slice a zs.length cap) zs ∧ Below W.heap.size W w') ∧ (∀ (W : World) (d0 : List Value) (d1 : List Value), rAtom W 0 W.heap.size d0 x0 → rAtom W 0 W.heap.size d1 x1 → Below w.heap.size w W → Calls Tryd.prog 26 #[.agg d0.toArray, .agg d1.toArray] W fun e w' => ∃ a cap, e = .returned (.slice a zs.length cap) ∧ Own w' W.heap.size 3 (.slice a zs.length cap) zs ∧ Below W.heap.size W w'))) :
    Calls Tryd.prog 5 #[.agg cs0.toArray, .agg cs1.toArray] w fun e w' => e = .returned (.bool true) ∧ Below w.heap.size w w' := by
  by_cases ht0 : 1048576 < szA x0
  · clear SI
    obtain ⟨a0, cap0, hcs0, _⟩ := atom_open r0
    subst hcs0
    obtain ⟨a1, cap1, hcs1, _⟩ := atom_open r1
    subst hcs1
    have P0 := hid (hasl_new w [.string x0.1, .slice a0 x0.2.length cap0] 43)
    have P1 := hid (hasl_new (w.alloc (.cells #[.string x0.1, .slice a0 x0.2.length cap0] 43)) [.string x1.1, .slice a1 x1.2.length cap1] 43)
    replace P0 := hid (P0.out.alloc (.cells #[.string x1.1, .slice a1 x1.2.length cap1] 43))
    simp only [World.size_alloc] at P1
    have B := hid (((Below.refl w.heap.size w).alloc (by simp) (.cells #[.string x0.1, .slice a0 x0.2.length cap0] 43)).alloc (by simp) (.cells #[.string x1.1, .slice a1 x1.2.length cap1] 43))
    go_enter Tryd.func5, Tryd.ntmps5
    obtain ⟨c0_16, c1_16, f0_16, f1_16, z_16⟩ := HasL.two P0.out
    go_wp2_with fail
    with_reducible refine (sz_atom _ x0 0 w.heap.size (1048576) (-1) _ (by omega) (by omega) (good_atom.keep r0 (sm_below B.out (Nat.le_refl _))) (hid (.inl ⟨by omega, rfl⟩))).mono ?_
    rintro e w1 ⟨rfl, hb⟩
    clear c0_16 c1_16 f0_16 f1_16 z_16
    replace P0 := hid (P0.out.below hb)
    replace P1 := hid (P1.out.below hb)
    replace B := hid (B.out.trans (hb.mono B.out.size))
    clear hb
    go_wp2
    go_ret
    exact ⟨rfl, B.out⟩
  · by_cases ht1 : 1048576 < szA x0 + szA x1
    · clear SI
      obtain ⟨a0, cap0, hcs0, _⟩ := atom_open r0
      subst hcs0
      obtain ⟨a1, cap1, hcs1, _⟩ := atom_open r1
      subst hcs1
      have P0 := hid (hasl_new w [.string x0.1, .slice a0 x0.2.length cap0] 43)
      have P1 := hid (hasl_new (w.alloc (.cells #[.string x0.1, .slice a0 x0.2.length cap0] 43)) [.string x1.1, .slice a1 x1.2.length cap1] 43)
      replace P0 := hid (P0.out.alloc (.cells #[.string x1.1, .slice a1 x1.2.length cap1] 43))
      simp only [World.size_alloc] at P1
      have B := hid (((Below.refl w.heap.size w).alloc (by simp) (.cells #[.string x0.1, .slice a0 x0.2.length cap0] 43)).alloc (by simp) (.cells #[.string x1.1, .slice a1 x1.2.length cap1] 43))
      have t_sz0 : ¬ ((1048576 - (szA x0 : Nat) : Int) < 0) := by omega
      go_enter Tryd.func5, Tryd.ntmps5
      obtain ⟨c0_17, c1_17, f0_17, f1_17, z_17⟩ := HasL.two P0.out
      go_wp2_with fail
      with_reducible refine (sz_atom _ x0 0 w.heap.size (1048576) (1048576 - (szA x0 : Nat)) _ (by omega) (by omega) (good_atom.keep r0 (sm_below B.out (Nat.le_refl _))) (hid (.inr ⟨by omega, by omega⟩))).mono ?_
      rintro e w1 ⟨rfl, hb⟩
      clear c0_17 c1_17 f0_17 f1_17 z_17
      replace P0 := hid (P0.out.below hb)
      replace P1 := hid (P1.out.below hb)
      replace B := hid (B.out.trans (hb.mono B.out.size))
      clear hb
      obtain ⟨c0_18, c1_18, f0_18, f1_18, z_18⟩ := HasL.two P1.out
      go_wp2_with fail
      with_reducible refine (sz_atom _ x1 0 w.heap.size (1048576 - (szA x0 : Nat)) (-1) _ (by omega) (by omega) (good_atom.keep r1 (sm_below B.out (Nat.le_refl _))) (hid (.inl ⟨by omega, rfl⟩))).mono ?_
      rintro e w2 ⟨rfl, hb⟩
      clear c0_18 c1_18 f0_18 f1_18 z_18
      replace P0 := hid (P0.out.below hb)
      replace P1 := hid (P1.out.below hb)
      replace B := hid (B.out.trans (hb.mono B.out.size))
      clear hb
      go_wp2
      go_ret
      exact ⟨rfl, B.out⟩
    · obtain ⟨zs, hz, S, I⟩ := SI (by omega) 
      exact core cs0 x0 cs1 x1 zs w (by omega) hz  r0 r1 (hid S) (hid I)
end Go.Proofs.YtehbkgmpnkmgjaaDoor.CommonVariablesC
