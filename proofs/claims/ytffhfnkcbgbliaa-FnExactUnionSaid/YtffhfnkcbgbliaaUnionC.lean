/- The walk of law FnExactUnion, where the sizes hold. -/
import Derived.Test.YtffhfnkcbgbliaaRelLaw
import Derived.Test.YtffhfnkcbgbliaaRelKit
import Derived.Deep.RegionHeld3
import Derived.Deep.DeepCutAuto
namespace Go.Proofs.Ytffhfnkcbgbliaa.UnionC
open Go.RowKit
open Go.Proofs.Ytffhfnkcbgbliaa.Num Go.Proofs.Ytffhfnkcbgbliaa.IntRow Go.Proofs.Ytffhfnkcbgbliaa.IntLaw Go.Proofs.Ytffhfnkcbgbliaa.Grid Go.Proofs.Ytffhfnkcbgbliaa.GridMore Go.Proofs.Ytffhfnkcbgbliaa.GridLaw Go.Proofs.Ytffhfnkcbgbliaa.GridLaw2 Go.Proofs.Ytffhfnkcbgbliaa.RelLaw Go.Proofs.Ytffhfnkcbgbliaa.Keep Go.Proofs.Ytffhfnkcbgbliaa.Kept Go.Proofs.Ytffhfnkcbgbliaa.Cells Go.Proofs.Ytffhfnkcbgbliaa.RelKit
set_option linter.unusedVariables false

set_option maxRecDepth 100000 in
set_option maxHeartbeats 4000000 in
theorem core (n0 : Int) (a0 : Option Addr) (cap0 : Nat) (xss0 : List (List Int)) (n1 : Int) (a1 : Option Addr) (cap1 : Nat) (xss1 : List (List Int)) (m : Int) (zss : List (List Int)) (ok : Bool) (w : World) (ht : tot xss0 + tot xss1 ≤ 1048576) (hz : tot zss ≤ 1048576) (r0 : GRd w w.heap.size a0 xss0) (r1 : GRd w w.heap.size a1 xss1)
    (S : RowKit.Hid (∀ (W : World) (g0 g1 : Nat), GRd W W.heap.size (some ⟨g0, 0, none⟩) xss0 → GRd W W.heap.size (some ⟨g1, 0, none⟩) xss1 → Calls Try.prog 12 #[.agg #[.int .i64 n0, .slice (some ⟨g0, 0, none⟩) xss0.length xss0.length], .agg #[.int .i64 n1, .slice (some ⟨g1, 0, none⟩) xss1.length xss1.length]] W fun e w' => ∃ a cap vs, e = .returned (.tuple #[.agg #[.int .i64 m, .slice a zss.length cap], .bool ok]) ∧ GOwn w' W.heap.size eR eI (.slice a zss.length cap) vs zss ∧ Below W.heap.size W w'))
    (I : RowKit.Hid (∀ (W : World) (g0 g1 : Nat), GRd W W.heap.size (some ⟨g0, 0, none⟩) xss0 → GRd W W.heap.size (some ⟨g1, 0, none⟩) xss1 → Calls Try.prog 14 #[.agg #[.int .i64 n0, .slice (some ⟨g0, 0, none⟩) xss0.length xss0.length], .agg #[.int .i64 n1, .slice (some ⟨g1, 0, none⟩) xss1.length xss1.length]] W fun e w' => ∃ a cap vs, e = .returned (.tuple #[.agg #[.int .i64 m, .slice a zss.length cap], .bool ok]) ∧ GOwn w' W.heap.size eR eI (.slice a zss.length cap) vs zss ∧ Below W.heap.size W w')) :
    Calls Try.prog 4 #[.agg #[.int .i64 n0, .slice a0 xss0.length cap0], .agg #[.int .i64 n1, .slice a1 xss1.length cap1]] w fun e w' => e = .returned (.bool true) ∧ Below w.heap.size w w' := by
  have P0 := hid (has2_new w (.int .i64 n0) (.slice a0 xss0.length cap0) 25)
  have P1 := hid (has2_new (w.alloc (.cells #[.int .i64 n0, .slice a0 xss0.length cap0] 25)) (.int .i64 n1) (.slice a1 xss1.length cap1) 25)
  replace P0 := hid (P0.out.alloc (.cells #[.int .i64 n1, .slice a1 xss1.length cap1] 25))
  simp only [World.size_alloc] at P1
  have B := hid (((Below.refl w.heap.size w).alloc (by simp) (.cells #[.int .i64 n0, .slice a0 xss0.length cap0] 25)).alloc (by simp) (.cells #[.int .i64 n1, .slice a1 xss1.length cap1] 25))
  have hx0 := each_le (xss := xss0) (m := 1048576) (by omega)
  have hl0 := len_le (xss := xss0) (m := 1048576) (by omega)
  have hx1 := each_le (xss := xss1) (m := 1048576) (by omega)
  have hl1 := len_le (xss := xss1) (m := 1048576) (by omega)
  have hne : (ok != ok) = false := by simp
  have hzl := len_le (xss := zss) (m := 1048576) hz
  go_enter Try.func4, Try.ntmps4
  have t_sz0 : ¬ ((1048576 - (tot xss0 : Nat) : Int) < 0) := by omega
  obtain ⟨c0_1, c1_1, z_1, p_1, q_1⟩ := P0.out
  go_wp2_with fail
  refine (sz_rel n0 a0 cap0 w.heap.size xss0 (1048576) (1048576 - (tot xss0 : Nat)) _ (by omega) (by omega) (by omega) (fun j h => by have := hx0 j h; omega) (r0.below B.out) B.out.size (hid (.inr ⟨by omega, by omega⟩))).mono ?_
  rintro e w1 ⟨rfl, hb⟩
  clear c0_1 c1_1 z_1 p_1 q_1
  have s_w1 := hb.size
  (try simp only [World.size_alloc] at s_w1)
  replace P0 := hid (P0.out.below hb)
  replace P1 := hid (P1.out.below hb)
  replace B := hid (B.out.trans (hb.mono B.out.size))
  clear hb
  have t_sz1 : ¬ ((1048576 - (tot xss0 : Nat) - (tot xss1 : Nat) : Int) < 0) := by omega
  obtain ⟨c0_2, c1_2, z_2, p_2, q_2⟩ := P1.out
  go_wp2_with fail
  refine (sz_rel n1 a1 cap1 w.heap.size xss1 (1048576 - (tot xss0 : Nat)) (1048576 - (tot xss0 : Nat) - (tot xss1 : Nat)) _ (by omega) (by omega) (by omega) (fun j h => by have := hx1 j h; omega) (r1.below B.out) B.out.size (hid (.inr ⟨by omega, by omega⟩))).mono ?_
  rintro e w2 ⟨rfl, hb⟩
  clear c0_2 c1_2 z_2 p_2 q_2
  have s_w2 := hb.size
  (try simp only [World.size_alloc] at s_w2)
  replace P0 := hid (P0.out.below hb)
  replace P1 := hid (P1.out.below hb)
  replace B := hid (B.out.trans (hb.mono B.out.size))
  clear hb
  have R0 := hid (r0.below B.out)
  have R1 := hid (r1.below B.out)
  have hs2V : w.heap.size + 2 ≤ w2.heap.size := by have := P1.out.2.2.1; omega
  obtain ⟨c0_3, c1_3, z_3, p_3, q_3⟩ := P0.out
  obtain ⟨c0_4, c1_4, z_4, p_4, q_4⟩ := P1.out
  have hk2 := kp_refl w2
  go_upto_region 8 with fail
  go_cut [6, 7] (fun s6 s7 wx => ∃ (g : Nat) (a0 : Option Addr) (cap0 : Nat) (vs0 : List Value), s6 = .pointer (some ⟨g, 0, none⟩) ∧ s7 = .bool ok ∧ Has2 wx g (.int .i64 m) (.slice a0 zss.length cap0) ∧ GOwn wx w2.heap.size eR eI (.slice a0 zss.length cap0) vs0 zss ∧ w2.heap.size ≤ g ∧ Kp w2 0 wx)
  case first =>
    go_region_held3 (fun w' => w'.cell? ⟨w.heap.size, 0, none⟩ = some (.int .i64 n0) ∧ w'.cell? ⟨w.heap.size, 1, none⟩ = some (.slice a0 xss0.length cap0) ∧ w'.cell? ⟨w.heap.size + 1, 0, none⟩ = some (.int .i64 n1) ∧ w'.cell? ⟨w.heap.size + 1, 1, none⟩ = some (.slice a1 xss1.length cap1) ∧ Kp w2 0 w')
      (first
        | (go_split_ands
           repeat' apply And.intro
           all_goals (first | (with_reducible assumption) | (with_reducible exact cell_drew (by assumption)) | (with_reducible exact Kp.drew (by assumption)) | (with_reducible exact Kp.cell (by assumption) hb1 (by omega) (by assumption)) | (with_reducible exact Kp.call (by assumption) hb1) | (with_reducible exact Kp.cell_alloc (by assumption) _ (by omega) (by assumption)) | (with_reducible exact Kp.alloc (by assumption) _) | (with_reducible exact Kp.cell_alloc_drew (by assumption) _ (by omega) (by assumption)) | (with_reducible exact Kp.alloc_drew (by assumption) _) | (with_reducible exact Kp.reall (by assumption) (by omega) _) | (with_reducible exact cell_realloc (by omega) (by assumption) _) | (with_reducible exact cell_set (by assumption) (by omega)) | (with_reducible exact Keep.Kp.set (by assumption) (by omega) _ _))))
      (first | (go_split_ands; go_at_call 13; (with_reducible refine (to_rel n0 a0 cap0 w.heap.size xss0 _ (by omega) (grd_kp R0.out (by with_reducible assumption) (by omega)) (kp_le (by with_reducible assumption) (by omega))).mono ?_); rintro e wA ⟨vsgA, gA, rfl, hgA, hatA, hb1⟩; have hz0 := hb1.size; (try simp only [World.size_alloc] at hz0); have hz1 : w2.heap.size ≤ wA.heap.size := (by have hk0 : Kp w2 0 _ := (by with_reducible assumption); have hk1 := hk0.sz; (try simp only [World.size_alloc] at hk1); omega); have HATA := hid hatA; (try (first | (with_reducible have HN := hid (HN.out.below hb1)) | (with_reducible have HN := hid (HN.out.drew.below hb1)) | (with_reducible have HN := hid (new2_kept hb1)) | (with_reducible have HN := hid (new2_kept_drew hb1)))); (try (obtain ⟨m0, m1, mz, m2, m3⟩ := HN.out))) | (go_split_ands; go_at_call 13; (with_reducible refine (to_rel n1 a1 cap1 w.heap.size xss1 _ (by omega) (grd_kp R1.out (by with_reducible assumption) (by omega)) (kp_le (by with_reducible assumption) (by omega))).mono ?_); rintro e wB ⟨vsgB, gB, rfl, hgB, hatB, hb1⟩; have hz0 := hb1.size; (try simp only [World.size_alloc] at hz0); have hz1 : w2.heap.size ≤ wB.heap.size := (by have hk0 : Kp w2 0 _ := (by with_reducible assumption); have hk1 := hk0.sz; (try simp only [World.size_alloc] at hk1); omega); have HATB := hid hatB; have HATA : Hid (GOwn wB gA eR eI (.slice (some ⟨gA, 0, none⟩) xss0.length xss0.length) vsgA xss0) := hid (by first | (with_reducible exact HATA.out.below' hb1) | (with_reducible exact HATA.out.drew.below' hb1) | (with_reducible exact (HATA.out.alloc _).below' hb1) | (with_reducible exact (HATA.out.alloc _).drew.below' hb1)); (try (first | (with_reducible have HN := hid (HN.out.below hb1)) | (with_reducible have HN := hid (HN.out.drew.below hb1)) | (with_reducible have HN := hid (new2_kept hb1)) | (with_reducible have HN := hid (new2_kept_drew hb1)))); (try (obtain ⟨m0, m1, mz, m2, m3⟩ := HN.out))) | (go_split_ands; go_at_call 12; (with_reducible refine (S.out _ gA gB (by first | (with_reducible exact gown_rd HATA.out) | (with_reducible exact gown_rd HATA.out.drew) | (with_reducible exact gown_rd (HATA.out.alloc _)) | (with_reducible exact gown_rd (HATA.out.alloc _).drew)) (by first | (with_reducible exact gown_rd HATB.out) | (with_reducible exact gown_rd HATB.out.drew) | (with_reducible exact gown_rd (HATB.out.alloc _)) | (with_reducible exact gown_rd (HATB.out.alloc _).drew))).mono ?_); rintro e wC ⟨a0, cap0, vs0, rfl, hown, hb1⟩; have hz0 := hb1.size; (try simp only [World.size_alloc] at hz0); have hz1 : w2.heap.size ≤ wC.heap.size := (by have hk0 : Kp w2 0 _ := (by with_reducible assumption); have hk1 := hk0.sz; (try simp only [World.size_alloc] at hk1); omega); have HO := hid hown; clear hown; (try (first | (with_reducible have HN := hid (HN.out.below hb1)) | (with_reducible have HN := hid (HN.out.drew.below hb1)) | (with_reducible have HN := hid (new2_kept hb1)) | (with_reducible have HN := hid (new2_kept_drew hb1)))); (try (obtain ⟨m0, m1, mz, m2, m3⟩ := HN.out))))
    all_goals
      go_wp2_with fail
      go_meet
      go_split_ands
      first
        | exact ⟨_, a0, cap0, vs0, rfl, rfl, has2_new _ _ _ _, (HO.out.alloc _).mono (by (try simp only [World.size_alloc]); omega), by omega, by with_reducible assumption⟩
        | exact ⟨_, a0, cap0, vs0, rfl, rfl, has2_set HN.out, (gown_set (gown_set HO.out (by (try simp only [World.size_alloc]); omega) _) (by (try simp only [World.size_alloc]); omega) _).mono (by (try simp only [World.size_alloc]); omega), by omega, by with_reducible assumption⟩
  case rest =>
    obtain ⟨gV, aV, capV, vsV, rfl, rfl, hH, hown, hgV, hk⟩ := hcut
    obtain ⟨w3, rfl⟩ : ∃ wo : World, wo = wc := ⟨_, rfl⟩
    have hb := hk.bel
    clear hk hk2
    clear c0_3 c1_3 z_3 p_3 q_3
    clear c0_4 c1_4 z_4 p_4 q_4
    have s_w3 := hb.size
    (try simp only [World.size_alloc] at s_w3)
    replace P0 := hid (P0.out.below hb)
    replace P1 := hid (P1.out.below hb)
    replace B := hid (B.out.trans (hb.mono B.out.size))
    clear hb
    have hgV1 := hH.2.2.1
    have OV := hid hH
    have V := hid hown
    have UV := hid (gown_under hown)
    clear hH hown
    obtain ⟨c0_5, c1_5, z_5, p_5, q_5⟩ := P0.out
    go_wp2_with fail
    refine (to_rel n0 a0 cap0 w.heap.size xss0 _ (by omega) (r0.below B.out) B.out.size).mono ?_
    rintro e w4 ⟨vsx0, gx0, rfl, hgx0, hown, hb⟩
    clear c0_5 c1_5 z_5 p_5 q_5
    have s_w4 := hb.size
    (try simp only [World.size_alloc] at s_w4)
    replace P0 := hid (P0.out.below hb)
    replace P1 := hid (P1.out.below hb)
    replace V := hid (V.out.below' hb)
    replace OV := hid (OV.out.below hb)
    replace B := hid (B.out.trans (hb.mono B.out.size))
    clear hb
    (try simp only [World.size_alloc] at hgx0)
    have X0 := hid hown
    have lgx0 := X0.out.lt _ rfl
    have U0 := hid (gown_under hown)
    clear hown
    obtain ⟨c0_6, c1_6, z_6, p_6, q_6⟩ := P1.out
    go_wp2_with fail
    clear c0_6 c1_6 z_6 p_6 q_6
    replace P0 := hid (P0.out.alloc (.cells #[.int .i64 n0, .slice (some ⟨gx0, 0, none⟩) xss0.length xss0.length] 30))
    replace P1 := hid (P1.out.alloc (.cells #[.int .i64 n0, .slice (some ⟨gx0, 0, none⟩) xss0.length xss0.length] 30))
    replace V := hid (V.out.alloc (.cells #[.int .i64 n0, .slice (some ⟨gx0, 0, none⟩) xss0.length xss0.length] 30))
    replace OV := hid (OV.out.alloc (.cells #[.int .i64 n0, .slice (some ⟨gx0, 0, none⟩) xss0.length xss0.length] 30))
    replace X0 := hid (X0.out.alloc (.cells #[.int .i64 n0, .slice (some ⟨gx0, 0, none⟩) xss0.length xss0.length] 30))
    replace B := hid (B.out.alloc B.out.size (.cells #[.int .i64 n0, .slice (some ⟨gx0, 0, none⟩) xss0.length xss0.length] 30))
    have Q0 := hid (has2_new w4 (.int .i64 n0) (.slice (some ⟨gx0, 0, none⟩) xss0.length xss0.length) 30)
    refine (to_rel n1 a1 cap1 w.heap.size xss1 _ (by omega) (r1.below B.out) B.out.size).mono ?_
    rintro e w5 ⟨vsx1, gx1, rfl, hgx1, hown, hb⟩
    have s_w5 := hb.size
    (try simp only [World.size_alloc] at s_w5)
    replace P0 := hid (P0.out.below hb)
    replace P1 := hid (P1.out.below hb)
    replace V := hid (V.out.below' hb)
    replace OV := hid (OV.out.below hb)
    replace X0 := hid (X0.out.below' hb)
    replace Q0 := hid (Q0.out.below hb)
    replace B := hid (B.out.trans (hb.mono B.out.size))
    clear hb
    (try simp only [World.size_alloc] at hgx1)
    have X1 := hid hown
    have lgx1 := X1.out.lt _ rfl
    have U1 := hid (gown_under hown)
    clear hown
    obtain ⟨c0_7, c1_7, z_7, p_7, q_7⟩ := Q0.out
    go_wp2_with fail
    clear c0_7 c1_7 z_7 p_7 q_7
    replace P0 := hid (P0.out.alloc (.cells #[.int .i64 n1, .slice (some ⟨gx1, 0, none⟩) xss1.length xss1.length] 30))
    replace P1 := hid (P1.out.alloc (.cells #[.int .i64 n1, .slice (some ⟨gx1, 0, none⟩) xss1.length xss1.length] 30))
    replace V := hid (V.out.alloc (.cells #[.int .i64 n1, .slice (some ⟨gx1, 0, none⟩) xss1.length xss1.length] 30))
    replace OV := hid (OV.out.alloc (.cells #[.int .i64 n1, .slice (some ⟨gx1, 0, none⟩) xss1.length xss1.length] 30))
    replace X0 := hid (X0.out.alloc (.cells #[.int .i64 n1, .slice (some ⟨gx1, 0, none⟩) xss1.length xss1.length] 30))
    replace Q0 := hid (Q0.out.alloc (.cells #[.int .i64 n1, .slice (some ⟨gx1, 0, none⟩) xss1.length xss1.length] 30))
    replace X1 := hid (X1.out.alloc (.cells #[.int .i64 n1, .slice (some ⟨gx1, 0, none⟩) xss1.length xss1.length] 30))
    replace B := hid (B.out.alloc B.out.size (.cells #[.int .i64 n1, .slice (some ⟨gx1, 0, none⟩) xss1.length xss1.length] 30))
    have Q1 := hid (has2_new w5 (.int .i64 n1) (.slice (some ⟨gx1, 0, none⟩) xss1.length xss1.length) 30)
    refine (I.out _ _ _ (gown_rd X0.out) (gown_rd X1.out)).mono ?_
    rintro e w6 ⟨aG, capG, vsG, rfl, hown, hb⟩
    have s_w6 := hb.size
    (try simp only [World.size_alloc] at s_w6)
    replace P0 := hid (P0.out.below hb)
    replace P1 := hid (P1.out.below hb)
    replace V := hid (V.out.below' hb)
    replace OV := hid (OV.out.below hb)
    replace X0 := hid (X0.out.below' hb)
    replace Q0 := hid (Q0.out.below hb)
    replace X1 := hid (X1.out.below' hb)
    replace Q1 := hid (Q1.out.below hb)
    replace B := hid (B.out.trans (hb.mono B.out.size))
    clear hb
    (try simp only [World.size_alloc] at hown)
    have G := hid hown
    have UG := hid (gown_under hown)
    clear hown
    obtain ⟨c0_8, c1_8, z_8, p_8, q_8⟩ := OV.out
    go_wp2_with fail
    clear c0_8 c1_8 z_8 p_8 q_8
    replace P0 := hid (P0.out.alloc (.cells #[.int .i64 m, .slice aG zss.length capG] 30))
    replace P1 := hid (P1.out.alloc (.cells #[.int .i64 m, .slice aG zss.length capG] 30))
    replace V := hid (V.out.alloc (.cells #[.int .i64 m, .slice aG zss.length capG] 30))
    replace OV := hid (OV.out.alloc (.cells #[.int .i64 m, .slice aG zss.length capG] 30))
    replace X0 := hid (X0.out.alloc (.cells #[.int .i64 m, .slice aG zss.length capG] 30))
    replace Q0 := hid (Q0.out.alloc (.cells #[.int .i64 m, .slice aG zss.length capG] 30))
    replace X1 := hid (X1.out.alloc (.cells #[.int .i64 m, .slice aG zss.length capG] 30))
    replace Q1 := hid (Q1.out.alloc (.cells #[.int .i64 m, .slice aG zss.length capG] 30))
    replace G := hid (G.out.alloc (.cells #[.int .i64 m, .slice aG zss.length capG] 30))
    replace B := hid (B.out.alloc B.out.size (.cells #[.int .i64 m, .slice aG zss.length capG] 30))
    have OG := hid (has2_new w6 (.int .i64 m) (.slice aG zss.length capG) 30)
    refine (eq_rel m _ _ _ _ zss _ _ _ hz (gown_rd G.out) (gown_rd V.out) (Nat.le_refl _) (Nat.le_refl _)).mono ?_
    rintro e w7 ⟨rfl, hb⟩
    have s_w7 := hb.size
    (try simp only [World.size_alloc] at s_w7)
    replace P0 := hid (P0.out.below hb)
    replace P1 := hid (P1.out.below hb)
    replace V := hid (V.out.below' hb)
    replace OV := hid (OV.out.below hb)
    replace X0 := hid (X0.out.below' hb)
    replace Q0 := hid (Q0.out.below hb)
    replace X1 := hid (X1.out.below' hb)
    replace Q1 := hid (Q1.out.below hb)
    replace G := hid (G.out.below' hb)
    replace OG := hid (OG.out.below hb)
    replace B := hid (B.out.trans (hb.mono B.out.size))
    clear hb
    have R0 := hid (r0.below B.out)
    obtain ⟨c0_9, c1_9, z_9, p_9, q_9⟩ := Q0.out
    obtain ⟨c0_10, c1_10, z_10, p_10, q_10⟩ := P0.out
    have hk0 := kp_refl w7
    go_upto_region 14 with fail
    go_cut [58] (fun s wx => s = .bool false ∧ Kp w7 0 wx)
    case first =>
      go_region_held3 (fun w' => w'.cell? ⟨w.heap.size, 0, none⟩ = some (.int .i64 n0) ∧ w'.cell? ⟨w.heap.size, 1, none⟩ = some (.slice a0 xss0.length cap0) ∧ w'.cell? ⟨w4.heap.size, 0, none⟩ = some (.int .i64 n0) ∧ w'.cell? ⟨w4.heap.size, 1, none⟩ = some (.slice (some ⟨gx0, 0, none⟩) xss0.length xss0.length) ∧ Kp w7 0 w')
        (first
          | (go_split_ands
             repeat' apply And.intro
             all_goals (first | (with_reducible assumption) | (with_reducible exact cell_drew (by assumption)) | (with_reducible exact Kp.drew (by assumption)) | (with_reducible exact Kp.cell (by assumption) hb1 (by omega) (by assumption)) | (with_reducible exact Kp.call (by assumption) hb1))))
        (first
          | (go_split_ands; go_at_call 13; (with_reducible refine (to_rel _ _ _ w.heap.size xss0 _ (by omega) (grd_kp R0.out (by with_reducible assumption) (by omega)) (kp_le (by with_reducible assumption) (by omega))).mono ?_); rintro e wT ⟨vsT, gT, rfl, hgT, hatT, hb1⟩)
          | (go_split_ands; go_at_call 15; (with_reducible refine (eq_rel _ _ _ _ _ xss0 w7.heap.size wT.heap.size _ (by omega) (grd_kp (gown_rd X0.out) (by with_reducible assumption) (Nat.le_refl _)) (by first | exact gown_rd hatT | exact gown_rd hatT.drew) (kp_le (by with_reducible assumption) (Nat.le_refl _)) (by first | exact Nat.le_refl _ | simp)).mono ?_); rintro e wU ⟨rfl, hb1⟩))
      all_goals
        go_wp2_with fail
        go_meet
        go_split_ands
        exact ⟨rfl, by with_reducible assumption⟩
    case rest =>
      obtain ⟨rfl, hk⟩ := hcut
      obtain ⟨w8, rfl⟩ : ∃ wo : World, wo = wc := ⟨_, rfl⟩
      clear hk0
      clear c0_9 c1_9 z_9 p_9 q_9
      clear c0_10 c1_10 z_10 p_10 q_10
      have hb := hk.bel
      clear hk
      have s_w8 := hb.size
      (try simp only [World.size_alloc] at s_w8)
      replace P0 := hid (P0.out.below hb)
      replace P1 := hid (P1.out.below hb)
      replace V := hid (V.out.below' hb)
      replace OV := hid (OV.out.below hb)
      replace X0 := hid (X0.out.below' hb)
      replace Q0 := hid (Q0.out.below hb)
      replace X1 := hid (X1.out.below' hb)
      replace Q1 := hid (Q1.out.below hb)
      replace G := hid (G.out.below' hb)
      replace OG := hid (OG.out.below hb)
      replace B := hid (B.out.trans (hb.mono B.out.size))
      clear hb
      have R1 := hid (r1.below B.out)
      obtain ⟨c0_11, c1_11, z_11, p_11, q_11⟩ := Q1.out
      obtain ⟨c0_12, c1_12, z_12, p_12, q_12⟩ := P1.out
      have hk0 := kp_refl w8
      go_upto_region 16 with fail
      go_cut [63] (fun s wx => s = .bool false ∧ Kp w8 0 wx)
      case first =>
        go_region_held3 (fun w' => w'.cell? ⟨w.heap.size + 1, 0, none⟩ = some (.int .i64 n1) ∧ w'.cell? ⟨w.heap.size + 1, 1, none⟩ = some (.slice a1 xss1.length cap1) ∧ w'.cell? ⟨w5.heap.size, 0, none⟩ = some (.int .i64 n1) ∧ w'.cell? ⟨w5.heap.size, 1, none⟩ = some (.slice (some ⟨gx1, 0, none⟩) xss1.length xss1.length) ∧ Kp w8 0 w')
          (first
            | (go_split_ands
               repeat' apply And.intro
               all_goals (first | (with_reducible assumption) | (with_reducible exact cell_drew (by assumption)) | (with_reducible exact Kp.drew (by assumption)) | (with_reducible exact Kp.cell (by assumption) hb1 (by omega) (by assumption)) | (with_reducible exact Kp.call (by assumption) hb1))))
          (first
            | (go_split_ands; go_at_call 13; (with_reducible refine (to_rel _ _ _ w.heap.size xss1 _ (by omega) (grd_kp R1.out (by with_reducible assumption) (by omega)) (kp_le (by with_reducible assumption) (by omega))).mono ?_); rintro e wT ⟨vsT, gT, rfl, hgT, hatT, hb1⟩)
            | (go_split_ands; go_at_call 15; (with_reducible refine (eq_rel _ _ _ _ _ xss1 w8.heap.size wT.heap.size _ (by omega) (grd_kp (gown_rd X1.out) (by with_reducible assumption) (Nat.le_refl _)) (by first | exact gown_rd hatT | exact gown_rd hatT.drew) (kp_le (by with_reducible assumption) (Nat.le_refl _)) (by first | exact Nat.le_refl _ | simp)).mono ?_); rintro e wU ⟨rfl, hb1⟩))
        all_goals
          go_wp2_with fail
          go_meet
          go_split_ands
          exact ⟨rfl, by with_reducible assumption⟩
      case rest =>
        obtain ⟨rfl, hk⟩ := hcut
        obtain ⟨w9, rfl⟩ : ∃ wo : World, wo = wc := ⟨_, rfl⟩
        clear hk0
        clear c0_11 c1_11 z_11 p_11 q_11
        clear c0_12 c1_12 z_12 p_12 q_12
        have hb := hk.bel
        clear hk
        have s_w9 := hb.size
        (try simp only [World.size_alloc] at s_w9)
        replace P0 := hid (P0.out.below hb)
        replace P1 := hid (P1.out.below hb)
        replace V := hid (V.out.below' hb)
        replace OV := hid (OV.out.below hb)
        replace X0 := hid (X0.out.below' hb)
        replace Q0 := hid (Q0.out.below hb)
        replace X1 := hid (X1.out.below' hb)
        replace Q1 := hid (Q1.out.below hb)
        replace G := hid (G.out.below' hb)
        replace OG := hid (OG.out.below hb)
        replace B := hid (B.out.trans (hb.mono B.out.size))
        clear hb
        have hi0 := ints_le xss0
        have hi1 := ints_le xss1
        obtain ⟨c0_13, c1_13, z_13, p_13, q_13⟩ := Q0.out
        go_wp2_with fail
        refine (mark_rel gx0 w4.heap.size n0 _ _ (1) xss0 _ (by omega) (by omega) (by omega) X0.out U0.out).mono ?_
        rintro e w10 ⟨yss0, rfl, _, _, ht⟩
        clear c0_13 c1_13 z_13 p_13 q_13
        clear X0
        replace P0 := hid (has2_turned P0.out ht (by omega))
        replace P1 := hid (has2_turned P1.out ht (by omega))
        replace V := hid (gown_turned V.out ht (.inr (UV.out.mono (by omega))))
        replace OV := hid (has2_turned OV.out ht (by omega))
        replace Q0 := hid (has2_turned Q0.out ht (by omega))
        replace X1 := hid (gown_turned X1.out ht (.inl (by omega)))
        replace Q1 := hid (has2_turned Q1.out ht (by omega))
        replace G := hid (gown_turned G.out ht (.inl (by omega)))
        replace OG := hid (has2_turned OG.out ht (by omega))
        replace B := hid (B.out.trans ((ht.below (by omega)).mono (by omega)))
        have s_t10 := ht.size
        clear ht
        obtain ⟨c0_14, c1_14, z_14, p_14, q_14⟩ := Q1.out
        go_wp2_with fail
        refine (mark_rel gx1 w5.heap.size n1 _ _ (1 + (ints xss0 : Nat)) xss1 _ (by omega) (by omega) (by omega) X1.out U1.out).mono ?_
        rintro e w11 ⟨yss1, rfl, _, _, ht⟩
        clear c0_14 c1_14 z_14 p_14 q_14
        clear X1
        replace P0 := hid (has2_turned P0.out ht (by omega))
        replace P1 := hid (has2_turned P1.out ht (by omega))
        replace V := hid (gown_turned V.out ht (.inr (UV.out.mono (by omega))))
        replace OV := hid (has2_turned OV.out ht (by omega))
        replace Q0 := hid (has2_turned Q0.out ht (by omega))
        replace Q1 := hid (has2_turned Q1.out ht (by omega))
        replace G := hid (gown_turned G.out ht (.inl (by omega)))
        replace OG := hid (has2_turned OG.out ht (by omega))
        replace B := hid (B.out.trans ((ht.below (by omega)).mono (by omega)))
        have s_t11 := ht.size
        clear ht
        have t_k : ¬ (1 + (ints xss0 : Nat) + (ints xss1 : Nat) < 0) := by omega
        obtain ⟨c0_15, c1_15, z_15, p_15, q_15⟩ := OG.out
        obtain ⟨c0_16, c1_16, z_16, p_16, q_16⟩ := OV.out
        go_wp2_with fail
        refine (eq_rel m _ _ _ _ zss _ _ _ hz (gown_rd G.out) (gown_rd V.out) (Nat.le_refl _) (Nat.le_refl _)).mono ?_
        rintro e w12 ⟨rfl, hb⟩
        clear c0_15 c1_15 z_15 p_15 q_15
        clear c0_16 c1_16 z_16 p_16 q_16
        have s_w12 := hb.size
        (try simp only [World.size_alloc] at s_w12)
        replace P0 := hid (P0.out.below hb)
        replace P1 := hid (P1.out.below hb)
        replace V := hid (V.out.below' hb)
        replace OV := hid (OV.out.below hb)
        replace Q0 := hid (Q0.out.below hb)
        replace Q1 := hid (Q1.out.below hb)
        replace G := hid (G.out.below' hb)
        replace OG := hid (OG.out.below hb)
        replace B := hid (B.out.trans (hb.mono B.out.size))
        clear hb
        clear Q0
        clear Q1
        have hiz := ints_le zss
        have hneg : ¬ ((1 : Int) + (ints zss : Nat) < 0) := by omega
        have hsame : (((1 : Int) + (ints zss : Nat)) != ((1 : Int) + (ints zss : Nat))) = false := by simp
        obtain ⟨c0_17, c1_17, z_17, p_17, q_17⟩ := OG.out
        go_wp2_with fail
        refine (mark_rel _ w6.heap.size m _ _ 1 zss _ hz (by omega) (by omega) G.out UG.out).mono ?_
        rintro e w13 ⟨yss, rfl, hown, hm, ht⟩
        clear c0_17 c1_17 z_17 p_17 q_17
        have HM := hid hm
        clear hm G
        replace P0 := hid (has2_turned P0.out ht (by omega))
        replace P1 := hid (has2_turned P1.out ht (by omega))
        replace V := hid (gown_turned V.out ht (.inr (UV.out.mono (by omega))))
        replace OV := hid (has2_turned OV.out ht (by omega))
        replace OG := hid (has2_turned OG.out ht (by omega))
        replace B := hid (B.out.trans ((ht.below (by omega)).mono (by omega)))
        have s_t13 := ht.size
        clear ht
        have G := hid hown
        clear hown
        obtain ⟨c0_18, c1_18, z_18, p_18, q_18⟩ := OG.out
        go_wp2_with fail
        refine (held_rel m _ _ _ 1 zss yss _ hz (by omega) (by omega) HM.out (gown_rd' G.out HM.out.1) (Nat.le_refl _)).mono ?_
        rintro e w14 ⟨rfl, hb⟩
        clear c0_18 c1_18 z_18 p_18 q_18
        have s_w14 := hb.size
        (try simp only [World.size_alloc] at s_w14)
        replace P0 := hid (P0.out.below hb)
        replace P1 := hid (P1.out.below hb)
        replace V := hid (V.out.below' hb)
        replace OV := hid (OV.out.below hb)
        replace OG := hid (OG.out.below hb)
        replace G := hid (G.out.below' hb)
        replace B := hid (B.out.trans (hb.mono B.out.size))
        clear hb
        replace R0 := hid (r0.below B.out)
        replace R1 := hid (r1.below B.out)
        have hs2H : w.heap.size + 2 ≤ w14.heap.size := by have := P1.out.2.2.1; omega
        obtain ⟨c0_19, c1_19, z_19, p_19, q_19⟩ := P0.out
        obtain ⟨c0_20, c1_20, z_20, p_20, q_20⟩ := P1.out
        have hk2 := kp_refl w14
        go_upto_region 31 with fail
        go_cut [15, 16] (fun s6 s7 wx => ∃ (g : Nat) (a0 : Option Addr) (cap0 : Nat) (vs0 : List Value), s6 = .pointer (some ⟨g, 0, none⟩) ∧ s7 = .bool ok ∧ Has2 wx g (.int .i64 m) (.slice a0 zss.length cap0) ∧ GOwn wx w14.heap.size eR eI (.slice a0 zss.length cap0) vs0 zss ∧ w14.heap.size ≤ g ∧ Kp w14 0 wx)
        case first =>
          go_region_held3 (fun w' => w'.cell? ⟨w.heap.size, 0, none⟩ = some (.int .i64 n0) ∧ w'.cell? ⟨w.heap.size, 1, none⟩ = some (.slice a0 xss0.length cap0) ∧ w'.cell? ⟨w.heap.size + 1, 0, none⟩ = some (.int .i64 n1) ∧ w'.cell? ⟨w.heap.size + 1, 1, none⟩ = some (.slice a1 xss1.length cap1) ∧ Kp w14 0 w')
            (first
              | (go_split_ands
                 repeat' apply And.intro
                 all_goals (first | (with_reducible assumption) | (with_reducible exact cell_drew (by assumption)) | (with_reducible exact Kp.drew (by assumption)) | (with_reducible exact Kp.cell (by assumption) hb1 (by omega) (by assumption)) | (with_reducible exact Kp.call (by assumption) hb1) | (with_reducible exact Kp.cell_alloc (by assumption) _ (by omega) (by assumption)) | (with_reducible exact Kp.alloc (by assumption) _) | (with_reducible exact Kp.cell_alloc_drew (by assumption) _ (by omega) (by assumption)) | (with_reducible exact Kp.alloc_drew (by assumption) _) | (with_reducible exact Kp.reall (by assumption) (by omega) _) | (with_reducible exact cell_realloc (by omega) (by assumption) _) | (with_reducible exact cell_set (by assumption) (by omega)) | (with_reducible exact Keep.Kp.set (by assumption) (by omega) _ _))))
            (first | (go_split_ands; go_at_call 13; (with_reducible refine (to_rel n0 a0 cap0 w.heap.size xss0 _ (by omega) (grd_kp R0.out (by with_reducible assumption) (by omega)) (kp_le (by with_reducible assumption) (by omega))).mono ?_); rintro e wA ⟨vsgA, gA, rfl, hgA, hatA, hb1⟩; have hz0 := hb1.size; (try simp only [World.size_alloc] at hz0); have hz1 : w14.heap.size ≤ wA.heap.size := (by have hk0 : Kp w14 0 _ := (by with_reducible assumption); have hk1 := hk0.sz; (try simp only [World.size_alloc] at hk1); omega); have HATA := hid hatA; (try (first | (with_reducible have HN := hid (HN.out.below hb1)) | (with_reducible have HN := hid (HN.out.drew.below hb1)) | (with_reducible have HN := hid (new2_kept hb1)) | (with_reducible have HN := hid (new2_kept_drew hb1)))); (try (obtain ⟨m0, m1, mz, m2, m3⟩ := HN.out))) | (go_split_ands; go_at_call 13; (with_reducible refine (to_rel n1 a1 cap1 w.heap.size xss1 _ (by omega) (grd_kp R1.out (by with_reducible assumption) (by omega)) (kp_le (by with_reducible assumption) (by omega))).mono ?_); rintro e wB ⟨vsgB, gB, rfl, hgB, hatB, hb1⟩; have hz0 := hb1.size; (try simp only [World.size_alloc] at hz0); have hz1 : w14.heap.size ≤ wB.heap.size := (by have hk0 : Kp w14 0 _ := (by with_reducible assumption); have hk1 := hk0.sz; (try simp only [World.size_alloc] at hk1); omega); have HATB := hid hatB; have HATA : Hid (GOwn wB gA eR eI (.slice (some ⟨gA, 0, none⟩) xss0.length xss0.length) vsgA xss0) := hid (by first | (with_reducible exact HATA.out.below' hb1) | (with_reducible exact HATA.out.drew.below' hb1) | (with_reducible exact (HATA.out.alloc _).below' hb1) | (with_reducible exact (HATA.out.alloc _).drew.below' hb1)); (try (first | (with_reducible have HN := hid (HN.out.below hb1)) | (with_reducible have HN := hid (HN.out.drew.below hb1)) | (with_reducible have HN := hid (new2_kept hb1)) | (with_reducible have HN := hid (new2_kept_drew hb1)))); (try (obtain ⟨m0, m1, mz, m2, m3⟩ := HN.out))) | (go_split_ands; go_at_call 14; (with_reducible refine (I.out _ gA gB (by first | (with_reducible exact gown_rd HATA.out) | (with_reducible exact gown_rd HATA.out.drew) | (with_reducible exact gown_rd (HATA.out.alloc _)) | (with_reducible exact gown_rd (HATA.out.alloc _).drew)) (by first | (with_reducible exact gown_rd HATB.out) | (with_reducible exact gown_rd HATB.out.drew) | (with_reducible exact gown_rd (HATB.out.alloc _)) | (with_reducible exact gown_rd (HATB.out.alloc _).drew))).mono ?_); rintro e wC ⟨a0, cap0, vs0, rfl, hown, hb1⟩; have hz0 := hb1.size; (try simp only [World.size_alloc] at hz0); have hz1 : w14.heap.size ≤ wC.heap.size := (by have hk0 : Kp w14 0 _ := (by with_reducible assumption); have hk1 := hk0.sz; (try simp only [World.size_alloc] at hk1); omega); have HO := hid hown; clear hown; (try (first | (with_reducible have HN := hid (HN.out.below hb1)) | (with_reducible have HN := hid (HN.out.drew.below hb1)) | (with_reducible have HN := hid (new2_kept hb1)) | (with_reducible have HN := hid (new2_kept_drew hb1)))); (try (obtain ⟨m0, m1, mz, m2, m3⟩ := HN.out))))
          all_goals
            go_wp2_with fail
            go_meet
            go_split_ands
            first
              | exact ⟨_, a0, cap0, vs0, rfl, rfl, has2_new _ _ _ _, (HO.out.alloc _).mono (by (try simp only [World.size_alloc]); omega), by omega, by with_reducible assumption⟩
              | exact ⟨_, a0, cap0, vs0, rfl, rfl, has2_set HN.out, (gown_set (gown_set HO.out (by (try simp only [World.size_alloc]); omega) _) (by (try simp only [World.size_alloc]); omega) _).mono (by (try simp only [World.size_alloc]); omega), by omega, by with_reducible assumption⟩
        case rest =>
          obtain ⟨gH, aH, capH, vsH, rfl, rfl, hH, hown, hgH, hk⟩ := hcut
          obtain ⟨w15, rfl⟩ : ∃ wo : World, wo = wc := ⟨_, rfl⟩
          have hb := hk.bel
          clear hk hk2
          clear c0_19 c1_19 z_19 p_19 q_19
          clear c0_20 c1_20 z_20 p_20 q_20
          have s_w15 := hb.size
          (try simp only [World.size_alloc] at s_w15)
          replace P0 := hid (P0.out.below hb)
          replace P1 := hid (P1.out.below hb)
          replace V := hid (V.out.below' hb)
          replace OV := hid (OV.out.below hb)
          replace OG := hid (OG.out.below hb)
          replace G := hid (G.out.below' hb)
          replace B := hid (B.out.trans (hb.mono B.out.size))
          clear hb
          have hgH1 := hH.2.2.1
          have OH := hid hH
          have H := hid hown
          clear hH hown
          obtain ⟨c0_21, c1_21, z_21, p_21, q_21⟩ := OH.out
          obtain ⟨c0_22, c1_22, z_22, p_22, q_22⟩ := OV.out
          go_wp2_with fail
          clear c0_21 c1_21 z_21 p_21 q_21
          clear c0_22 c1_22 z_22 p_22 q_22
          refine (eq_rel m _ _ _ _ zss _ _ _ hz (gown_rd H.out) (gown_rd V.out) (Nat.le_refl _) (Nat.le_refl _)).mono ?_
          rintro e w16 ⟨rfl, hb⟩
          have s_w16 := hb.size
          (try simp only [World.size_alloc] at s_w16)
          replace P0 := hid (P0.out.below hb)
          replace P1 := hid (P1.out.below hb)
          replace V := hid (V.out.below' hb)
          replace OV := hid (OV.out.below hb)
          replace OG := hid (OG.out.below hb)
          replace G := hid (G.out.below' hb)
          replace H := hid (H.out.below' hb)
          replace OH := hid (OH.out.below hb)
          replace B := hid (B.out.trans (hb.mono B.out.size))
          clear hb
          obtain ⟨c0_23, c1_23, z_23, p_23, q_23⟩ := OG.out
          go_wp2_with fail
          refine (held_rel m _ _ _ 1 zss yss _ hz (by omega) (by omega) HM.out (gown_rd' G.out HM.out.1) (Nat.le_refl _)).mono ?_
          rintro e w17 ⟨rfl, hb⟩
          clear c0_23 c1_23 z_23 p_23 q_23
          have s_w17 := hb.size
          (try simp only [World.size_alloc] at s_w17)
          replace P0 := hid (P0.out.below hb)
          replace P1 := hid (P1.out.below hb)
          replace V := hid (V.out.below' hb)
          replace OV := hid (OV.out.below hb)
          replace OG := hid (OG.out.below hb)
          replace G := hid (G.out.below' hb)
          replace H := hid (H.out.below' hb)
          replace OH := hid (OH.out.below hb)
          replace B := hid (B.out.trans (hb.mono B.out.size))
          clear hb
          go_wp2_with fail
          go_ret
          exact ⟨rfl, B.out⟩
end Go.Proofs.Ytffhfnkcbgbliaa.UnionC
