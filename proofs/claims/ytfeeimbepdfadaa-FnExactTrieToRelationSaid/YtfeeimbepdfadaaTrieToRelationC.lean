/- The walk of law FnExactTrieToRelation, where the sizes hold. -/
import Derived.Test.YtfeeimbepdfadaaTrieLaw
import Derived.Test.YtfeeimbepdfadaaRelLaw
import Derived.Test.YtfeeimbepdfadaaRelKit
import Derived.Deep.RegionHeld3
import Derived.Deep.DeepCutAuto
namespace Go.Proofs.Ytfeeimbepdfadaa.TrieToRelationC
open Go.RowKit
open Go.Proofs.Ytfeeimbepdfadaa.Num Go.Proofs.Ytfeeimbepdfadaa.IntRow Go.Proofs.Ytfeeimbepdfadaa.IntLaw Go.Proofs.Ytfeeimbepdfadaa.Grid Go.Proofs.Ytfeeimbepdfadaa.GridMore Go.Proofs.Ytfeeimbepdfadaa.GridLaw Go.Proofs.Ytfeeimbepdfadaa.GridLaw2 Go.Proofs.Ytfeeimbepdfadaa.TrieLaw Go.Proofs.Ytfeeimbepdfadaa.RelLaw Go.Proofs.Ytfeeimbepdfadaa.Keep Go.Proofs.Ytfeeimbepdfadaa.Kept Go.Proofs.Ytfeeimbepdfadaa.Cells Go.Proofs.Ytfeeimbepdfadaa.RelKit
set_option linter.unusedVariables false

set_option maxRecDepth 100000 in
set_option maxHeartbeats 4000000 in
theorem core (n0 : Int) (a0 : Option Addr) (cap0 : Nat) (xss0 : List (List Int)) (a1 : Option Addr) (cap1 : Nat) (xs1 : List Int) (m : Int) (zss : List (List Int)) (ok : Bool) (w : World) (ht : tot xss0 ≤ 1048576) (hn1 : xs1.length ≤ 1048576) (hz : tot zss ≤ 1048576) (r0 : GRd w w.heap.size a0 xss0) (r1 : Rd w w.heap.size a1 xs1)
    (S : RowKit.Hid (∀ (W : World) (g0 g1 : Nat), GRd W W.heap.size (some ⟨g0, 0, none⟩) xss0 → Rd W W.heap.size (some ⟨g1, 0, none⟩) xs1 → Calls Try.prog 36 #[.agg #[.int .i64 n0, .slice (some ⟨g0, 0, none⟩) xss0.length xss0.length], .slice (some ⟨g1, 0, none⟩) xs1.length xs1.length] W fun e w' => ∃ a cap vs, e = .returned (.tuple #[.agg #[.int .i64 m, .slice a zss.length cap], .bool ok]) ∧ GOwn w' W.heap.size eR eI (.slice a zss.length cap) vs zss ∧ Below W.heap.size W w'))
    (I : RowKit.Hid (∀ (W : World) (g0 g1 : Nat), GRd W W.heap.size (some ⟨g0, 0, none⟩) xss0 → Rd W W.heap.size (some ⟨g1, 0, none⟩) xs1 → Calls Try.prog 18 #[.agg #[.int .i64 n0, .slice (some ⟨g0, 0, none⟩) xss0.length xss0.length], .slice (some ⟨g1, 0, none⟩) xs1.length xs1.length] W fun e w' => ∃ a cap vs, e = .returned (.tuple #[.agg #[.int .i64 m, .slice a zss.length cap], .bool ok]) ∧ GOwn w' W.heap.size eR eI (.slice a zss.length cap) vs zss ∧ Below W.heap.size W w')) :
    Calls Try.prog 6 #[.agg #[.int .i64 n0, .slice a0 xss0.length cap0], .slice a1 xs1.length cap1] w fun e w' => e = .returned (.bool true) ∧ Below w.heap.size w w' := by
  have P0 := hid (has2_new w (.int .i64 n0) (.slice a0 xss0.length cap0) 50)
  have B := hid ((Below.refl w.heap.size w).alloc (by simp) (.cells #[.int .i64 n0, .slice a0 xss0.length cap0] 50))
  have t_row1 : ¬ (1048576 : Int) < (xs1.length : Int) := by omega
  have hx0 := each_le (xss := xss0) (m := 1048576) (by omega)
  have hl0 := len_le (xss := xss0) (m := 1048576) (by omega)
  have hne : (ok != ok) = false := by simp
  have hzl := len_le (xss := zss) (m := 1048576) hz
  go_enter Try.func6, Try.ntmps6
  have t_sz0 : ¬ ((1048576 - (tot xss0 : Nat) : Int) < 0) := by omega
  obtain ⟨c0_1, c1_1, z_1, p_1, q_1⟩ := P0.out
  go_wp2_with fail
  refine (sz_tr n0 a0 cap0 w.heap.size xss0 (1048576) (1048576 - (tot xss0 : Nat)) _ (by omega) (by omega) (by omega) (fun j h => by have := hx0 j h; omega) (r0.below B.out) B.out.size (hid (.inr ⟨by omega, by omega⟩))).mono ?_
  rintro e w1 ⟨rfl, hb⟩
  clear c0_1 c1_1 z_1 p_1 q_1
  have s_w1 := hb.size
  (try simp only [World.size_alloc] at s_w1)
  replace P0 := hid (P0.out.below hb)
  replace B := hid (B.out.trans (hb.mono B.out.size))
  clear hb
  obtain ⟨c0_2, c1_2, z_2, p_2, q_2⟩ := P0.out
  go_wp2_with fail
  refine (to_tr n0 a0 cap0 w.heap.size xss0 _ (by omega) (r0.below B.out) B.out.size).mono ?_
  rintro e w2 ⟨vss0, gs0, rfl, hgs0, hown, hb⟩
  clear c0_2 c1_2 z_2 p_2 q_2
  have s_w2 := hb.size
  (try simp only [World.size_alloc] at s_w2)
  replace P0 := hid (P0.out.below hb)
  replace B := hid (B.out.trans (hb.mono B.out.size))
  clear hb
  (try simp only [World.size_alloc] at hgs0)
  have Xs0 := hid hown
  have lgs0 := Xs0.out.lt _ rfl
  clear hown
  go_wp2_with fail
  refine (to_ints a1 cap1 w.heap.size xs1 _ hn1 (r1.below B.out) B.out.size).mono ?_
  rintro e w3 ⟨rfl, hat, hb⟩
  have s_w3 := hb.size
  (try simp only [World.size_alloc] at s_w3)
  replace P0 := hid (P0.out.below hb)
  replace Xs0 := hid (Xs0.out.below' hb)
  replace B := hid (B.out.trans (hb.mono B.out.size))
  clear hb
  have Xs1 := hid hat
  have lgs1 := Xs1.out.lt
  clear hat
  go_wp2_with fail
  refine (S.out _ _ _ (gown_rd Xs0.out) (at_rd Xs1.out)).mono ?_
  rintro e w4 ⟨aV, capV, vsV, rfl, hown, hb⟩
  have s_w4 := hb.size
  (try simp only [World.size_alloc] at s_w4)
  replace P0 := hid (P0.out.below hb)
  replace Xs0 := hid (Xs0.out.below' hb)
  replace Xs1 := hid (at_below' Xs1.out hb)
  replace B := hid (B.out.trans (hb.mono B.out.size))
  clear hb
  (try simp only [World.size_alloc] at hown)
  have V := hid hown
  have UV := hid (gown_under hown)
  clear hown
  clear Xs0
  clear Xs1
  obtain ⟨c0_3, c1_3, z_3, p_3, q_3⟩ := P0.out
  go_wp2_with fail
  clear c0_3 c1_3 z_3 p_3 q_3
  replace P0 := hid (P0.out.alloc (.cells #[.int .i64 m, .slice aV zss.length capV] 26))
  replace V := hid (V.out.alloc (.cells #[.int .i64 m, .slice aV zss.length capV] 26))
  replace B := hid (B.out.alloc B.out.size (.cells #[.int .i64 m, .slice aV zss.length capV] 26))
  have OV := hid (has2_new w4 (.int .i64 m) (.slice aV zss.length capV) 26)
  refine (to_tr n0 a0 cap0 w.heap.size xss0 _ (by omega) (r0.below B.out) B.out.size).mono ?_
  rintro e w5 ⟨vsx0, gx0, rfl, hgx0, hown, hb⟩
  have s_w5 := hb.size
  (try simp only [World.size_alloc] at s_w5)
  replace P0 := hid (P0.out.below hb)
  replace V := hid (V.out.below' hb)
  replace OV := hid (OV.out.below hb)
  replace B := hid (B.out.trans (hb.mono B.out.size))
  clear hb
  (try simp only [World.size_alloc] at hgx0)
  have X0 := hid hown
  have lgx0 := X0.out.lt _ rfl
  have U0 := hid (gown_under hown)
  clear hown
  go_wp2_with fail
  replace P0 := hid (P0.out.alloc (.cells #[.int .i64 n0, .slice (some ⟨gx0, 0, none⟩) xss0.length xss0.length] 30))
  replace V := hid (V.out.alloc (.cells #[.int .i64 n0, .slice (some ⟨gx0, 0, none⟩) xss0.length xss0.length] 30))
  replace OV := hid (OV.out.alloc (.cells #[.int .i64 n0, .slice (some ⟨gx0, 0, none⟩) xss0.length xss0.length] 30))
  replace X0 := hid (X0.out.alloc (.cells #[.int .i64 n0, .slice (some ⟨gx0, 0, none⟩) xss0.length xss0.length] 30))
  replace B := hid (B.out.alloc B.out.size (.cells #[.int .i64 n0, .slice (some ⟨gx0, 0, none⟩) xss0.length xss0.length] 30))
  have Q0 := hid (has2_new w5 (.int .i64 n0) (.slice (some ⟨gx0, 0, none⟩) xss0.length xss0.length) 30)
  refine (to_ints a1 cap1 w.heap.size xs1 _ hn1 (r1.below B.out) B.out.size).mono ?_
  rintro e w6 ⟨rfl, hat, hb⟩
  have s_w6 := hb.size
  (try simp only [World.size_alloc] at s_w6)
  replace P0 := hid (P0.out.below hb)
  replace V := hid (V.out.below' hb)
  replace OV := hid (OV.out.below hb)
  replace X0 := hid (X0.out.below' hb)
  replace Q0 := hid (Q0.out.below hb)
  replace B := hid (B.out.trans (hb.mono B.out.size))
  clear hb
  (try simp only [World.size_alloc] at hat)
  have X1 := hid hat
  have lgx1 := hat.lt
  clear hat
  obtain ⟨c0_4, c1_4, z_4, p_4, q_4⟩ := Q0.out
  go_wp2_with fail
  refine (I.out _ _ _ (gown_rd X0.out) (at_rd X1.out)).mono ?_
  rintro e w7 ⟨aG, capG, vsG, rfl, hown, hb⟩
  clear c0_4 c1_4 z_4 p_4 q_4
  have s_w7 := hb.size
  (try simp only [World.size_alloc] at s_w7)
  replace P0 := hid (P0.out.below hb)
  replace V := hid (V.out.below' hb)
  replace OV := hid (OV.out.below hb)
  replace X0 := hid (X0.out.below' hb)
  replace Q0 := hid (Q0.out.below hb)
  replace X1 := hid (at_below' X1.out hb)
  replace B := hid (B.out.trans (hb.mono B.out.size))
  clear hb
  (try simp only [World.size_alloc] at hown)
  have G := hid hown
  have UG := hid (gown_under hown)
  clear hown
  obtain ⟨c0_5, c1_5, z_5, p_5, q_5⟩ := OV.out
  go_wp2_with fail
  clear c0_5 c1_5 z_5 p_5 q_5
  replace P0 := hid (P0.out.alloc (.cells #[.int .i64 m, .slice aG zss.length capG] 26))
  replace V := hid (V.out.alloc (.cells #[.int .i64 m, .slice aG zss.length capG] 26))
  replace OV := hid (OV.out.alloc (.cells #[.int .i64 m, .slice aG zss.length capG] 26))
  replace X0 := hid (X0.out.alloc (.cells #[.int .i64 m, .slice aG zss.length capG] 26))
  replace Q0 := hid (Q0.out.alloc (.cells #[.int .i64 m, .slice aG zss.length capG] 26))
  replace X1 := hid (X1.out.alloc (.cells #[.int .i64 m, .slice aG zss.length capG] 26))
  replace G := hid (G.out.alloc (.cells #[.int .i64 m, .slice aG zss.length capG] 26))
  replace B := hid (B.out.alloc B.out.size (.cells #[.int .i64 m, .slice aG zss.length capG] 26))
  have OG := hid (has2_new w7 (.int .i64 m) (.slice aG zss.length capG) 26)
  refine (eq_rel m _ _ _ _ zss _ _ _ hz (gown_rd G.out) (gown_rd V.out) (Nat.le_refl _) (Nat.le_refl _)).mono ?_
  rintro e w8 ⟨rfl, hb⟩
  have s_w8 := hb.size
  (try simp only [World.size_alloc] at s_w8)
  replace P0 := hid (P0.out.below hb)
  replace V := hid (V.out.below' hb)
  replace OV := hid (OV.out.below hb)
  replace X0 := hid (X0.out.below' hb)
  replace Q0 := hid (Q0.out.below hb)
  replace X1 := hid (at_below' X1.out hb)
  replace G := hid (G.out.below' hb)
  replace OG := hid (OG.out.below hb)
  replace B := hid (B.out.trans (hb.mono B.out.size))
  clear hb
  have R0 := hid (r0.below B.out)
  obtain ⟨c0_6, c1_6, z_6, p_6, q_6⟩ := Q0.out
  obtain ⟨c0_7, c1_7, z_7, p_7, q_7⟩ := P0.out
  have hk0 := kp_refl w8
  go_upto_region 13 with fail
  go_cut [56] (fun s wx => s = .bool false ∧ Kp w8 0 wx)
  case first =>
    go_region_held3 (fun w' => w'.cell? ⟨w.heap.size, 0, none⟩ = some (.int .i64 n0) ∧ w'.cell? ⟨w.heap.size, 1, none⟩ = some (.slice a0 xss0.length cap0) ∧ w'.cell? ⟨w5.heap.size, 0, none⟩ = some (.int .i64 n0) ∧ w'.cell? ⟨w5.heap.size, 1, none⟩ = some (.slice (some ⟨gx0, 0, none⟩) xss0.length xss0.length) ∧ Kp w8 0 w')
      (first
        | (go_split_ands
           repeat' apply And.intro
           all_goals (first | (with_reducible assumption) | (with_reducible exact cell_drew (by assumption)) | (with_reducible exact Kp.drew (by assumption)) | (with_reducible exact Kp.cell (by assumption) hb1 (by omega) (by assumption)) | (with_reducible exact Kp.call (by assumption) hb1))))
      (first
        | (go_split_ands; go_at_call 35; (with_reducible refine (to_tr _ _ _ w.heap.size xss0 _ (by omega) (grd_kp R0.out (by with_reducible assumption) (by omega)) (kp_le (by with_reducible assumption) (by omega))).mono ?_); rintro e wT ⟨vsT, gT, rfl, hgT, hatT, hb1⟩)
        | (go_split_ands; go_at_call 26; (with_reducible refine (eq_tr _ _ _ _ _ xss0 w8.heap.size wT.heap.size _ (by omega) (grd_kp (gown_rd X0.out) (by with_reducible assumption) (Nat.le_refl _)) (by first | exact gown_rd hatT | exact gown_rd hatT.drew) (kp_le (by with_reducible assumption) (Nat.le_refl _)) (by first | exact Nat.le_refl _ | simp)).mono ?_); rintro e wU ⟨rfl, hb1⟩))
    all_goals
      go_wp2_with fail
      go_meet
      go_split_ands
      exact ⟨rfl, by with_reducible assumption⟩
  case rest =>
    obtain ⟨rfl, hk⟩ := hcut
    obtain ⟨w9, rfl⟩ : ∃ wo : World, wo = wc := ⟨_, rfl⟩
    clear hk0
    clear c0_6 c1_6 z_6 p_6 q_6
    clear c0_7 c1_7 z_7 p_7 q_7
    have hb := hk.bel
    clear hk
    have s_w9 := hb.size
    (try simp only [World.size_alloc] at s_w9)
    replace P0 := hid (P0.out.below hb)
    replace V := hid (V.out.below' hb)
    replace OV := hid (OV.out.below hb)
    replace X0 := hid (X0.out.below' hb)
    replace Q0 := hid (Q0.out.below hb)
    replace X1 := hid (at_below' X1.out hb)
    replace G := hid (G.out.below' hb)
    replace OG := hid (OG.out.below hb)
    replace B := hid (B.out.trans (hb.mono B.out.size))
    clear hb
    go_wp2_with fail
    refine (to_ints a1 cap1 w.heap.size xs1 _ hn1 (r1.below B.out) B.out.size).mono ?_
    rintro e w10 ⟨rfl, hat, hb⟩
    have s_w10 := hb.size
    (try simp only [World.size_alloc] at s_w10)
    replace P0 := hid (P0.out.below hb)
    replace V := hid (V.out.below' hb)
    replace OV := hid (OV.out.below hb)
    replace X0 := hid (X0.out.below' hb)
    replace Q0 := hid (Q0.out.below hb)
    replace X1 := hid (at_below' X1.out hb)
    replace G := hid (G.out.below' hb)
    replace OG := hid (OG.out.below hb)
    replace B := hid (B.out.trans (hb.mono B.out.size))
    clear hb
    have T1 := hid hat
    clear hat
    go_wp2_with fail
    refine (eq_ints _ _ _ _ xs1 _ _ _ hn1 (at_rd X1.out) (at_rd T1.out) (Nat.le_refl _) (Nat.le_refl _)).mono ?_
    rintro e w11 ⟨rfl, hb⟩
    have s_w11 := hb.size
    (try simp only [World.size_alloc] at s_w11)
    replace P0 := hid (P0.out.below hb)
    replace V := hid (V.out.below' hb)
    replace OV := hid (OV.out.below hb)
    replace X0 := hid (X0.out.below' hb)
    replace Q0 := hid (Q0.out.below hb)
    replace X1 := hid (at_below' X1.out hb)
    replace G := hid (G.out.below' hb)
    replace OG := hid (OG.out.below hb)
    replace T1 := hid (at_below' T1.out hb)
    replace B := hid (B.out.trans (hb.mono B.out.size))
    clear hb
    clear T1
    have hi0 := ints_le xss0
    obtain ⟨c0_8, c1_8, z_8, p_8, q_8⟩ := Q0.out
    go_wp2_with fail
    refine (mark_tr gx0 w5.heap.size n0 _ _ (1) xss0 _ (by omega) (by omega) (by omega) X0.out U0.out).mono ?_
    rintro e w12 ⟨yss0, rfl, _, _, ht⟩
    clear c0_8 c1_8 z_8 p_8 q_8
    clear X0
    replace P0 := hid (has2_turned P0.out ht (by omega))
    replace V := hid (gown_turned V.out ht (.inr (UV.out.mono (by omega))))
    replace OV := hid (has2_turned OV.out ht (by omega))
    replace Q0 := hid (has2_turned Q0.out ht (by omega))
    replace X1 := hid (at_turned X1.out ht (by omega))
    replace G := hid (gown_turned G.out ht (.inl (by omega)))
    replace OG := hid (has2_turned OG.out ht (by omega))
    replace B := hid (B.out.trans ((ht.below (by omega)).mono (by omega)))
    have s_t12 := ht.size
    clear ht
    go_wp2_with fail
    refine (mark_ints _ _ (1 + (ints xss0 : Nat)) xs1 _ hn1 (by omega) (by omega) X1.out).mono ?_
    rintro e w13 ⟨rfl, _, hgr⟩
    have ht := turn_row hgr
    clear hgr X1
    replace P0 := hid (has2_turned P0.out ht (by omega))
    replace V := hid (gown_turned V.out ht (.inr (UV.out.mono (by omega))))
    replace OV := hid (has2_turned OV.out ht (by omega))
    replace Q0 := hid (has2_turned Q0.out ht (by omega))
    replace G := hid (gown_turned G.out ht (.inl (by omega)))
    replace OG := hid (has2_turned OG.out ht (by omega))
    replace B := hid (B.out.trans ((ht.below (by omega)).mono (by omega)))
    have s_t13 := ht.size
    clear ht
    have t_k : ¬ (1 + (ints xss0 : Nat) + (xs1.length : Int) < 0) := by omega
    obtain ⟨c0_9, c1_9, z_9, p_9, q_9⟩ := OG.out
    obtain ⟨c0_10, c1_10, z_10, p_10, q_10⟩ := OV.out
    go_wp2_with fail
    refine (eq_rel m _ _ _ _ zss _ _ _ hz (gown_rd G.out) (gown_rd V.out) (Nat.le_refl _) (Nat.le_refl _)).mono ?_
    rintro e w14 ⟨rfl, hb⟩
    clear c0_9 c1_9 z_9 p_9 q_9
    clear c0_10 c1_10 z_10 p_10 q_10
    have s_w14 := hb.size
    (try simp only [World.size_alloc] at s_w14)
    replace P0 := hid (P0.out.below hb)
    replace V := hid (V.out.below' hb)
    replace OV := hid (OV.out.below hb)
    replace Q0 := hid (Q0.out.below hb)
    replace G := hid (G.out.below' hb)
    replace OG := hid (OG.out.below hb)
    replace B := hid (B.out.trans (hb.mono B.out.size))
    clear hb
    clear Q0
    have hiz := ints_le zss
    have hneg : ¬ ((1 : Int) + (ints zss : Nat) < 0) := by omega
    have hsame : (((1 : Int) + (ints zss : Nat)) != ((1 : Int) + (ints zss : Nat))) = false := by simp
    obtain ⟨c0_11, c1_11, z_11, p_11, q_11⟩ := OG.out
    go_wp2_with fail
    refine (mark_rel _ w7.heap.size m _ _ 1 zss _ hz (by omega) (by omega) G.out UG.out).mono ?_
    rintro e w15 ⟨yss, rfl, hown, hm, ht⟩
    clear c0_11 c1_11 z_11 p_11 q_11
    have HM := hid hm
    clear hm G
    replace P0 := hid (has2_turned P0.out ht (by omega))
    replace V := hid (gown_turned V.out ht (.inr (UV.out.mono (by omega))))
    replace OV := hid (has2_turned OV.out ht (by omega))
    replace OG := hid (has2_turned OG.out ht (by omega))
    replace B := hid (B.out.trans ((ht.below (by omega)).mono (by omega)))
    have s_t15 := ht.size
    clear ht
    have G := hid hown
    clear hown
    obtain ⟨c0_12, c1_12, z_12, p_12, q_12⟩ := OG.out
    go_wp2_with fail
    refine (held_rel m _ _ _ 1 zss yss _ hz (by omega) (by omega) HM.out (gown_rd' G.out HM.out.1) (Nat.le_refl _)).mono ?_
    rintro e w16 ⟨rfl, hb⟩
    clear c0_12 c1_12 z_12 p_12 q_12
    have s_w16 := hb.size
    (try simp only [World.size_alloc] at s_w16)
    replace P0 := hid (P0.out.below hb)
    replace V := hid (V.out.below' hb)
    replace OV := hid (OV.out.below hb)
    replace OG := hid (OG.out.below hb)
    replace G := hid (G.out.below' hb)
    replace B := hid (B.out.trans (hb.mono B.out.size))
    clear hb
    obtain ⟨c0_13, c1_13, z_13, p_13, q_13⟩ := P0.out
    go_wp2_with fail
    refine (to_tr n0 a0 cap0 w.heap.size xss0 _ (by omega) (r0.below B.out) B.out.size).mono ?_
    rintro e w17 ⟨vsh0, gh0, rfl, hgh0, hown, hb⟩
    clear c0_13 c1_13 z_13 p_13 q_13
    have s_w17 := hb.size
    (try simp only [World.size_alloc] at s_w17)
    replace P0 := hid (P0.out.below hb)
    replace V := hid (V.out.below' hb)
    replace OV := hid (OV.out.below hb)
    replace OG := hid (OG.out.below hb)
    replace G := hid (G.out.below' hb)
    replace B := hid (B.out.trans (hb.mono B.out.size))
    clear hb
    (try simp only [World.size_alloc] at hgh0)
    have Xh0 := hid hown
    have lgh0 := Xh0.out.lt _ rfl
    clear hown
    go_wp2_with fail
    refine (to_ints a1 cap1 w.heap.size xs1 _ hn1 (r1.below B.out) B.out.size).mono ?_
    rintro e w18 ⟨rfl, hat, hb⟩
    have s_w18 := hb.size
    (try simp only [World.size_alloc] at s_w18)
    replace P0 := hid (P0.out.below hb)
    replace V := hid (V.out.below' hb)
    replace OV := hid (OV.out.below hb)
    replace OG := hid (OG.out.below hb)
    replace G := hid (G.out.below' hb)
    replace Xh0 := hid (Xh0.out.below' hb)
    replace B := hid (B.out.trans (hb.mono B.out.size))
    clear hb
    have Xh1 := hid hat
    have lgh1 := Xh1.out.lt
    clear hat
    go_wp2_with fail
    refine (I.out _ _ _ (gown_rd Xh0.out) (at_rd Xh1.out)).mono ?_
    rintro e w19 ⟨aH, capH, vsH, rfl, hown, hb⟩
    have s_w19 := hb.size
    (try simp only [World.size_alloc] at s_w19)
    replace P0 := hid (P0.out.below hb)
    replace V := hid (V.out.below' hb)
    replace OV := hid (OV.out.below hb)
    replace OG := hid (OG.out.below hb)
    replace G := hid (G.out.below' hb)
    replace Xh0 := hid (Xh0.out.below' hb)
    replace Xh1 := hid (at_below' Xh1.out hb)
    replace B := hid (B.out.trans (hb.mono B.out.size))
    clear hb
    have H := hid hown
    clear hown
    clear Xh0
    clear Xh1
    obtain ⟨c0_14, c1_14, z_14, p_14, q_14⟩ := OV.out
    go_wp2_with fail
    clear c0_14 c1_14 z_14 p_14 q_14
    replace P0 := hid (P0.out.alloc (.cells #[.int .i64 m, .slice aH zss.length capH] 26))
    replace V := hid (V.out.alloc (.cells #[.int .i64 m, .slice aH zss.length capH] 26))
    replace OV := hid (OV.out.alloc (.cells #[.int .i64 m, .slice aH zss.length capH] 26))
    replace OG := hid (OG.out.alloc (.cells #[.int .i64 m, .slice aH zss.length capH] 26))
    replace G := hid (G.out.alloc (.cells #[.int .i64 m, .slice aH zss.length capH] 26))
    replace H := hid (H.out.alloc (.cells #[.int .i64 m, .slice aH zss.length capH] 26))
    replace B := hid (B.out.alloc B.out.size (.cells #[.int .i64 m, .slice aH zss.length capH] 26))
    refine (eq_rel m _ _ _ _ zss _ _ _ hz (gown_rd H.out) (gown_rd V.out) (Nat.le_refl _) (Nat.le_refl _)).mono ?_
    rintro e w20 ⟨rfl, hb⟩
    have s_w20 := hb.size
    (try simp only [World.size_alloc] at s_w20)
    replace P0 := hid (P0.out.below hb)
    replace V := hid (V.out.below' hb)
    replace OV := hid (OV.out.below hb)
    replace OG := hid (OG.out.below hb)
    replace G := hid (G.out.below' hb)
    replace H := hid (H.out.below' hb)
    replace B := hid (B.out.trans (hb.mono B.out.size))
    clear hb
    obtain ⟨c0_15, c1_15, z_15, p_15, q_15⟩ := OG.out
    go_wp2_with fail
    refine (held_rel m _ _ _ 1 zss yss _ hz (by omega) (by omega) HM.out (gown_rd' G.out HM.out.1) (Nat.le_refl _)).mono ?_
    rintro e w21 ⟨rfl, hb⟩
    clear c0_15 c1_15 z_15 p_15 q_15
    have s_w21 := hb.size
    (try simp only [World.size_alloc] at s_w21)
    replace P0 := hid (P0.out.below hb)
    replace V := hid (V.out.below' hb)
    replace OV := hid (OV.out.below hb)
    replace OG := hid (OG.out.below hb)
    replace G := hid (G.out.below' hb)
    replace H := hid (H.out.below' hb)
    replace B := hid (B.out.trans (hb.mono B.out.size))
    clear hb
    go_wp2_with fail
    go_ret
    exact ⟨rfl, B.out⟩
end Go.Proofs.Ytfeeimbepdfadaa.TrieToRelationC
