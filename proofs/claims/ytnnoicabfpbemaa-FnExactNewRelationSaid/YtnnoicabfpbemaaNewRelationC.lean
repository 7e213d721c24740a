/- The walk of law FnExactNewRelation, where the sizes hold. -/
import Derived.Test.YtnnoicabfpbemaaRelLaw
import Derived.Test.YtnnoicabfpbemaaRelKit
import Derived.Deep.RegionHeld3
import Derived.Deep.DeepCutAuto
namespace Go.Proofs.Ytnnoicabfpbemaa.NewRelationC
open Go.RowKit
open Go.Proofs.Ytnnoicabfpbemaa.Num Go.Proofs.Ytnnoicabfpbemaa.IntRow Go.Proofs.Ytnnoicabfpbemaa.IntLaw Go.Proofs.Ytnnoicabfpbemaa.Grid Go.Proofs.Ytnnoicabfpbemaa.GridMore Go.Proofs.Ytnnoicabfpbemaa.GridLaw Go.Proofs.Ytnnoicabfpbemaa.GridLaw2 Go.Proofs.Ytnnoicabfpbemaa.RelLaw Go.Proofs.Ytnnoicabfpbemaa.Keep Go.Proofs.Ytnnoicabfpbemaa.Kept Go.Proofs.Ytnnoicabfpbemaa.Cells Go.Proofs.Ytnnoicabfpbemaa.RelKit
set_option linter.unusedVariables false

set_option maxRecDepth 100000 in
set_option maxHeartbeats 4000000 in
theorem core (n0 : Int) (a1 : Option Addr) (cap1 : Nat) (xss1 : List (List Int)) (m : Int) (zss : List (List Int)) (ok : Bool) (w : World) (ht : tot xss1 ≤ 1048576) (hz : tot zss ≤ 1048576) (r1 : GRd w w.heap.size a1 xss1)
    (S : RowKit.Hid (∀ (W : World) (g1 : Nat), GRd W W.heap.size (some ⟨g1, 0, none⟩) xss1 → Calls Try.prog 32 #[.int .i64 n0, .slice (some ⟨g1, 0, none⟩) xss1.length xss1.length] W fun e w' => ∃ a cap vs, e = .returned (.tuple #[.agg #[.int .i64 m, .slice a zss.length cap], .bool ok]) ∧ GOwn w' W.heap.size eR eI (.slice a zss.length cap) vs zss ∧ Below W.heap.size W w'))
    (I : RowKit.Hid (∀ (W : World) (g1 : Nat), GRd W W.heap.size (some ⟨g1, 0, none⟩) xss1 → Calls Try.prog 31 #[.int .i64 n0, .slice (some ⟨g1, 0, none⟩) xss1.length xss1.length] W fun e w' => ∃ a cap vs, e = .returned (.tuple #[.agg #[.int .i64 m, .slice a zss.length cap], .bool ok]) ∧ GOwn w' W.heap.size eR eI (.slice a zss.length cap) vs zss ∧ Below W.heap.size W w')) :
    Calls Try.prog 8 #[.int .i64 n0, .slice a1 xss1.length cap1] w fun e w' => e = .returned (.bool true) ∧ Below w.heap.size w w' := by
  have B := hid (Below.refl w.heap.size w)
  have hx1 := each_le (xss := xss1) (m := 1048576) (by omega)
  have hl1 := len_le (xss := xss1) (m := 1048576) (by omega)
  have hne : (ok != ok) = false := by simp
  have hzl := len_le (xss := zss) (m := 1048576) hz
  go_enter Try.func8, Try.ntmps8
  have t_sz1 : ¬ ((1048576 - (tot xss1 : Nat) : Int) < 0) := by omega
  go_wp2_with fail
  refine (sz_ss a1 cap1 w.heap.size xss1 (1048576) (1048576 - (tot xss1 : Nat)) _ (by omega) (by omega) (by omega) (fun j h => by have := hx1 j h; omega) (r1.below B.out) (hid (.inr ⟨by omega, by omega⟩))).mono ?_
  rintro e w' ⟨rfl, rfl⟩
  go_wp2_with fail
  refine (to_ss a1 cap1 w.heap.size xss1 _ (by omega) (r1.below B.out) B.out.size).mono ?_
  rintro e w1 ⟨vss1, rfl, hown, hb⟩
  have s_w1 := hb.size
  (try simp only [World.size_alloc] at s_w1)
  replace B := hid (B.out.trans (hb.mono B.out.size))
  clear hb
  (try simp only [World.size_alloc] at hown)
  have Xs1 := hid hown
  have lgs1 := Xs1.out.lt _ rfl
  clear hown
  go_wp2_with fail
  refine (S.out _ _ (gown_rd Xs1.out)).mono ?_
  rintro e w2 ⟨aV, capV, vsV, rfl, hown, hb⟩
  have s_w2 := hb.size
  (try simp only [World.size_alloc] at s_w2)
  replace Xs1 := hid (Xs1.out.below' hb)
  replace B := hid (B.out.trans (hb.mono B.out.size))
  clear hb
  (try simp only [World.size_alloc] at hown)
  have V := hid hown
  have UV := hid (gown_under hown)
  clear hown
  clear Xs1
  go_wp2_with fail
  replace V := hid (V.out.alloc (.cells #[.int .i64 m, .slice aV zss.length capV] 26))
  replace B := hid (B.out.alloc B.out.size (.cells #[.int .i64 m, .slice aV zss.length capV] 26))
  have OV := hid (has2_new w2 (.int .i64 m) (.slice aV zss.length capV) 26)
  refine (to_ss a1 cap1 w.heap.size xss1 _ (by omega) (r1.below B.out) B.out.size).mono ?_
  rintro e w3 ⟨vsx1, rfl, hown, hb⟩
  have s_w3 := hb.size
  (try simp only [World.size_alloc] at s_w3)
  replace V := hid (V.out.below' hb)
  replace OV := hid (OV.out.below hb)
  replace B := hid (B.out.trans (hb.mono B.out.size))
  clear hb
  (try simp only [World.size_alloc] at hown)
  have X1 := hid hown
  have lgx1 := X1.out.lt _ rfl
  have U1 := hid (gown_under hown)
  clear hown
  go_wp2_with fail
  refine (I.out _ _ (gown_rd X1.out)).mono ?_
  rintro e w4 ⟨aG, capG, vsG, rfl, hown, hb⟩
  have s_w4 := hb.size
  (try simp only [World.size_alloc] at s_w4)
  replace V := hid (V.out.below' hb)
  replace OV := hid (OV.out.below hb)
  replace X1 := hid (X1.out.below' hb)
  replace B := hid (B.out.trans (hb.mono B.out.size))
  clear hb
  (try simp only [World.size_alloc] at hown)
  have G := hid hown
  have UG := hid (gown_under hown)
  clear hown
  obtain ⟨c0_1, c1_1, z_1, p_1, q_1⟩ := OV.out
  go_wp2_with fail
  clear c0_1 c1_1 z_1 p_1 q_1
  replace V := hid (V.out.alloc (.cells #[.int .i64 m, .slice aG zss.length capG] 26))
  replace OV := hid (OV.out.alloc (.cells #[.int .i64 m, .slice aG zss.length capG] 26))
  replace X1 := hid (X1.out.alloc (.cells #[.int .i64 m, .slice aG zss.length capG] 26))
  replace G := hid (G.out.alloc (.cells #[.int .i64 m, .slice aG zss.length capG] 26))
  replace B := hid (B.out.alloc B.out.size (.cells #[.int .i64 m, .slice aG zss.length capG] 26))
  have OG := hid (has2_new w4 (.int .i64 m) (.slice aG zss.length capG) 26)
  refine (eq_rel m _ _ _ _ zss _ _ _ hz (gown_rd G.out) (gown_rd V.out) (Nat.le_refl _) (Nat.le_refl _)).mono ?_
  rintro e w5 ⟨rfl, hb⟩
  have s_w5 := hb.size
  (try simp only [World.size_alloc] at s_w5)
  replace V := hid (V.out.below' hb)
  replace OV := hid (OV.out.below hb)
  replace X1 := hid (X1.out.below' hb)
  replace G := hid (G.out.below' hb)
  replace OG := hid (OG.out.below hb)
  replace B := hid (B.out.trans (hb.mono B.out.size))
  clear hb
  go_wp2_with fail
  refine (to_ss a1 cap1 w.heap.size xss1 _ (by omega) (r1.below B.out) B.out.size).mono ?_
  rintro e w6 ⟨vsT, rfl, hown, hb⟩
  have s_w6 := hb.size
  (try simp only [World.size_alloc] at s_w6)
  replace V := hid (V.out.below' hb)
  replace OV := hid (OV.out.below hb)
  replace X1 := hid (X1.out.below' hb)
  replace G := hid (G.out.below' hb)
  replace OG := hid (OG.out.below hb)
  replace B := hid (B.out.trans (hb.mono B.out.size))
  clear hb
  have T1 := hid hown
  clear hown
  go_wp2_with fail
  refine (eq_ss _ _ _ _ xss1 _ _ _ (by omega) (gown_rd X1.out) (gown_rd T1.out) (Nat.le_refl _) (Nat.le_refl _)).mono ?_
  rintro e w7 ⟨rfl, hb⟩
  have s_w7 := hb.size
  (try simp only [World.size_alloc] at s_w7)
  replace V := hid (V.out.below' hb)
  replace OV := hid (OV.out.below hb)
  replace X1 := hid (X1.out.below' hb)
  replace G := hid (G.out.below' hb)
  replace OG := hid (OG.out.below hb)
  replace T1 := hid (T1.out.below' hb)
  replace B := hid (B.out.trans (hb.mono B.out.size))
  clear hb
  clear T1
  have hi1 := ints_le xss1
  go_wp2_with fail
  refine (mark_ss (w2.heap.size + 1) w3.heap.size _ _ (1) xss1 _ (by omega) (by omega) (by omega) X1.out U1.out).mono ?_
  rintro e w8 ⟨yss1, rfl, _, _, ht⟩
  clear X1
  replace V := hid (gown_turned V.out ht (.inr (UV.out.mono (by omega))))
  replace OV := hid (has2_turned OV.out ht (by omega))
  replace G := hid (gown_turned G.out ht (.inl (by omega)))
  replace OG := hid (has2_turned OG.out ht (by omega))
  replace B := hid (B.out.trans ((ht.below (by omega)).mono (by omega)))
  have s_t8 := ht.size
  clear ht
  have t_k : ¬ (1 + (ints xss1 : Nat) < 0) := by omega
  obtain ⟨c0_2, c1_2, z_2, p_2, q_2⟩ := OG.out
  obtain ⟨c0_3, c1_3, z_3, p_3, q_3⟩ := OV.out
  go_wp2_with fail
  refine (eq_rel m _ _ _ _ zss _ _ _ hz (gown_rd G.out) (gown_rd V.out) (Nat.le_refl _) (Nat.le_refl _)).mono ?_
  rintro e w9 ⟨rfl, hb⟩
  clear c0_2 c1_2 z_2 p_2 q_2
  clear c0_3 c1_3 z_3 p_3 q_3
  have s_w9 := hb.size
  (try simp only [World.size_alloc] at s_w9)
  replace V := hid (V.out.below' hb)
  replace OV := hid (OV.out.below hb)
  replace G := hid (G.out.below' hb)
  replace OG := hid (OG.out.below hb)
  replace B := hid (B.out.trans (hb.mono B.out.size))
  clear hb
  have hiz := ints_le zss
  have hneg : ¬ ((1 : Int) + (ints zss : Nat) < 0) := by omega
  have hsame : (((1 : Int) + (ints zss : Nat)) != ((1 : Int) + (ints zss : Nat))) = false := by simp
  obtain ⟨c0_4, c1_4, z_4, p_4, q_4⟩ := OG.out
  go_wp2_with fail
  refine (mark_rel _ w4.heap.size m _ _ 1 zss _ hz (by omega) (by omega) G.out UG.out).mono ?_
  rintro e w10 ⟨yss, rfl, hown, hm, ht⟩
  clear c0_4 c1_4 z_4 p_4 q_4
  have HM := hid hm
  clear hm G
  replace V := hid (gown_turned V.out ht (.inr (UV.out.mono (by omega))))
  replace OV := hid (has2_turned OV.out ht (by omega))
  replace OG := hid (has2_turned OG.out ht (by omega))
  replace B := hid (B.out.trans ((ht.below (by omega)).mono (by omega)))
  have s_t10 := ht.size
  clear ht
  have G := hid hown
  clear hown
  obtain ⟨c0_5, c1_5, z_5, p_5, q_5⟩ := OG.out
  go_wp2_with fail
  refine (held_rel m _ _ _ 1 zss yss _ hz (by omega) (by omega) HM.out (gown_rd' G.out HM.out.1) (Nat.le_refl _)).mono ?_
  rintro e w11 ⟨rfl, hb⟩
  clear c0_5 c1_5 z_5 p_5 q_5
  have s_w11 := hb.size
  (try simp only [World.size_alloc] at s_w11)
  replace V := hid (V.out.below' hb)
  replace OV := hid (OV.out.below hb)
  replace OG := hid (OG.out.below hb)
  replace G := hid (G.out.below' hb)
  replace B := hid (B.out.trans (hb.mono B.out.size))
  clear hb
  go_wp2_with fail
  refine (to_ss a1 cap1 w.heap.size xss1 _ (by omega) (r1.below B.out) B.out.size).mono ?_
  rintro e w12 ⟨vsh1, rfl, hown, hb⟩
  have s_w12 := hb.size
  (try simp only [World.size_alloc] at s_w12)
  replace V := hid (V.out.below' hb)
  replace OV := hid (OV.out.below hb)
  replace OG := hid (OG.out.below hb)
  replace G := hid (G.out.below' hb)
  replace B := hid (B.out.trans (hb.mono B.out.size))
  clear hb
  (try simp only [World.size_alloc] at hown)
  have Xh1 := hid hown
  have lgh1 := Xh1.out.lt _ rfl
  clear hown
  go_wp2_with fail
  refine (I.out _ _ (gown_rd Xh1.out)).mono ?_
  rintro e w13 ⟨aH, capH, vsH, rfl, hown, hb⟩
  have s_w13 := hb.size
  (try simp only [World.size_alloc] at s_w13)
  replace V := hid (V.out.below' hb)
  replace OV := hid (OV.out.below hb)
  replace OG := hid (OG.out.below hb)
  replace G := hid (G.out.below' hb)
  replace Xh1 := hid (Xh1.out.below' hb)
  replace B := hid (B.out.trans (hb.mono B.out.size))
  clear hb
  have H := hid hown
  clear hown
  clear Xh1
  obtain ⟨c0_6, c1_6, z_6, p_6, q_6⟩ := OV.out
  go_wp2_with fail
  clear c0_6 c1_6 z_6 p_6 q_6
  replace V := hid (V.out.alloc (.cells #[.int .i64 m, .slice aH zss.length capH] 26))
  replace OV := hid (OV.out.alloc (.cells #[.int .i64 m, .slice aH zss.length capH] 26))
  replace OG := hid (OG.out.alloc (.cells #[.int .i64 m, .slice aH zss.length capH] 26))
  replace G := hid (G.out.alloc (.cells #[.int .i64 m, .slice aH zss.length capH] 26))
  replace H := hid (H.out.alloc (.cells #[.int .i64 m, .slice aH zss.length capH] 26))
  replace B := hid (B.out.alloc B.out.size (.cells #[.int .i64 m, .slice aH zss.length capH] 26))
  refine (eq_rel m _ _ _ _ zss _ _ _ hz (gown_rd H.out) (gown_rd V.out) (Nat.le_refl _) (Nat.le_refl _)).mono ?_
  rintro e w14 ⟨rfl, hb⟩
  have s_w14 := hb.size
  (try simp only [World.size_alloc] at s_w14)
  replace V := hid (V.out.below' hb)
  replace OV := hid (OV.out.below hb)
  replace OG := hid (OG.out.below hb)
  replace G := hid (G.out.below' hb)
  replace H := hid (H.out.below' hb)
  replace B := hid (B.out.trans (hb.mono B.out.size))
  clear hb
  obtain ⟨c0_7, c1_7, z_7, p_7, q_7⟩ := OG.out
  go_wp2_with fail
  refine (held_rel m _ _ _ 1 zss yss _ hz (by omega) (by omega) HM.out (gown_rd' G.out HM.out.1) (Nat.le_refl _)).mono ?_
  rintro e w15 ⟨rfl, hb⟩
  clear c0_7 c1_7 z_7 p_7 q_7
  have s_w15 := hb.size
  (try simp only [World.size_alloc] at s_w15)
  replace V := hid (V.out.below' hb)
  replace OV := hid (OV.out.below hb)
  replace OG := hid (OG.out.below hb)
  replace G := hid (G.out.below' hb)
  replace H := hid (H.out.below' hb)
  replace B := hid (B.out.trans (hb.mono B.out.size))
  clear hb
  go_wp2_with fail
  go_ret
  exact ⟨rfl, B.out⟩
end Go.Proofs.Ytnnoicabfpbemaa.NewRelationC
