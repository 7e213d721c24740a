/- The walk of law FnExactEqualRelations, where the sizes hold. -/
import Derived.Test.YtlacmglkimkjaabRelLaw
import Derived.Test.YtlacmglkimkjaabRelKit
import Derived.Deep.RegionHeld3
import Derived.Deep.DeepCutAuto
namespace Go.Proofs.Ytlacmglkimkjaab.EqualRelationsC
open Go.RowKit
open Go.Proofs.Ytlacmglkimkjaab.Num Go.Proofs.Ytlacmglkimkjaab.IntRow Go.Proofs.Ytlacmglkimkjaab.IntLaw Go.Proofs.Ytlacmglkimkjaab.Grid Go.Proofs.Ytlacmglkimkjaab.GridMore Go.Proofs.Ytlacmglkimkjaab.GridLaw Go.Proofs.Ytlacmglkimkjaab.GridLaw2 Go.Proofs.Ytlacmglkimkjaab.RelLaw Go.Proofs.Ytlacmglkimkjaab.Keep Go.Proofs.Ytlacmglkimkjaab.Kept Go.Proofs.Ytlacmglkimkjaab.Cells Go.Proofs.Ytlacmglkimkjaab.RelKit
set_option linter.unusedVariables false

set_option maxRecDepth 100000 in
set_option maxHeartbeats 4000000 in
theorem core (n0 : Int) (a0 : Option Addr) (cap0 : Nat) (xss0 : List (List Int)) (n1 : Int) (a1 : Option Addr) (cap1 : Nat) (xss1 : List (List Int)) (c : Bool) (w : World) (ht : tot xss0 + tot xss1 ≤ 1048576) (r0 : GRd w w.heap.size a0 xss0) (r1 : GRd w w.heap.size a1 xss1)
    (S : RowKit.Hid (∀ (W : World) (g0 g1 : Nat), GRd W W.heap.size (some ⟨g0, 0, none⟩) xss0 → GRd W W.heap.size (some ⟨g1, 0, none⟩) xss1 → Calls Try.prog 5 #[.agg #[.int .i64 n0, .slice (some ⟨g0, 0, none⟩) xss0.length xss0.length], .agg #[.int .i64 n1, .slice (some ⟨g1, 0, none⟩) xss1.length xss1.length]] W fun e w' => e = .returned (.bool c) ∧ Below W.heap.size W w'))
    (I : RowKit.Hid (∀ (W : World) (g0 g1 : Nat), GRd W W.heap.size (some ⟨g0, 0, none⟩) xss0 → GRd W W.heap.size (some ⟨g1, 0, none⟩) xss1 → Calls Try.prog 7 #[.agg #[.int .i64 n0, .slice (some ⟨g0, 0, none⟩) xss0.length xss0.length], .agg #[.int .i64 n1, .slice (some ⟨g1, 0, none⟩) xss1.length xss1.length]] W fun e w' => e = .returned (.bool c) ∧ Below W.heap.size W w')) :
    Calls Try.prog 3 #[.agg #[.int .i64 n0, .slice a0 xss0.length cap0], .agg #[.int .i64 n1, .slice a1 xss1.length cap1]] w fun e w' => e = .returned (.bool true) ∧ Below w.heap.size w w' := by
  have P0 := hid (has2_new w (.int .i64 n0) (.slice a0 xss0.length cap0) 24)
  have P1 := hid (has2_new (w.alloc (.cells #[.int .i64 n0, .slice a0 xss0.length cap0] 24)) (.int .i64 n1) (.slice a1 xss1.length cap1) 24)
  replace P0 := hid (P0.out.alloc (.cells #[.int .i64 n1, .slice a1 xss1.length cap1] 24))
  simp only [World.size_alloc] at P1
  have B := hid (((Below.refl w.heap.size w).alloc (by simp) (.cells #[.int .i64 n0, .slice a0 xss0.length cap0] 24)).alloc (by simp) (.cells #[.int .i64 n1, .slice a1 xss1.length cap1] 24))
  have hx0 := each_le (xss := xss0) (m := 1048576) (by omega)
  have hl0 := len_le (xss := xss0) (m := 1048576) (by omega)
  have hx1 := each_le (xss := xss1) (m := 1048576) (by omega)
  have hl1 := len_le (xss := xss1) (m := 1048576) (by omega)
  have hne : (c != c) = false := by simp
  go_enter Try.func3, Try.ntmps3
  have t_sz0 : ¬ ((1048576 - (tot xss0 : Nat) : Int) < 0) := by omega
  obtain ⟨c0_1, c1_1, z_1, p_1, q_1⟩ := P0.out
  go_wp2_with fail
  refine (sz_rel n0 a0 cap0 w.heap.size xss0 (1048576) (1048576 - (tot xss0 : Nat)) _ (by omega) (by omega) (by omega) (fun j h => by have := hx0 j h; omega) (r0.below B.out) B.out.size (hid (.inr ⟨by omega, by omega⟩))).mono ?_
  rintro e w1 ⟨rfl, hb⟩
  clear c0_1 c1_1 z_1 p_1 q_1
  replace P0 := hid (P0.out.below hb)
  replace P1 := hid (P1.out.below hb)
  replace B := hid (B.out.trans (hb.mono B.out.size))
  clear hb
  have t_sz1 : ¬ ((1048576 - (tot xss0 : Nat) - (tot xss1 : Nat) : Int) < 0) := by omega
  obtain ⟨c0_2, c1_2, z_2, p_2, q_2⟩ := P1.out
  go_wp2_with fail
  refine (sz_rel n1 a1 cap1 w.heap.size xss1 (1048576 - (tot xss0 : Nat)) (1048576 - (tot xss0 : Nat) - (tot xss1 : Nat)) _ (by omega) (by omega) (by omega) (fun j h => by have := hx1 j h; omega) (r1.below B.out) B.out.size (hid (.inr ⟨by omega, by omega⟩))).mono ?_
  rintro e w2 ⟨rfl, hb⟩
  clear c0_2 c1_2 z_2 p_2 q_2
  replace P0 := hid (P0.out.below hb)
  replace P1 := hid (P1.out.below hb)
  replace B := hid (B.out.trans (hb.mono B.out.size))
  clear hb
  have R0 := hid (r0.below B.out)
  have R1 := hid (r1.below B.out)
  have hs2 : w.heap.size + 2 ≤ w2.heap.size := by have := P1.out.2.2.1; omega
  obtain ⟨c0_3, c1_3, z_3, p_3, q_3⟩ := P0.out
  obtain ⟨c0_4, c1_4, z_4, p_4, q_4⟩ := P1.out
  have hk2 := kp_refl w2
  go_upto_region 8 with fail
  go_cut [6] (fun s6 wx => s6 = .bool c ∧ Kp w2 0 wx)
  case first =>
    go_region_held3 (fun w' => w'.cell? ⟨w.heap.size, 0, none⟩ = some (.int .i64 n0) ∧ w'.cell? ⟨w.heap.size, 1, none⟩ = some (.slice a0 xss0.length cap0) ∧ w'.cell? ⟨w.heap.size + 1, 0, none⟩ = some (.int .i64 n1) ∧ w'.cell? ⟨w.heap.size + 1, 1, none⟩ = some (.slice a1 xss1.length cap1) ∧ Kp w2 0 w')
      (first
        | (go_split_ands
           repeat' apply And.intro
           all_goals (first | (with_reducible assumption) | (with_reducible exact cell_drew (by assumption)) | (with_reducible exact Kp.drew (by assumption)) | (with_reducible exact Kp.cell (by assumption) hb1 (by omega) (by assumption)) | (with_reducible exact Kp.call (by assumption) hb1) | (with_reducible exact Kp.cell_alloc (by assumption) _ (by omega) (by assumption)) | (with_reducible exact Kp.alloc (by assumption) _) | (with_reducible exact Kp.cell_alloc_drew (by assumption) _ (by omega) (by assumption)) | (with_reducible exact Kp.alloc_drew (by assumption) _) | (with_reducible exact Kp.reall (by assumption) (by omega) _) | (with_reducible exact cell_realloc (by omega) (by assumption) _) | (with_reducible exact cell_set1 (by assumption) (by omega)) | (with_reducible exact Kept.Kp.set1 (by assumption) (by omega) _))))
      (first | (go_split_ands; go_at_call 6; (with_reducible refine (to_rel n0 a0 cap0 w.heap.size xss0 _ (by omega) (grd_kp R0.out (by with_reducible assumption) (by omega)) (kp_le (by with_reducible assumption) (by omega))).mono ?_); rintro e wA ⟨vsgA, gA, rfl, hgA, hatA, hb1⟩; have HATA := hid hatA) | (go_split_ands; go_at_call 6; (with_reducible refine (to_rel n1 a1 cap1 w.heap.size xss1 _ (by omega) (grd_kp R1.out (by with_reducible assumption) (by omega)) (kp_le (by with_reducible assumption) (by omega))).mono ?_); rintro e wB ⟨vsgB, gB, rfl, hgB, hatB, hb1⟩; have HATB := hid hatB; have HATA : Hid (GOwn wB gA eR eI (.slice (some ⟨gA, 0, none⟩) xss0.length xss0.length) vsgA xss0) := hid (by first | (with_reducible exact HATA.out.below' hb1) | (with_reducible exact HATA.out.drew.below' hb1))) | (go_split_ands; go_at_call 5; (with_reducible refine (S.out _ gA gB (by first | (with_reducible exact gown_rd HATA.out) | (with_reducible exact gown_rd HATA.out.drew)) (by first | (with_reducible exact gown_rd HATB.out) | (with_reducible exact gown_rd HATB.out.drew))).mono ?_); rintro e wC ⟨rfl, hb1⟩))
    all_goals
      go_wp2_with fail
      go_meet
      go_split_ands
      exact ⟨rfl, by with_reducible assumption⟩
  case rest =>
    obtain ⟨rfl, hk⟩ := hcut
    obtain ⟨w3, rfl⟩ : ∃ wo : World, wo = wc := ⟨_, rfl⟩
    have hb := hk.bel
    clear hk hk2
    clear c0_3 c1_3 z_3 p_3 q_3
    clear c0_4 c1_4 z_4 p_4 q_4
    have s_w3 := hb.size
    (try simp only [World.size_alloc] at s_w3)
    replace P0 := hid (P0.out.below hb)
    replace P1 := hid (P1.out.below hb)
    replace B := hid (B.out.trans (hb.mono B.out.size))
    clear hb
    obtain ⟨c0_5, c1_5, z_5, p_5, q_5⟩ := P0.out
    go_wp2_with fail
    refine (to_rel n0 a0 cap0 w.heap.size xss0 _ (by omega) (r0.below B.out) B.out.size).mono ?_
    rintro e w4 ⟨vsx0, gx0, rfl, hgx0, hown, hb⟩
    clear c0_5 c1_5 z_5 p_5 q_5
    have s_w4 := hb.size
    (try simp only [World.size_alloc] at s_w4)
    replace P0 := hid (P0.out.below hb)
    replace P1 := hid (P1.out.below hb)
    replace B := hid (B.out.trans (hb.mono B.out.size))
    clear hb
    (try simp only [World.size_alloc] at hgx0)
    have X0 := hid hown
    have lgx0 := X0.out.lt _ rfl
    have U0 := hid (gown_under hown)
    clear hown
    obtain ⟨c0_6, c1_6, z_6, p_6, q_6⟩ := P1.out
    go_wp2_with fail
    clear c0_6 c1_6 z_6 p_6 q_6
    replace P0 := hid (P0.out.alloc (.cells #[.int .i64 n0, .slice (some ⟨gx0, 0, none⟩) xss0.length xss0.length] 27))
    replace P1 := hid (P1.out.alloc (.cells #[.int .i64 n0, .slice (some ⟨gx0, 0, none⟩) xss0.length xss0.length] 27))
    replace X0 := hid (X0.out.alloc (.cells #[.int .i64 n0, .slice (some ⟨gx0, 0, none⟩) xss0.length xss0.length] 27))
    replace B := hid (B.out.alloc B.out.size (.cells #[.int .i64 n0, .slice (some ⟨gx0, 0, none⟩) xss0.length xss0.length] 27))
    have Q0 := hid (has2_new w4 (.int .i64 n0) (.slice (some ⟨gx0, 0, none⟩) xss0.length xss0.length) 27)
    refine (to_rel n1 a1 cap1 w.heap.size xss1 _ (by omega) (r1.below B.out) B.out.size).mono ?_
    rintro e w5 ⟨vsx1, gx1, rfl, hgx1, hown, hb⟩
    have s_w5 := hb.size
    (try simp only [World.size_alloc] at s_w5)
    replace P0 := hid (P0.out.below hb)
    replace P1 := hid (P1.out.below hb)
    replace X0 := hid (X0.out.below' hb)
    replace Q0 := hid (Q0.out.below hb)
    replace B := hid (B.out.trans (hb.mono B.out.size))
    clear hb
    (try simp only [World.size_alloc] at hgx1)
    have X1 := hid hown
    have lgx1 := X1.out.lt _ rfl
    have U1 := hid (gown_under hown)
    clear hown
    obtain ⟨c0_7, c1_7, z_7, p_7, q_7⟩ := Q0.out
    go_wp2_with fail
    clear c0_7 c1_7 z_7 p_7 q_7
    replace P0 := hid (P0.out.alloc (.cells #[.int .i64 n1, .slice (some ⟨gx1, 0, none⟩) xss1.length xss1.length] 27))
    replace P1 := hid (P1.out.alloc (.cells #[.int .i64 n1, .slice (some ⟨gx1, 0, none⟩) xss1.length xss1.length] 27))
    replace X0 := hid (X0.out.alloc (.cells #[.int .i64 n1, .slice (some ⟨gx1, 0, none⟩) xss1.length xss1.length] 27))
    replace Q0 := hid (Q0.out.alloc (.cells #[.int .i64 n1, .slice (some ⟨gx1, 0, none⟩) xss1.length xss1.length] 27))
    replace X1 := hid (X1.out.alloc (.cells #[.int .i64 n1, .slice (some ⟨gx1, 0, none⟩) xss1.length xss1.length] 27))
    replace B := hid (B.out.alloc B.out.size (.cells #[.int .i64 n1, .slice (some ⟨gx1, 0, none⟩) xss1.length xss1.length] 27))
    have Q1 := hid (has2_new w5 (.int .i64 n1) (.slice (some ⟨gx1, 0, none⟩) xss1.length xss1.length) 27)
    refine (I.out _ _ _ (gown_rd X0.out) (gown_rd X1.out)).mono ?_
    rintro e w6 ⟨rfl, hb⟩
    have s_w6 := hb.size
    (try simp only [World.size_alloc] at s_w6)
    replace P0 := hid (P0.out.below hb)
    replace P1 := hid (P1.out.below hb)
    replace X0 := hid (X0.out.below' hb)
    replace Q0 := hid (Q0.out.below hb)
    replace X1 := hid (X1.out.below' hb)
    replace Q1 := hid (Q1.out.below hb)
    replace B := hid (B.out.trans (hb.mono B.out.size))
    clear hb
    have R0 := hid (r0.below B.out)
    obtain ⟨c0_8, c1_8, z_8, p_8, q_8⟩ := Q0.out
    obtain ⟨c0_9, c1_9, z_9, p_9, q_9⟩ := P0.out
    have hk0 := kp_refl w6
    go_upto_region 14 with fail
    go_cut [39] (fun s wx => s = .bool false ∧ Kp w6 0 wx)
    case first =>
      go_region_held3 (fun w' => w'.cell? ⟨w.heap.size, 0, none⟩ = some (.int .i64 n0) ∧ w'.cell? ⟨w.heap.size, 1, none⟩ = some (.slice a0 xss0.length cap0) ∧ w'.cell? ⟨w4.heap.size, 0, none⟩ = some (.int .i64 n0) ∧ w'.cell? ⟨w4.heap.size, 1, none⟩ = some (.slice (some ⟨gx0, 0, none⟩) xss0.length xss0.length) ∧ Kp w6 0 w')
        (first
          | (go_split_ands
             repeat' apply And.intro
             all_goals (first | (with_reducible assumption) | (with_reducible exact cell_drew (by assumption)) | (with_reducible exact Kp.drew (by assumption)) | (with_reducible exact Kp.cell (by assumption) hb1 (by omega) (by assumption)) | (with_reducible exact Kp.call (by assumption) hb1))))
        (first
          | (go_split_ands; go_at_call 6; (with_reducible refine (to_rel _ _ _ w.heap.size xss0 _ (by omega) (grd_kp R0.out (by with_reducible assumption) (by omega)) (kp_le (by with_reducible assumption) (by omega))).mono ?_); rintro e wT ⟨vsT, gT, rfl, hgT, hatT, hb1⟩)
          | (go_split_ands; go_at_call 8; (with_reducible refine (eq_rel _ _ _ _ _ xss0 w6.heap.size wT.heap.size _ (by omega) (grd_kp (gown_rd X0.out) (by with_reducible assumption) (Nat.le_refl _)) (by first | exact gown_rd hatT | exact gown_rd hatT.drew) (kp_le (by with_reducible assumption) (Nat.le_refl _)) (by first | exact Nat.le_refl _ | simp)).mono ?_); rintro e wU ⟨rfl, hb1⟩))
      all_goals
        go_wp2_with fail
        go_meet
        go_split_ands
        exact ⟨rfl, by with_reducible assumption⟩
    case rest =>
      obtain ⟨rfl, hk⟩ := hcut
      obtain ⟨w7, rfl⟩ : ∃ wo : World, wo = wc := ⟨_, rfl⟩
      clear hk0
      clear c0_8 c1_8 z_8 p_8 q_8
      clear c0_9 c1_9 z_9 p_9 q_9
      have hb := hk.bel
      clear hk
      have s_w7 := hb.size
      (try simp only [World.size_alloc] at s_w7)
      replace P0 := hid (P0.out.below hb)
      replace P1 := hid (P1.out.below hb)
      replace X0 := hid (X0.out.below' hb)
      replace Q0 := hid (Q0.out.below hb)
      replace X1 := hid (X1.out.below' hb)
      replace Q1 := hid (Q1.out.below hb)
      replace B := hid (B.out.trans (hb.mono B.out.size))
      clear hb
      have R1 := hid (r1.below B.out)
      obtain ⟨c0_10, c1_10, z_10, p_10, q_10⟩ := Q1.out
      obtain ⟨c0_11, c1_11, z_11, p_11, q_11⟩ := P1.out
      have hk0 := kp_refl w7
      go_upto_region 16 with fail
      go_cut [44] (fun s wx => s = .bool false ∧ Kp w7 0 wx)
      case first =>
        go_region_held3 (fun w' => w'.cell? ⟨w.heap.size + 1, 0, none⟩ = some (.int .i64 n1) ∧ w'.cell? ⟨w.heap.size + 1, 1, none⟩ = some (.slice a1 xss1.length cap1) ∧ w'.cell? ⟨w5.heap.size, 0, none⟩ = some (.int .i64 n1) ∧ w'.cell? ⟨w5.heap.size, 1, none⟩ = some (.slice (some ⟨gx1, 0, none⟩) xss1.length xss1.length) ∧ Kp w7 0 w')
          (first
            | (go_split_ands
               repeat' apply And.intro
               all_goals (first | (with_reducible assumption) | (with_reducible exact cell_drew (by assumption)) | (with_reducible exact Kp.drew (by assumption)) | (with_reducible exact Kp.cell (by assumption) hb1 (by omega) (by assumption)) | (with_reducible exact Kp.call (by assumption) hb1))))
          (first
            | (go_split_ands; go_at_call 6; (with_reducible refine (to_rel _ _ _ w.heap.size xss1 _ (by omega) (grd_kp R1.out (by with_reducible assumption) (by omega)) (kp_le (by with_reducible assumption) (by omega))).mono ?_); rintro e wT ⟨vsT, gT, rfl, hgT, hatT, hb1⟩)
            | (go_split_ands; go_at_call 8; (with_reducible refine (eq_rel _ _ _ _ _ xss1 w7.heap.size wT.heap.size _ (by omega) (grd_kp (gown_rd X1.out) (by with_reducible assumption) (Nat.le_refl _)) (by first | exact gown_rd hatT | exact gown_rd hatT.drew) (kp_le (by with_reducible assumption) (Nat.le_refl _)) (by first | exact Nat.le_refl _ | simp)).mono ?_); rintro e wU ⟨rfl, hb1⟩))
        all_goals
          go_wp2_with fail
          go_meet
          go_split_ands
          exact ⟨rfl, by with_reducible assumption⟩
      case rest =>
        obtain ⟨rfl, hk⟩ := hcut
        obtain ⟨w8, rfl⟩ : ∃ wo : World, wo = wc := ⟨_, rfl⟩
        clear hk0
        clear c0_10 c1_10 z_10 p_10 q_10
        clear c0_11 c1_11 z_11 p_11 q_11
        have hb := hk.bel
        clear hk
        have s_w8 := hb.size
        (try simp only [World.size_alloc] at s_w8)
        replace P0 := hid (P0.out.below hb)
        replace P1 := hid (P1.out.below hb)
        replace X0 := hid (X0.out.below' hb)
        replace Q0 := hid (Q0.out.below hb)
        replace X1 := hid (X1.out.below' hb)
        replace Q1 := hid (Q1.out.below hb)
        replace B := hid (B.out.trans (hb.mono B.out.size))
        clear hb
        go_wp2_with fail
        go_ret
        exact ⟨rfl, B.out⟩
end Go.Proofs.Ytlacmglkimkjaab.EqualRelationsC
