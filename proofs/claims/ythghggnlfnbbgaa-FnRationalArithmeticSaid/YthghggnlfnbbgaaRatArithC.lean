/- The walk of law FnRationalArithmetic. -/
import Derived.Test.YthghggnlfnbbgaaRatArithP
import Derived.Test.YthghggnlfnbbgaaDrawRat
import Derived.Test.YthghggnlfnbbgaaBig
import Derived.Test.YthghggnlfnbbgaaKept
import Derived.Deep.RegionHeld3
import Derived.Deep.DeepCutAuto
namespace Go.Proofs.Ythghggnlfnbbgaa.RatArithC
open Go.RowKit
open Go.Proofs.Ythghggnlfnbbgaa.Num Go.Proofs.Ythghggnlfnbbgaa.Cells Go.Proofs.Ythghggnlfnbbgaa.Keep Go.Proofs.Ythghggnlfnbbgaa.Kept Go.Proofs.Ythghggnlfnbbgaa.DrawRat Go.Proofs.Ythghggnlfnbbgaa.RatArithP
set_option linter.unusedVariables false

set_option maxRecDepth 100000 in
set_option maxHeartbeats 8000000 in
theorem core (w : World) (sv : Value) (HG : RowKit.Hid (Calls Try.prog 34 #[sv] w fun e w' => e = .returned (.bool false) ∧ w = w'))
    (HD : RowKit.Hid (Calls Try.prog 50 #[sv] w (TwoRats w))) :
    Calls Try.prog 14 #[sv] w fun e w' => e = .returned (.bool true) ∧ Below w.heap.size w w' := by
  go_enter Try.func14, Try.ntmps14
  go_wp2_with fail
  refine HG.out.mono ?_
  rintro e w0 ⟨rfl, rfl⟩
  go_wp2_with fail
  refine HD.out.mono ?_
  rintro e w1 ⟨x, y, u, v, rfl, hx, hy, hu, hv, hb0⟩
  obtain ⟨X, Y, P, Q, D, F, c, b1, b2, b3, ok, A1, M1, A2, M2, S1, C1, C2, hc, V1, V2, HS, HV, HL⟩ := setup x y u v hx hy hu hv
  unfold Op2 at A1 M1 A2 M2 S1 HS HV
  unfold Cmp2 at C1 C2
  unfold Ok1 at V1 V2 HS
  replace A1 := hid A1
  replace M1 := hid M1
  replace A2 := hid A2
  replace M2 := hid M2
  replace S1 := hid S1
  replace C1 := hid C1
  replace C2 := hid C2
  replace V1 := hid V1
  replace V2 := hid V2
  replace HS := hid HS
  replace HV := hid HV
  replace HL := hid HL
  obtain ⟨hu0, hu1⟩ := hu
  obtain ⟨hc0, hc1⟩ := hc
  clear hx hy hv HG HD
  have B := hid hb0
  clear hb0
  have hz1 := B.out.size
  have O3 := hid ((has2_new w1 (.int .i64 x) (.int .i64 y) 25).alloc (.cells #[.int .i64 u, .int .i64 v] 25))
  have O4 := hid (has2_new (w1.alloc (.cells #[.int .i64 x, .int .i64 y] 25)) (.int .i64 u) (.int .i64 v) 25)
  simp only [World.size_alloc] at O4
  replace B := hid ((B.out.alloc B.out.size (.cells #[.int .i64 x, .int .i64 y] 25)).alloc (by simp; omega) (.cells #[.int .i64 u, .int .i64 v] 25))
  have hn1 : (b1 != b1) = false := by simp
  have hn2 : (b2 != b2) = false := by simp
  have hn3 : (ok != ok) = false := by simp
  go_wp2_with fail
  refine (A1.out _).mono ?_
  rintro e w2 ⟨rfl, hb⟩
  replace O3 := hid (O3.out.below hb)
  replace O4 := hid (O4.out.below hb)
  replace B := hid (B.out.trans (hb.mono B.out.size))
  clear hb
  obtain ⟨cO3_1, dO3_1, zO3_1, _, _⟩ := O3.out
  obtain ⟨cO4_1, dO4_1, zO4_1, _, _⟩ := O4.out
  go_wp2_with fail
  clear cO3_1 dO3_1 zO3_1 cO4_1 dO4_1 zO4_1
  have O5 := hid (has2_new w2 (.int .i64 X) (.int .i64 Y) 25)
  replace O3 := hid (O3.out.alloc (.cells #[.int .i64 X, .int .i64 Y] 25))
  replace O4 := hid (O4.out.alloc (.cells #[.int .i64 X, .int .i64 Y] 25))
  replace B := hid (B.out.alloc B.out.size (.cells #[.int .i64 X, .int .i64 Y] 25))
  refine (M1.out _).mono ?_
  rintro e w3 ⟨rfl, hb⟩
  replace O3 := hid (O3.out.below hb)
  replace O4 := hid (O4.out.below hb)
  replace O5 := hid (O5.out.below hb)
  replace B := hid (B.out.trans (hb.mono B.out.size))
  clear hb
  obtain ⟨cO3_2, dO3_2, zO3_2, _, _⟩ := O3.out
  obtain ⟨cO4_2, dO4_2, zO4_2, _, _⟩ := O4.out
  go_wp2_with fail
  clear cO3_2 dO3_2 zO3_2 cO4_2 dO4_2 zO4_2
  have O7 := hid (has2_new w3 (.int .i64 P) (.int .i64 Q) 25)
  replace O3 := hid (O3.out.alloc (.cells #[.int .i64 P, .int .i64 Q] 25))
  replace O4 := hid (O4.out.alloc (.cells #[.int .i64 P, .int .i64 Q] 25))
  replace O5 := hid (O5.out.alloc (.cells #[.int .i64 P, .int .i64 Q] 25))
  replace B := hid (B.out.alloc B.out.size (.cells #[.int .i64 P, .int .i64 Q] 25))
  refine (A2.out _).mono ?_
  rintro e w4 ⟨rfl, hb⟩
  replace O3 := hid (O3.out.below hb)
  replace O4 := hid (O4.out.below hb)
  replace O5 := hid (O5.out.below hb)
  replace O7 := hid (O7.out.below hb)
  replace B := hid (B.out.trans (hb.mono B.out.size))
  clear hb
  obtain ⟨cO3_3, dO3_3, zO3_3, _, _⟩ := O3.out
  obtain ⟨cO4_3, dO4_3, zO4_3, _, _⟩ := O4.out
  go_wp2_with fail
  clear cO3_3 dO3_3 zO3_3 cO4_3 dO4_3 zO4_3
  have O9 := hid (has2_new w4 (.int .i64 X) (.int .i64 Y) 25)
  replace O3 := hid (O3.out.alloc (.cells #[.int .i64 X, .int .i64 Y] 25))
  replace O4 := hid (O4.out.alloc (.cells #[.int .i64 X, .int .i64 Y] 25))
  replace O5 := hid (O5.out.alloc (.cells #[.int .i64 X, .int .i64 Y] 25))
  replace O7 := hid (O7.out.alloc (.cells #[.int .i64 X, .int .i64 Y] 25))
  replace B := hid (B.out.alloc B.out.size (.cells #[.int .i64 X, .int .i64 Y] 25))
  refine (M2.out _).mono ?_
  rintro e w5 ⟨rfl, hb⟩
  replace O3 := hid (O3.out.below hb)
  replace O4 := hid (O4.out.below hb)
  replace O5 := hid (O5.out.below hb)
  replace O7 := hid (O7.out.below hb)
  replace O9 := hid (O9.out.below hb)
  replace B := hid (B.out.trans (hb.mono B.out.size))
  clear hb
  have qO3 := O3.out.alloc (.cells #[.int .i64 P, .int .i64 Q] 25)
  obtain ⟨qO3a, qO3b, _, _, _⟩ := qO3
  have zO3 := O3.out.2.2.1
  have qO5 := O5.out.alloc (.cells #[.int .i64 P, .int .i64 Q] 25)
  obtain ⟨qO5a, qO5b, _, _, _⟩ := qO5
  have zO5 := O5.out.2.2.1
  have qO7 := O7.out.alloc (.cells #[.int .i64 P, .int .i64 Q] 25)
  obtain ⟨qO7a, qO7b, _, _, _⟩ := qO7
  have zO7 := O7.out.2.2.1
  have qO9 := O9.out.alloc (.cells #[.int .i64 P, .int .i64 Q] 25)
  obtain ⟨qO9a, qO9b, _, _, _⟩ := qO9
  have zO9 := O9.out.2.2.1
  obtain ⟨cO3_4, dO3_4, zO3_4, _, _⟩ := O3.out
  obtain ⟨cO5_4, dO5_4, zO5_4, _, _⟩ := O5.out
  obtain ⟨cO7_4, dO7_4, zO7_4, _, _⟩ := O7.out
  obtain ⟨cO9_4, dO9_4, zO9_4, _, _⟩ := O9.out
  have qN := has2_new w5 (.int .i64 P) (.int .i64 Q) 25
  obtain ⟨qNa, qNb, _, _, _⟩ := qN
  have hk6 : Kp w5 1 (w5.alloc (.cells #[.int .i64 P, .int .i64 Q] 25)) := ⟨by simp, (Below.refl _ _).alloc (Nat.le_refl _) _⟩
  go_upto_region 8 with fail
  go_cut [75] (fun s wx => s = .bool false ∧ Kp w5 1 wx)
  case first =>
    go_region_held3 (fun w' => w'.cell? ⟨w1.heap.size, 0, none⟩ = some (.int .i64 x) ∧ w'.cell? ⟨w1.heap.size, 1, none⟩ = some (.int .i64 y) ∧ w'.cell? ⟨w2.heap.size, 0, none⟩ = some (.int .i64 X) ∧ w'.cell? ⟨w2.heap.size, 1, none⟩ = some (.int .i64 Y) ∧ w'.cell? ⟨w3.heap.size, 0, none⟩ = some (.int .i64 P) ∧ w'.cell? ⟨w3.heap.size, 1, none⟩ = some (.int .i64 Q) ∧ w'.cell? ⟨w4.heap.size, 0, none⟩ = some (.int .i64 X) ∧ w'.cell? ⟨w4.heap.size, 1, none⟩ = some (.int .i64 Y) ∧ w'.cell? ⟨w5.heap.size, 0, none⟩ = some (.int .i64 P) ∧ w'.cell? ⟨w5.heap.size, 1, none⟩ = some (.int .i64 Q) ∧ Kp w5 1 w')
      (first
        | (go_split_ands
           repeat' apply And.intro
           all_goals (first | (with_reducible assumption) | (with_reducible exact cell_drew (by assumption)) | (with_reducible exact Kp.drew (by assumption)) | (with_reducible exact Kp.cell (by assumption) hb1 (by omega) (by assumption)) | (with_reducible exact Kp.call (by assumption) hb1) | (with_reducible exact Kp.cell_alloc (by assumption) _ (by omega) (by assumption)) | (with_reducible exact Kp.alloc (by assumption) _) | (with_reducible exact Kp.cell_alloc_drew (by assumption) _ (by omega) (by assumption)) | (with_reducible exact Kp.alloc_drew (by assumption) _) | (with_reducible exact Kp.reall (by assumption) (by omega) _) | (with_reducible exact cell_realloc (by omega) (by assumption) _) | (with_reducible exact cell_set1 (by assumption) (by omega)) | (with_reducible exact Kept.Kp.set1 (by assumption) (by omega) _))))
      (first | (go_split_ands; go_at_call 51; (with_reducible refine (V1.out _).mono ?_); rintro e wF ⟨rfl, hb1⟩) | (go_split_ands; go_at_call 52; (with_reducible refine (V2.out _).mono ?_); rintro e wG ⟨rfl, hb1⟩))
    all_goals
      go_wp2_with fail
      go_meet
      go_split_ands
      exact ⟨rfl, by with_reducible assumption⟩
  case rest =>
    obtain ⟨rfl, hk⟩ := hcut
    obtain ⟨w6, rfl⟩ : ∃ wo : World, wo = wc := ⟨_, rfl⟩
    have hb := hk.bel
    clear hk hk6 qNa qNb qO3a qO3b qO5a qO5b qO7a qO7b qO9a qO9b A1 M1 A2 M2 V1 V2 hn1 hn2 hn3 O9
    replace O3 := hid (O3.out.below hb)
    replace O4 := hid (O4.out.below hb)
    replace O5 := hid (O5.out.below hb)
    replace O7 := hid (O7.out.below hb)
    replace B := hid (B.out.trans (hb.mono B.out.size))
    clear hb
    have hk6 := kp_refl w6
    go_upto_if 76 with fail
    go_cut [] (fun wx => Kp w6 0 wx)
    case first =>
      cases b1 with
      | false =>
        go_wp2_with fail
        go_meet
        exact hk6
      | true =>
        obtain ⟨HS1, HS2⟩ := HS.out rfl
        replace HS1 := hid HS1
        replace HS2 := hid HS2
        obtain ⟨cO5_5, dO5_5, zO5_5, _, _⟩ := O5.out
        obtain ⟨cO4_5, dO4_5, zO4_5, _, _⟩ := O4.out
        go_wp2_with fail
        refine (HS1.out _).mono ?_
        rintro e w7 ⟨rfl, hb⟩
        have hk7 := hk6.call hb
        clear cO5_5 dO5_5 zO5_5 cO4_5 dO4_5 zO4_5
        replace O3 := hid (O3.out.below hb)
        replace O4 := hid (O4.out.below hb)
        replace O5 := hid (O5.out.below hb)
        replace O7 := hid (O7.out.below hb)
        replace B := hid (B.out.trans (hb.mono B.out.size))
        clear hb
        obtain ⟨cO3_6, dO3_6, zO3_6, _, _⟩ := O3.out
        obtain ⟨cO5_6, dO5_6, zO5_6, _, _⟩ := O5.out
        go_wp2_with fail
        have hk8 := hk7.alloc (.cells #[.int .i64 x, .int .i64 y] 25)
        clear cO3_6 dO3_6 zO3_6 cO5_6 dO5_6 zO5_6
        have O13 := hid (has2_new w7 (.int .i64 x) (.int .i64 y) 25)
        replace O3 := hid (O3.out.alloc (.cells #[.int .i64 x, .int .i64 y] 25))
        replace O4 := hid (O4.out.alloc (.cells #[.int .i64 x, .int .i64 y] 25))
        replace O5 := hid (O5.out.alloc (.cells #[.int .i64 x, .int .i64 y] 25))
        replace O7 := hid (O7.out.alloc (.cells #[.int .i64 x, .int .i64 y] 25))
        replace B := hid (B.out.alloc B.out.size (.cells #[.int .i64 x, .int .i64 y] 25))
        refine (HS2.out _).mono ?_
        rintro e w8 ⟨rfl, hb⟩
        have hk9 := hk8.call hb
        replace O3 := hid (O3.out.below hb)
        replace O4 := hid (O4.out.below hb)
        replace O5 := hid (O5.out.below hb)
        replace O7 := hid (O7.out.below hb)
        replace O13 := hid (O13.out.below hb)
        replace B := hid (B.out.trans (hb.mono B.out.size))
        clear hb
        go_wp2_with fail
        go_meet
        exact hk9
    case rest =>
      have hk := hcut
      obtain ⟨w9, rfl⟩ : ∃ wo : World, wo = wc := ⟨_, rfl⟩
      have hb := hk.bel
      clear hk hk6 HS O5
      replace O3 := hid (O3.out.below hb)
      replace O4 := hid (O4.out.below hb)
      replace O7 := hid (O7.out.below hb)
      replace B := hid (B.out.trans (hb.mono B.out.size))
      clear hb
      obtain ⟨cO4_7, dO4_7, zO4_7, _, _⟩ := O4.out
      cases b2 with
      | false =>
        clear cO4_7 dO4_7 zO4_7
        obtain ⟨cO3_8, dO3_8, zO3_8, _, _⟩ := O3.out
        obtain ⟨cO4_8, dO4_8, zO4_8, _, _⟩ := O4.out
        go_wp2_with fail
        refine (S1.out _).mono ?_
        rintro e w12 ⟨rfl, hb⟩
        clear cO3_8 dO3_8 zO3_8 cO4_8 dO4_8 zO4_8
        replace O3 := hid (O3.out.below hb)
        replace O4 := hid (O4.out.below hb)
        replace O7 := hid (O7.out.below hb)
        replace B := hid (B.out.trans (hb.mono B.out.size))
        clear hb
        obtain ⟨cO3_9, dO3_9, zO3_9, _, _⟩ := O3.out
        obtain ⟨cO4_9, dO4_9, zO4_9, _, _⟩ := O4.out
        go_wp2_with fail
        clear cO3_9 dO3_9 zO3_9 cO4_9 dO4_9 zO4_9
        have O17 := hid (has2_new w12 (.int .i64 D) (.int .i64 F) 25)
        replace O3 := hid (O3.out.alloc (.cells #[.int .i64 D, .int .i64 F] 25))
        replace O4 := hid (O4.out.alloc (.cells #[.int .i64 D, .int .i64 F] 25))
        replace O7 := hid (O7.out.alloc (.cells #[.int .i64 D, .int .i64 F] 25))
        replace B := hid (B.out.alloc B.out.size (.cells #[.int .i64 D, .int .i64 F] 25))
        refine (C1.out _).mono ?_
        rintro e w13 ⟨rfl, hb⟩
        replace O3 := hid (O3.out.below hb)
        replace O4 := hid (O4.out.below hb)
        replace O7 := hid (O7.out.below hb)
        replace O17 := hid (O17.out.below hb)
        replace B := hid (B.out.trans (hb.mono B.out.size))
        clear hb
        obtain ⟨cO3_10, dO3_10, zO3_10, _, _⟩ := O3.out
        obtain ⟨cO4_10, dO4_10, zO4_10, _, _⟩ := O4.out
        go_wp2_with fail
        refine (C2.out _).mono ?_
        rintro e w14 ⟨rfl, hb⟩
        clear cO3_10 dO3_10 zO3_10 cO4_10 dO4_10 zO4_10
        replace O3 := hid (O3.out.below hb)
        replace O4 := hid (O4.out.below hb)
        replace O7 := hid (O7.out.below hb)
        replace O17 := hid (O17.out.below hb)
        replace B := hid (B.out.trans (hb.mono B.out.size))
        clear hb
        obtain ⟨cO17_11, dO17_11, zO17_11, _, _⟩ := O17.out
        have hcc : (c == c) = true := by simp
        cases b3 with
        | false =>
          go_wp2_with fail
          go_ret
          exact ⟨rfl, B.out⟩
        | true =>
          obtain ⟨hs1, hs2⟩ := HL.out rfl
          rcases (by omega : c < 0 ∨ c = 0 ∨ 0 < c) with hcc0 | hcc0 | hcc0
          · have k1 : D < 0 := hs1.1 hcc0
            have k2 : (c == 0) = false := by rw [beq_eq_false_iff_ne]; omega
            have k3 : (D == 0) = false := by rw [beq_eq_false_iff_ne]; omega
            clear hs1 hs2
            go_wp2_with fail
            go_ret
            exact ⟨rfl, B.out⟩
          · have k1 : D = 0 := hs2.1 hcc0
            subst k1 hcc0
            clear hs1 hs2
            go_wp2_with fail
            go_ret
            exact ⟨rfl, B.out⟩
          · have k1 : 0 < D := by omega
            have k4 : ¬ c < 0 := by omega
            have k5 : ¬ D < 0 := by omega
            have k2 : (c == 0) = false := by rw [beq_eq_false_iff_ne]; omega
            have k3 : (D == 0) = false := by rw [beq_eq_false_iff_ne]; omega
            clear hs1 hs2
            go_wp2_with fail
            go_ret
            exact ⟨rfl, B.out⟩
      | true =>
        by_cases hu2 : u = 0
        · have t0 : (u != 0) = false := by rw [hu2]; rfl
          clear hu2 cO4_7 dO4_7 zO4_7
          obtain ⟨cO3_12, dO3_12, zO3_12, _, _⟩ := O3.out
          obtain ⟨cO4_12, dO4_12, zO4_12, _, _⟩ := O4.out
          go_wp2_with fail
          refine (S1.out _).mono ?_
          rintro e w12 ⟨rfl, hb⟩
          clear cO3_12 dO3_12 zO3_12 cO4_12 dO4_12 zO4_12
          replace O3 := hid (O3.out.below hb)
          replace O4 := hid (O4.out.below hb)
          replace O7 := hid (O7.out.below hb)
          replace B := hid (B.out.trans (hb.mono B.out.size))
          clear hb
          obtain ⟨cO3_13, dO3_13, zO3_13, _, _⟩ := O3.out
          obtain ⟨cO4_13, dO4_13, zO4_13, _, _⟩ := O4.out
          go_wp2_with fail
          clear cO3_13 dO3_13 zO3_13 cO4_13 dO4_13 zO4_13
          have O17 := hid (has2_new w12 (.int .i64 D) (.int .i64 F) 25)
          replace O3 := hid (O3.out.alloc (.cells #[.int .i64 D, .int .i64 F] 25))
          replace O4 := hid (O4.out.alloc (.cells #[.int .i64 D, .int .i64 F] 25))
          replace O7 := hid (O7.out.alloc (.cells #[.int .i64 D, .int .i64 F] 25))
          replace B := hid (B.out.alloc B.out.size (.cells #[.int .i64 D, .int .i64 F] 25))
          refine (C1.out _).mono ?_
          rintro e w13 ⟨rfl, hb⟩
          replace O3 := hid (O3.out.below hb)
          replace O4 := hid (O4.out.below hb)
          replace O7 := hid (O7.out.below hb)
          replace O17 := hid (O17.out.below hb)
          replace B := hid (B.out.trans (hb.mono B.out.size))
          clear hb
          obtain ⟨cO3_14, dO3_14, zO3_14, _, _⟩ := O3.out
          obtain ⟨cO4_14, dO4_14, zO4_14, _, _⟩ := O4.out
          go_wp2_with fail
          refine (C2.out _).mono ?_
          rintro e w14 ⟨rfl, hb⟩
          clear cO3_14 dO3_14 zO3_14 cO4_14 dO4_14 zO4_14
          replace O3 := hid (O3.out.below hb)
          replace O4 := hid (O4.out.below hb)
          replace O7 := hid (O7.out.below hb)
          replace O17 := hid (O17.out.below hb)
          replace B := hid (B.out.trans (hb.mono B.out.size))
          clear hb
          obtain ⟨cO17_15, dO17_15, zO17_15, _, _⟩ := O17.out
          have hcc : (c == c) = true := by simp
          cases b3 with
          | false =>
            go_wp2_with fail
            go_ret
            exact ⟨rfl, B.out⟩
          | true =>
            obtain ⟨hs1, hs2⟩ := HL.out rfl
            rcases (by omega : c < 0 ∨ c = 0 ∨ 0 < c) with hcc0 | hcc0 | hcc0
            · have k1 : D < 0 := hs1.1 hcc0
              have k2 : (c == 0) = false := by rw [beq_eq_false_iff_ne]; omega
              have k3 : (D == 0) = false := by rw [beq_eq_false_iff_ne]; omega
              clear hs1 hs2
              go_wp2_with fail
              go_ret
              exact ⟨rfl, B.out⟩
            · have k1 : D = 0 := hs2.1 hcc0
              subst k1 hcc0
              clear hs1 hs2
              go_wp2_with fail
              go_ret
              exact ⟨rfl, B.out⟩
            · have k1 : 0 < D := by omega
              have k4 : ¬ c < 0 := by omega
              have k5 : ¬ D < 0 := by omega
              have k2 : (c == 0) = false := by rw [beq_eq_false_iff_ne]; omega
              have k3 : (D == 0) = false := by rw [beq_eq_false_iff_ne]; omega
              clear hs1 hs2
              go_wp2_with fail
              go_ret
              exact ⟨rfl, B.out⟩
        · have t0 : (u != 0) = true := by simpa using hu2
          have HV1 := hid (HV.out rfl hu2)
          clear hu2 cO4_7 dO4_7 zO4_7
          obtain ⟨cO7_16, dO7_16, zO7_16, _, _⟩ := O7.out
          obtain ⟨cO4_16, dO4_16, zO4_16, _, _⟩ := O4.out
          go_wp2_with fail
          refine (HV1.out _).mono ?_
          rintro e w10 ⟨rfl, hb⟩
          clear cO7_16 dO7_16 zO7_16 cO4_16 dO4_16 zO4_16
          replace O3 := hid (O3.out.below hb)
          replace O4 := hid (O4.out.below hb)
          replace O7 := hid (O7.out.below hb)
          replace B := hid (B.out.trans (hb.mono B.out.size))
          clear hb
          obtain ⟨cO3_17, dO3_17, zO3_17, _, _⟩ := O3.out
          obtain ⟨cO4_17, dO4_17, zO4_17, _, _⟩ := O4.out
          go_wp2_with fail
          clear cO3_17 dO3_17 zO3_17 cO4_17 dO4_17 zO4_17
          have O15 := hid (has2_new w10 (.int .i64 x) (.int .i64 y) 25)
          replace O3 := hid (O3.out.alloc (.cells #[.int .i64 x, .int .i64 y] 25))
          replace O4 := hid (O4.out.alloc (.cells #[.int .i64 x, .int .i64 y] 25))
          replace O7 := hid (O7.out.alloc (.cells #[.int .i64 x, .int .i64 y] 25))
          replace B := hid (B.out.alloc B.out.size (.cells #[.int .i64 x, .int .i64 y] 25))
          clear O15
          refine (S1.out _).mono ?_
          rintro e w12 ⟨rfl, hb⟩
          replace O3 := hid (O3.out.below hb)
          replace O4 := hid (O4.out.below hb)
          replace O7 := hid (O7.out.below hb)
          replace B := hid (B.out.trans (hb.mono B.out.size))
          clear hb
          obtain ⟨cO3_18, dO3_18, zO3_18, _, _⟩ := O3.out
          obtain ⟨cO4_18, dO4_18, zO4_18, _, _⟩ := O4.out
          go_wp2_with fail
          clear cO3_18 dO3_18 zO3_18 cO4_18 dO4_18 zO4_18
          have O17 := hid (has2_new w12 (.int .i64 D) (.int .i64 F) 25)
          replace O3 := hid (O3.out.alloc (.cells #[.int .i64 D, .int .i64 F] 25))
          replace O4 := hid (O4.out.alloc (.cells #[.int .i64 D, .int .i64 F] 25))
          replace O7 := hid (O7.out.alloc (.cells #[.int .i64 D, .int .i64 F] 25))
          replace B := hid (B.out.alloc B.out.size (.cells #[.int .i64 D, .int .i64 F] 25))
          refine (C1.out _).mono ?_
          rintro e w13 ⟨rfl, hb⟩
          replace O3 := hid (O3.out.below hb)
          replace O4 := hid (O4.out.below hb)
          replace O7 := hid (O7.out.below hb)
          replace O17 := hid (O17.out.below hb)
          replace B := hid (B.out.trans (hb.mono B.out.size))
          clear hb
          obtain ⟨cO3_19, dO3_19, zO3_19, _, _⟩ := O3.out
          obtain ⟨cO4_19, dO4_19, zO4_19, _, _⟩ := O4.out
          go_wp2_with fail
          refine (C2.out _).mono ?_
          rintro e w14 ⟨rfl, hb⟩
          clear cO3_19 dO3_19 zO3_19 cO4_19 dO4_19 zO4_19
          replace O3 := hid (O3.out.below hb)
          replace O4 := hid (O4.out.below hb)
          replace O7 := hid (O7.out.below hb)
          replace O17 := hid (O17.out.below hb)
          replace B := hid (B.out.trans (hb.mono B.out.size))
          clear hb
          obtain ⟨cO17_20, dO17_20, zO17_20, _, _⟩ := O17.out
          have hcc : (c == c) = true := by simp
          cases b3 with
          | false =>
            go_wp2_with fail
            go_ret
            exact ⟨rfl, B.out⟩
          | true =>
            obtain ⟨hs1, hs2⟩ := HL.out rfl
            rcases (by omega : c < 0 ∨ c = 0 ∨ 0 < c) with hcc0 | hcc0 | hcc0
            · have k1 : D < 0 := hs1.1 hcc0
              have k2 : (c == 0) = false := by rw [beq_eq_false_iff_ne]; omega
              have k3 : (D == 0) = false := by rw [beq_eq_false_iff_ne]; omega
              clear hs1 hs2
              go_wp2_with fail
              go_ret
              exact ⟨rfl, B.out⟩
            · have k1 : D = 0 := hs2.1 hcc0
              subst k1 hcc0
              clear hs1 hs2
              go_wp2_with fail
              go_ret
              exact ⟨rfl, B.out⟩
            · have k1 : 0 < D := by omega
              have k4 : ¬ c < 0 := by omega
              have k5 : ¬ D < 0 := by omega
              have k2 : (c == 0) = false := by rw [beq_eq_false_iff_ne]; omega
              have k3 : (D == 0) = false := by rw [beq_eq_false_iff_ne]; omega
              clear hs1 hs2
              go_wp2_with fail
              go_ret
              exact ⟨rfl, B.out⟩

end Go.Proofs.Ythghggnlfnbbgaa.RatArithC
