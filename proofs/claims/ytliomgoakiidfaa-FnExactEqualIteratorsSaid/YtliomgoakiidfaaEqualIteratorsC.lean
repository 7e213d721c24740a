/- The walk of law FnExactEqualIterators, at every argument, out of the contracts of the model's function and the program's. -/
import Derived.Test.YtliomgoakiidfaaItTo
import Derived.Deep.RegionHeld3
import Derived.Deep.DeepCutAuto
namespace Go.Proofs.Ytliomgoakiidfaa.EqualIteratorsC
open Go.RowKit
open Go.Proofs.Ytliomgoakiidfaa.Num Go.Proofs.Ytliomgoakiidfaa.IntRow Go.Proofs.Ytliomgoakiidfaa.IntLaw Go.Proofs.Ytliomgoakiidfaa.Grid Go.Proofs.Ytliomgoakiidfaa.GridMore Go.Proofs.Ytliomgoakiidfaa.GridLaw Go.Proofs.Ytliomgoakiidfaa.GridLaw2 Go.Proofs.Ytliomgoakiidfaa.TrieLaw Go.Proofs.Ytliomgoakiidfaa.Keep Go.Proofs.Ytliomgoakiidfaa.Kept Go.Proofs.Ytliomgoakiidfaa.Cells Go.Proofs.Ytliomgoakiidfaa.RelKit Go.Proofs.Ytliomgoakiidfaa.HasL Go.Proofs.Ytliomgoakiidfaa.ItLaw Go.Proofs.Ytliomgoakiidfaa.ItTo
set_option linter.unusedVariables false
set_option linter.unusedSimpArgs false

set_option maxRecDepth 100000 in
set_option maxHeartbeats 8000000 in
theorem core (n0 : Int) (a0 l0 h0 p0 : Option Addr) (cap0 capl0 caph0 capp0 : Nat) (xss0 : List (List Int)) (L0 H0 P0 : List Int) (n1 : Int) (a1 l1 h1 p1 : Option Addr) (cap1 capl1 caph1 capp1 : Nat) (xss1 : List (List Int)) (L1 H1 P1 : List Int) (c : Bool) (w : World) (ht : szI xss0 L0 H0 P0 + szI xss1 L1 H1 P1 ≤ 1048576)  (r0 : ItRd w w.heap.size a0 l0 h0 p0 cap0 capl0 caph0 capp0 xss0 L0 H0 P0) (r1 : ItRd w w.heap.size a1 l1 h1 p1 cap1 capl1 caph1 capp1 xss1 L1 H1 P1)
    (S : RowKit.Hid (∀ (W : World) (aw0 lw0 hw0 pw0 : Option Addr) (capw0 caplw0 caphw0 cappw0 : Nat) (aw1 lw1 hw1 pw1 : Option Addr) (capw1 caplw1 caphw1 cappw1 : Nat), ItRd W W.heap.size aw0 lw0 hw0 pw0 capw0 caplw0 caphw0 cappw0 xss0 L0 H0 P0 → ItRd W W.heap.size aw1 lw1 hw1 pw1 capw1 caplw1 caphw1 cappw1 xss1 L1 H1 P1 → Calls Try.prog 21 #[.agg #[.int .i64 n0, .slice aw0 xss0.length capw0, .slice lw0 L0.length caplw0, .slice hw0 H0.length caphw0, .slice pw0 P0.length cappw0], .agg #[.int .i64 n1, .slice aw1 xss1.length capw1, .slice lw1 L1.length caplw1, .slice hw1 H1.length caphw1, .slice pw1 P1.length cappw1]] W fun e w' => e = .returned (.bool c) ∧ Below W.heap.size W w'))
    (I : RowKit.Hid (∀ (W : World) (aw0 lw0 hw0 pw0 : Option Addr) (capw0 caplw0 caphw0 cappw0 : Nat) (aw1 lw1 hw1 pw1 : Option Addr) (capw1 caplw1 caphw1 cappw1 : Nat), ItRd W W.heap.size aw0 lw0 hw0 pw0 capw0 caplw0 caphw0 cappw0 xss0 L0 H0 P0 → ItRd W W.heap.size aw1 lw1 hw1 pw1 capw1 caplw1 caphw1 cappw1 xss1 L1 H1 P1 → Calls Try.prog 28 #[.agg #[.int .i64 n0, .slice aw0 xss0.length capw0, .slice lw0 L0.length caplw0, .slice hw0 H0.length caphw0, .slice pw0 P0.length cappw0], .agg #[.int .i64 n1, .slice aw1 xss1.length capw1, .slice lw1 L1.length caplw1, .slice hw1 H1.length caphw1, .slice pw1 P1.length cappw1]] W fun e w' => e = .returned (.bool c) ∧ Below W.heap.size W w')) :
    Calls Try.prog 14 #[.agg #[.int .i64 n0, .slice a0 xss0.length cap0, .slice l0 L0.length capl0, .slice h0 H0.length caph0, .slice p0 P0.length capp0], .agg #[.int .i64 n1, .slice a1 xss1.length cap1, .slice l1 L1.length capl1, .slice h1 H1.length caph1, .slice p1 P1.length capp1]] w fun e w' => e = .returned (.bool true) ∧ Below w.heap.size w w' := by
  have hneq : (0 : Nat) ≤ 0 := Nat.le_refl _
  have P0' := hid (hasl_new w [.int .i64 n0, .slice a0 xss0.length cap0, .slice l0 L0.length capl0, .slice h0 H0.length caph0, .slice p0 P0.length capp0] 52)
  have P1' := hid (hasl_new (w.alloc (.cells #[.int .i64 n0, .slice a0 xss0.length cap0, .slice l0 L0.length capl0, .slice h0 H0.length caph0, .slice p0 P0.length capp0] 52)) [.int .i64 n1, .slice a1 xss1.length cap1, .slice l1 L1.length capl1, .slice h1 H1.length caph1, .slice p1 P1.length capp1] 52)
  replace P0' := hid (P0'.out.alloc (.cells #[.int .i64 n1, .slice a1 xss1.length cap1, .slice l1 L1.length capl1, .slice h1 H1.length caph1, .slice p1 P1.length capp1] 52))
  simp only [World.size_alloc] at P1'
  have B := hid (((Below.refl w.heap.size w).alloc (by simp) (.cells #[.int .i64 n0, .slice a0 xss0.length cap0, .slice l0 L0.length capl0, .slice h0 H0.length caph0, .slice p0 P0.length capp0] 52)).alloc (by simp) (.cells #[.int .i64 n1, .slice a1 xss1.length cap1, .slice l1 L1.length capl1, .slice h1 H1.length caph1, .slice p1 P1.length capp1] 52))
  have k0 : xss0.length ≤ 9223372036854775807 ∧ (∀ j (h : j < xss0.length), xss0[j].length ≤ 9223372036854775807) ∧ L0.length ≤ 9223372036854775807 ∧ H0.length ≤ 9223372036854775807 ∧ P0.length ≤ 9223372036854775807 := by obtain ⟨_, q1, q2, q3, q4, q5, _, _⟩ := szI_parts (xss := xss0) (L := L0) (H := H0) (P := P0) (by omega); exact ⟨by omega, fun j h => by have := q2 j h; omega, by omega, by omega, by omega⟩
  have k1 : xss1.length ≤ 9223372036854775807 ∧ (∀ j (h : j < xss1.length), xss1[j].length ≤ 9223372036854775807) ∧ L1.length ≤ 9223372036854775807 ∧ H1.length ≤ 9223372036854775807 ∧ P1.length ≤ 9223372036854775807 := by obtain ⟨_, q1, q2, q3, q4, q5, _, _⟩ := szI_parts (xss := xss1) (L := L1) (H := H1) (P := P1) (by omega); exact ⟨by omega, fun j h => by have := q2 j h; omega, by omega, by omega, by omega⟩
  have hne : (c != c) = false := by simp
  go_enter Try.func14, Try.ntmps14
  have t_sz0 : ¬ ((1048576 - (szI xss0 L0 H0 P0 : Nat) : Int) < 0) := by omega
  obtain ⟨c0_1, c1_1, c2_1, c3_1, c4_1, f0_1, f1_1, f2_1, f3_1, f4_1, z_1⟩ := five P0'.out
  go_wp2_with fail
  refine (sz_it n0 a0 l0 h0 p0 cap0 capl0 caph0 capp0 xss0 L0 H0 P0 w.heap.size (1048576) (1048576 - (szI xss0 L0 H0 P0 : Nat)) _ (by omega) (by omega) k0.1 k0.2.1 k0.2.2.1 k0.2.2.2.1 k0.2.2.2.2 (r0.t.below B.out) B.out.size (hid (.inr ⟨by omega, by omega⟩))).mono ?_
  rintro e w1 ⟨rfl, hb⟩
  clear c0_1 c1_1 c2_1 c3_1 c4_1 f0_1 f1_1 f2_1 f3_1 f4_1 z_1
  have s_w1 := hb.size
  (try simp only [World.size_alloc] at s_w1)
  replace P0' := hid (P0'.out.below hb)
  replace P1' := hid (P1'.out.below hb)
  replace B := hid (B.out.trans (hb.mono B.out.size))
  clear hb
  have t_sz1 : ¬ ((1048576 - (szI xss0 L0 H0 P0 : Nat) - (szI xss1 L1 H1 P1 : Nat) : Int) < 0) := by omega
  obtain ⟨c0_2, c1_2, c2_2, c3_2, c4_2, f0_2, f1_2, f2_2, f3_2, f4_2, z_2⟩ := five P1'.out
  go_wp2_with fail
  refine (sz_it n1 a1 l1 h1 p1 cap1 capl1 caph1 capp1 xss1 L1 H1 P1 w.heap.size (1048576 - (szI xss0 L0 H0 P0 : Nat)) (1048576 - (szI xss0 L0 H0 P0 : Nat) - (szI xss1 L1 H1 P1 : Nat)) _ (by omega) (by omega) k1.1 k1.2.1 k1.2.2.1 k1.2.2.2.1 k1.2.2.2.2 (r1.t.below B.out) B.out.size (hid (.inr ⟨by omega, by omega⟩))).mono ?_
  rintro e w2 ⟨rfl, hb⟩
  clear c0_2 c1_2 c2_2 c3_2 c4_2 f0_2 f1_2 f2_2 f3_2 f4_2 z_2
  have s_w2 := hb.size
  (try simp only [World.size_alloc] at s_w2)
  replace P0' := hid (P0'.out.below hb)
  replace P1' := hid (P1'.out.below hb)
  replace B := hid (B.out.trans (hb.mono B.out.size))
  clear hb
  have R0 := hid (r0.below B.out)
  have R1 := hid (r1.below B.out)
  have hs2 : w.heap.size + 2 ≤ w2.heap.size := by have := P1'.out.1; omega
  obtain ⟨c0_3, c1_3, c2_3, c3_3, c4_3, f0_3, f1_3, f2_3, f3_3, f4_3, z_3⟩ := five P0'.out
  obtain ⟨c0_4, c1_4, c2_4, c3_4, c4_4, f0_4, f1_4, f2_4, f3_4, f4_4, z_4⟩ := five P1'.out
  have hk2 := kp_refl w2
  go_upto_region 8 with fail
  go_cut [6] (fun s6 wx => s6 = .bool c ∧ Kp w2 0 wx)
  case first =>
    go_region_held3 (fun w' => w'.cell? ⟨w.heap.size, 0, none⟩ = some (.int .i64 n0) ∧ w'.cell? ⟨w.heap.size, 1, none⟩ = some (.slice a0 xss0.length cap0) ∧ w'.cell? ⟨w.heap.size, 2, none⟩ = some (.slice l0 L0.length capl0) ∧ w'.cell? ⟨w.heap.size, 3, none⟩ = some (.slice h0 H0.length caph0) ∧ w'.cell? ⟨w.heap.size, 4, none⟩ = some (.slice p0 P0.length capp0) ∧ w'.cell? ⟨w.heap.size + 1, 0, none⟩ = some (.int .i64 n1) ∧ w'.cell? ⟨w.heap.size + 1, 1, none⟩ = some (.slice a1 xss1.length cap1) ∧ w'.cell? ⟨w.heap.size + 1, 2, none⟩ = some (.slice l1 L1.length capl1) ∧ w'.cell? ⟨w.heap.size + 1, 3, none⟩ = some (.slice h1 H1.length caph1) ∧ w'.cell? ⟨w.heap.size + 1, 4, none⟩ = some (.slice p1 P1.length capp1) ∧ Kp w2 0 w')
      (first
        | (go_split_ands
           repeat' apply And.intro
           all_goals (first | (with_reducible assumption) | (with_reducible exact cell_drew (by assumption)) | (with_reducible exact Kp.drew (by assumption)) | (with_reducible exact Kp.cell (by assumption) hb1 (by omega) (by assumption)) | (with_reducible exact Kp.call (by assumption) hb1))))
      (first | (go_split_ands; go_at_call 44; (with_reducible refine (to_it n0 a0 l0 h0 p0 cap0 capl0 caph0 capp0 xss0 L0 H0 P0 w.heap.size _ (by omega) (R0.out.kp (by with_reducible assumption) (by omega)) (kp_le (by with_reducible assumption) (by omega))).mono ?_); rintro e wA ⟨aA, vsA, lA, hA, pA, mA, rfl, hownA, hb1⟩; have HA := hid hownA; clear hownA) | (go_split_ands; go_at_call 44; (with_reducible refine (to_it n1 a1 l1 h1 p1 cap1 capl1 caph1 capp1 xss1 L1 H1 P1 w.heap.size _ (by omega) (R1.out.kp (by with_reducible assumption) (by omega)) (kp_le (by with_reducible assumption) (by omega))).mono ?_); rintro e wB ⟨aB, vsB, lB, hB, pB, mB, rfl, hownB, hb1⟩; have HB := hid hownB; clear hownB; (try (first | (with_reducible have HA := hid (HA.out.below' hb1)) | (with_reducible have HA := hid (HA.out.drew.below' hb1))))) | (go_split_ands; go_at_call 21; (with_reducible refine (S.out _ _ _ _ _ _ _ _ _ _ _ _ _ _ _ _ _ (by first | (with_reducible exact itown_rd HA.out) | (with_reducible exact itown_rd HA.out.drew)) (by first | (with_reducible exact itown_rd HB.out) | (with_reducible exact itown_rd HB.out.drew))).mono ?_); rintro e wC ⟨rfl, hb1⟩))
    all_goals
      go_wp2_with fail
      go_meet
      go_split_ands
      exact ⟨rfl, by with_reducible assumption⟩
  case rest =>
    obtain ⟨rfl, hk⟩ := hcut
    obtain ⟨w3, rfl⟩ : ∃ wo : World, wo = wc := ⟨_, rfl⟩
    have hb := hk.bel
    clear hk hk2
    clear c0_3 c1_3 c2_3 c3_3 c4_3 f0_3 f1_3 f2_3 f3_3 f4_3 z_3
    clear c0_4 c1_4 c2_4 c3_4 c4_4 f0_4 f1_4 f2_4 f3_4 f4_4 z_4
    have s_w3 := hb.size
    (try simp only [World.size_alloc] at s_w3)
    replace P0' := hid (P0'.out.below hb)
    replace P1' := hid (P1'.out.below hb)
    replace B := hid (B.out.trans (hb.mono B.out.size))
    clear hb
    clear R0 R1
    obtain ⟨c0_5, c1_5, c2_5, c3_5, c4_5, f0_5, f1_5, f2_5, f3_5, f4_5, z_5⟩ := five P0'.out
    go_wp2_with fail
    clear c0_5 c1_5 c2_5 c3_5 c4_5 f0_5 f1_5 f2_5 f3_5 f4_5 z_5
    refine (to_it n0 a0 l0 h0 p0 cap0 capl0 caph0 capp0 xss0 L0 H0 P0 w.heap.size _ (by omega) (r0.below B.out) B.out.size).mono ?_
    rintro e w4 ⟨ax0, vsx0, lx0, hx0, px0, mx0, rfl, hown, hb⟩
    have s_w4 := hb.size
    (try simp only [World.size_alloc] at s_w4)
    replace P0' := hid (P0'.out.below hb)
    replace P1' := hid (P1'.out.below hb)
    replace B := hid (B.out.trans (hb.mono B.out.size))
    clear hb
    (try simp only [World.size_alloc] at hown)
    have x0' := hid hown
    have Ux0 := hid (itown_under hown)
    have hlx0 := hown.le
    have hmx0 := hown.le2
    clear hown
    obtain ⟨c0_6, c1_6, c2_6, c3_6, c4_6, f0_6, f1_6, f2_6, f3_6, f4_6, z_6⟩ := five P1'.out
    go_wp2_with fail
    clear c0_6 c1_6 c2_6 c3_6 c4_6 f0_6 f1_6 f2_6 f3_6 f4_6 z_6
    replace P0' := hid (P0'.out.alloc (.cells #[.int .i64 n0, .slice (some ⟨ax0, 0, none⟩) xss0.length xss0.length, .slice (some ⟨lx0, 0, none⟩) L0.length L0.length, .slice (some ⟨hx0, 0, none⟩) H0.length H0.length, .slice (some ⟨px0, 0, none⟩) P0.length P0.length] 29))
    replace P1' := hid (P1'.out.alloc (.cells #[.int .i64 n0, .slice (some ⟨ax0, 0, none⟩) xss0.length xss0.length, .slice (some ⟨lx0, 0, none⟩) L0.length L0.length, .slice (some ⟨hx0, 0, none⟩) H0.length H0.length, .slice (some ⟨px0, 0, none⟩) P0.length P0.length] 29))
    replace x0' := hid (x0'.out.alloc (.cells #[.int .i64 n0, .slice (some ⟨ax0, 0, none⟩) xss0.length xss0.length, .slice (some ⟨lx0, 0, none⟩) L0.length L0.length, .slice (some ⟨hx0, 0, none⟩) H0.length H0.length, .slice (some ⟨px0, 0, none⟩) P0.length P0.length] 29))
    replace B := hid (B.out.alloc B.out.size (.cells #[.int .i64 n0, .slice (some ⟨ax0, 0, none⟩) xss0.length xss0.length, .slice (some ⟨lx0, 0, none⟩) L0.length L0.length, .slice (some ⟨hx0, 0, none⟩) H0.length H0.length, .slice (some ⟨px0, 0, none⟩) P0.length P0.length] 29))
    have Q0' := hid (hasl_new w4 [.int .i64 n0, .slice (some ⟨ax0, 0, none⟩) xss0.length xss0.length, .slice (some ⟨lx0, 0, none⟩) L0.length L0.length, .slice (some ⟨hx0, 0, none⟩) H0.length H0.length, .slice (some ⟨px0, 0, none⟩) P0.length P0.length] 29)
    refine (to_it n1 a1 l1 h1 p1 cap1 capl1 caph1 capp1 xss1 L1 H1 P1 w.heap.size _ (by omega) (r1.below B.out) B.out.size).mono ?_
    rintro e w5 ⟨ax1, vsx1, lx1, hx1, px1, mx1, rfl, hown, hb⟩
    have s_w5 := hb.size
    (try simp only [World.size_alloc] at s_w5)
    replace P0' := hid (P0'.out.below hb)
    replace P1' := hid (P1'.out.below hb)
    replace x0' := hid (x0'.out.below' hb)
    replace Q0' := hid (Q0'.out.below hb)
    replace B := hid (B.out.trans (hb.mono B.out.size))
    clear hb
    (try simp only [World.size_alloc] at hown)
    have x1' := hid hown
    have Ux1 := hid (itown_under hown)
    have hlx1 := hown.le
    have hmx1 := hown.le2
    clear hown
    obtain ⟨c0_7, c1_7, c2_7, c3_7, c4_7, f0_7, f1_7, f2_7, f3_7, f4_7, z_7⟩ := five Q0'.out
    go_wp2_with fail
    clear c0_7 c1_7 c2_7 c3_7 c4_7 f0_7 f1_7 f2_7 f3_7 f4_7 z_7
    replace P0' := hid (P0'.out.alloc (.cells #[.int .i64 n1, .slice (some ⟨ax1, 0, none⟩) xss1.length xss1.length, .slice (some ⟨lx1, 0, none⟩) L1.length L1.length, .slice (some ⟨hx1, 0, none⟩) H1.length H1.length, .slice (some ⟨px1, 0, none⟩) P1.length P1.length] 29))
    replace P1' := hid (P1'.out.alloc (.cells #[.int .i64 n1, .slice (some ⟨ax1, 0, none⟩) xss1.length xss1.length, .slice (some ⟨lx1, 0, none⟩) L1.length L1.length, .slice (some ⟨hx1, 0, none⟩) H1.length H1.length, .slice (some ⟨px1, 0, none⟩) P1.length P1.length] 29))
    replace x0' := hid (x0'.out.alloc (.cells #[.int .i64 n1, .slice (some ⟨ax1, 0, none⟩) xss1.length xss1.length, .slice (some ⟨lx1, 0, none⟩) L1.length L1.length, .slice (some ⟨hx1, 0, none⟩) H1.length H1.length, .slice (some ⟨px1, 0, none⟩) P1.length P1.length] 29))
    replace Q0' := hid (Q0'.out.alloc (.cells #[.int .i64 n1, .slice (some ⟨ax1, 0, none⟩) xss1.length xss1.length, .slice (some ⟨lx1, 0, none⟩) L1.length L1.length, .slice (some ⟨hx1, 0, none⟩) H1.length H1.length, .slice (some ⟨px1, 0, none⟩) P1.length P1.length] 29))
    replace x1' := hid (x1'.out.alloc (.cells #[.int .i64 n1, .slice (some ⟨ax1, 0, none⟩) xss1.length xss1.length, .slice (some ⟨lx1, 0, none⟩) L1.length L1.length, .slice (some ⟨hx1, 0, none⟩) H1.length H1.length, .slice (some ⟨px1, 0, none⟩) P1.length P1.length] 29))
    replace B := hid (B.out.alloc B.out.size (.cells #[.int .i64 n1, .slice (some ⟨ax1, 0, none⟩) xss1.length xss1.length, .slice (some ⟨lx1, 0, none⟩) L1.length L1.length, .slice (some ⟨hx1, 0, none⟩) H1.length H1.length, .slice (some ⟨px1, 0, none⟩) P1.length P1.length] 29))
    have Q1' := hid (hasl_new w5 [.int .i64 n1, .slice (some ⟨ax1, 0, none⟩) xss1.length xss1.length, .slice (some ⟨lx1, 0, none⟩) L1.length L1.length, .slice (some ⟨hx1, 0, none⟩) H1.length H1.length, .slice (some ⟨px1, 0, none⟩) P1.length P1.length] 29)
    refine (I.out _ _ _ _ _ _ _ _ _  _ _ _ _ _ _ _ _  (itown_rd x0'.out) (itown_rd x1'.out)).mono ?_
    rintro e w6 ⟨rfl, hb⟩
    have s_w6 := hb.size
    (try simp only [World.size_alloc] at s_w6)
    replace P0' := hid (P0'.out.below hb)
    replace P1' := hid (P1'.out.below hb)
    replace x0' := hid (x0'.out.below' hb)
    replace Q0' := hid (Q0'.out.below hb)
    replace x1' := hid (x1'.out.below' hb)
    replace Q1' := hid (Q1'.out.below hb)
    replace B := hid (B.out.trans (hb.mono B.out.size))
    clear hb
    have R0 := hid (r0.below B.out)
    have XR0 := hid (itown_rd x0'.out)
    obtain ⟨c0_8, c1_8, c2_8, c3_8, c4_8, f0_8, f1_8, f2_8, f3_8, f4_8, z_8⟩ := five Q0'.out
    obtain ⟨c0_9, c1_9, c2_9, c3_9, c4_9, f0_9, f1_9, f2_9, f3_9, f4_9, z_9⟩ := five P0'.out
    have hk0 := kp_refl w6
    go_upto_region 14 with fail
    go_cut [39] (fun s wx => s = .bool false ∧ Kp w6 0 wx)
    case first =>
      go_region_held3 (fun w' => w'.cell? ⟨w.heap.size, 0, none⟩ = some (.int .i64 n0) ∧ w'.cell? ⟨w.heap.size, 1, none⟩ = some (.slice a0 xss0.length cap0) ∧ w'.cell? ⟨w.heap.size, 2, none⟩ = some (.slice l0 L0.length capl0) ∧ w'.cell? ⟨w.heap.size, 3, none⟩ = some (.slice h0 H0.length caph0) ∧ w'.cell? ⟨w.heap.size, 4, none⟩ = some (.slice p0 P0.length capp0) ∧ w'.cell? ⟨w4.heap.size, 0, none⟩ = some (.int .i64 n0) ∧ w'.cell? ⟨w4.heap.size, 1, none⟩ = some (.slice (some ⟨ax0, 0, none⟩) xss0.length xss0.length) ∧ w'.cell? ⟨w4.heap.size, 2, none⟩ = some (.slice (some ⟨lx0, 0, none⟩) L0.length L0.length) ∧ w'.cell? ⟨w4.heap.size, 3, none⟩ = some (.slice (some ⟨hx0, 0, none⟩) H0.length H0.length) ∧ w'.cell? ⟨w4.heap.size, 4, none⟩ = some (.slice (some ⟨px0, 0, none⟩) P0.length P0.length) ∧ Kp w6 0 w')
        (first
          | (go_split_ands
             repeat' apply And.intro
             all_goals (first | (with_reducible assumption) | (with_reducible exact cell_drew (by assumption)) | (with_reducible exact Kp.drew (by assumption)) | (with_reducible exact Kp.cell (by assumption) hb1 (by omega) (by assumption)) | (with_reducible exact Kp.call (by assumption) hb1))))
        (first
          | (go_split_ands; go_at_call 44; (with_reducible refine (to_it n0 a0 l0 h0 p0 cap0 capl0 caph0 capp0 xss0 L0 H0 P0 w.heap.size _ (by omega) (R0.out.kp (by with_reducible assumption) (by omega)) (kp_le (by with_reducible assumption) (by omega))).mono ?_); rintro e wT ⟨aT, vsT, lT, hT, pT, mT, rfl, hownT, hb1⟩; have HT := hid hownT; clear hownT)
          | (go_split_ands; go_at_call 38; (with_reducible refine (eq_it n0 _ _ _ _ _ _ _ _ _ _ _ _ _ _ _ _ xss0 L0 H0 P0 w6.heap.size wT.heap.size _ (by omega) (XR0.out.kp (by with_reducible assumption) (Nat.le_refl _)) (by first | exact itown_rd HT.out | exact itown_rd HT.out.drew) (kp_le (by with_reducible assumption) (Nat.le_refl _)) (by first | exact Nat.le_refl _ | simp)).mono ?_); rintro e wU ⟨rfl, hb1⟩))
      all_goals
        go_wp2_with fail
        go_meet
        go_split_ands
        exact ⟨rfl, by with_reducible assumption⟩
    case rest =>
      obtain ⟨rfl, hk⟩ := hcut
      obtain ⟨w7, rfl⟩ : ∃ wo : World, wo = wc := ⟨_, rfl⟩
      clear hk0 R0 XR0
      clear c0_8 c1_8 c2_8 c3_8 c4_8 f0_8 f1_8 f2_8 f3_8 f4_8 z_8
      clear c0_9 c1_9 c2_9 c3_9 c4_9 f0_9 f1_9 f2_9 f3_9 f4_9 z_9
      have hb := hk.bel
      clear hk
      have s_w7 := hb.size
      (try simp only [World.size_alloc] at s_w7)
      replace P0' := hid (P0'.out.below hb)
      replace P1' := hid (P1'.out.below hb)
      replace x0' := hid (x0'.out.below' hb)
      replace Q0' := hid (Q0'.out.below hb)
      replace x1' := hid (x1'.out.below' hb)
      replace Q1' := hid (Q1'.out.below hb)
      replace B := hid (B.out.trans (hb.mono B.out.size))
      clear hb
      have R1 := hid (r1.below B.out)
      have XR1 := hid (itown_rd x1'.out)
      obtain ⟨c0_10, c1_10, c2_10, c3_10, c4_10, f0_10, f1_10, f2_10, f3_10, f4_10, z_10⟩ := five Q1'.out
      obtain ⟨c0_11, c1_11, c2_11, c3_11, c4_11, f0_11, f1_11, f2_11, f3_11, f4_11, z_11⟩ := five P1'.out
      have hk0 := kp_refl w7
      go_upto_region 16 with fail
      go_cut [44] (fun s wx => s = .bool false ∧ Kp w7 0 wx)
      case first =>
        go_region_held3 (fun w' => w'.cell? ⟨w.heap.size + 1, 0, none⟩ = some (.int .i64 n1) ∧ w'.cell? ⟨w.heap.size + 1, 1, none⟩ = some (.slice a1 xss1.length cap1) ∧ w'.cell? ⟨w.heap.size + 1, 2, none⟩ = some (.slice l1 L1.length capl1) ∧ w'.cell? ⟨w.heap.size + 1, 3, none⟩ = some (.slice h1 H1.length caph1) ∧ w'.cell? ⟨w.heap.size + 1, 4, none⟩ = some (.slice p1 P1.length capp1) ∧ w'.cell? ⟨w5.heap.size, 0, none⟩ = some (.int .i64 n1) ∧ w'.cell? ⟨w5.heap.size, 1, none⟩ = some (.slice (some ⟨ax1, 0, none⟩) xss1.length xss1.length) ∧ w'.cell? ⟨w5.heap.size, 2, none⟩ = some (.slice (some ⟨lx1, 0, none⟩) L1.length L1.length) ∧ w'.cell? ⟨w5.heap.size, 3, none⟩ = some (.slice (some ⟨hx1, 0, none⟩) H1.length H1.length) ∧ w'.cell? ⟨w5.heap.size, 4, none⟩ = some (.slice (some ⟨px1, 0, none⟩) P1.length P1.length) ∧ Kp w7 0 w')
          (first
            | (go_split_ands
               repeat' apply And.intro
               all_goals (first | (with_reducible assumption) | (with_reducible exact cell_drew (by assumption)) | (with_reducible exact Kp.drew (by assumption)) | (with_reducible exact Kp.cell (by assumption) hb1 (by omega) (by assumption)) | (with_reducible exact Kp.call (by assumption) hb1))))
          (first
            | (go_split_ands; go_at_call 44; (with_reducible refine (to_it n1 a1 l1 h1 p1 cap1 capl1 caph1 capp1 xss1 L1 H1 P1 w.heap.size _ (by omega) (R1.out.kp (by with_reducible assumption) (by omega)) (kp_le (by with_reducible assumption) (by omega))).mono ?_); rintro e wT ⟨aT, vsT, lT, hT, pT, mT, rfl, hownT, hb1⟩; have HT := hid hownT; clear hownT)
            | (go_split_ands; go_at_call 38; (with_reducible refine (eq_it n1 _ _ _ _ _ _ _ _ _ _ _ _ _ _ _ _ xss1 L1 H1 P1 w7.heap.size wT.heap.size _ (by omega) (XR1.out.kp (by with_reducible assumption) (Nat.le_refl _)) (by first | exact itown_rd HT.out | exact itown_rd HT.out.drew) (kp_le (by with_reducible assumption) (Nat.le_refl _)) (by first | exact Nat.le_refl _ | simp)).mono ?_); rintro e wU ⟨rfl, hb1⟩))
        all_goals
          go_wp2_with fail
          go_meet
          go_split_ands
          exact ⟨rfl, by with_reducible assumption⟩
      case rest =>
        obtain ⟨rfl, hk⟩ := hcut
        obtain ⟨w8, rfl⟩ : ∃ wo : World, wo = wc := ⟨_, rfl⟩
        clear hk0 R1 XR1
        clear c0_10 c1_10 c2_10 c3_10 c4_10 f0_10 f1_10 f2_10 f3_10 f4_10 z_10
        clear c0_11 c1_11 c2_11 c3_11 c4_11 f0_11 f1_11 f2_11 f3_11 f4_11 z_11
        have hb := hk.bel
        clear hk
        have s_w8 := hb.size
        (try simp only [World.size_alloc] at s_w8)
        replace P0' := hid (P0'.out.below hb)
        replace P1' := hid (P1'.out.below hb)
        replace x0' := hid (x0'.out.below' hb)
        replace Q0' := hid (Q0'.out.below hb)
        replace x1' := hid (x1'.out.below' hb)
        replace Q1' := hid (Q1'.out.below hb)
        replace B := hid (B.out.trans (hb.mono B.out.size))
        clear hb
        go_wp2_with fail
        go_ret
        exact ⟨rfl, B.out⟩

set_option maxRecDepth 100000 in
theorem walk (n0 : Int) (a0 l0 h0 p0 : Option Addr) (cap0 capl0 caph0 capp0 : Nat) (xss0 : List (List Int)) (L0 H0 P0 : List Int) (n1 : Int) (a1 l1 h1 p1 : Option Addr) (cap1 capl1 caph1 capp1 : Nat) (xss1 : List (List Int)) (L1 H1 P1 : List Int) (w : World) (k0 : xss0.length ≤ 9223372036854775807 ∧ (∀ j (h : j < xss0.length), xss0[j].length ≤ 9223372036854775807) ∧ L0.length ≤ 9223372036854775807 ∧ H0.length ≤ 9223372036854775807 ∧ P0.length ≤ 9223372036854775807) (k1 : xss1.length ≤ 9223372036854775807 ∧ (∀ j (h : j < xss1.length), xss1[j].length ≤ 9223372036854775807) ∧ L1.length ≤ 9223372036854775807 ∧ H1.length ≤ 9223372036854775807 ∧ P1.length ≤ 9223372036854775807) (r0 : ItRd w w.heap.size a0 l0 h0 p0 cap0 capl0 caph0 capp0 xss0 L0 H0 P0) (r1 : ItRd w w.heap.size a1 l1 h1 p1 cap1 capl1 caph1 capp1 xss1 L1 H1 P1) (SI : szI xss0 L0 H0 P0 + szI xss1 L1 H1 P1 ≤ 1048576 → ∃ (c : Bool), (∀ (W : World) (aw0 lw0 hw0 pw0 : Option Addr) (capw0 caplw0 caphw0 cappw0 : Nat) (aw1 lw1 hw1 pw1 : Option Addr) (capw1 caplw1 caphw1 cappw1 : Nat), ItRd W W.heap.size aw0 lw0 hw0 pw0 capw0 caplw0 caphw0 cappw0 xss0 L0 H0 P0 → ItRd W W.heap.size aw1 lw1 hw1 pw1 capw1 caplw1 caphw1 cappw1 xss1 L1 H1 P1 → Calls Try.prog 21 #[.agg #[.int .i64 n0, .slice aw0 xss0.length capw0, .slice lw0 L0.length caplw0, .slice hw0 H0.length caphw0, .slice pw0 P0.length cappw0], .agg #[.int .i64 n1, .slice aw1 xss1.length capw1, .slice lw1 L1.length caplw1, .slice hw1 H1.length caphw1, .slice pw1 P1.length cappw1]] W fun e w' => e = .returned (.bool c) ∧ Below W.heap.size W w') ∧ (∀ (W : World) (aw0 lw0 hw0 pw0 : Option Addr) (capw0 caplw0 caphw0 cappw0 : Nat) (aw1 lw1 hw1 pw1 : Option Addr) (capw1 caplw1 caphw1 cappw1 : Nat), ItRd W W.heap.size aw0 lw0 hw0 pw0 capw0 caplw0 caphw0 cappw0 xss0 L0 H0 P0 → ItRd W W.heap.size aw1 lw1 hw1 pw1 capw1 caplw1 caphw1 cappw1 xss1 L1 H1 P1 → Calls Try.prog 28 #[.agg #[.int .i64 n0, .slice aw0 xss0.length capw0, .slice lw0 L0.length caplw0, .slice hw0 H0.length caphw0, .slice pw0 P0.length cappw0], .agg #[.int .i64 n1, .slice aw1 xss1.length capw1, .slice lw1 L1.length caplw1, .slice hw1 H1.length caphw1, .slice pw1 P1.length cappw1]] W fun e w' => e = .returned (.bool c) ∧ Below W.heap.size W w')) :
    Calls Try.prog 14 #[.agg #[.int .i64 n0, .slice a0 xss0.length cap0, .slice l0 L0.length capl0, .slice h0 H0.length caph0, .slice p0 P0.length capp0], .agg #[.int .i64 n1, .slice a1 xss1.length cap1, .slice l1 L1.length capl1, .slice h1 H1.length caph1, .slice p1 P1.length capp1]] w fun e w' => e = .returned (.bool true) ∧ Below w.heap.size w w' := by
  by_cases ht0 : 1048576 < szI xss0 L0 H0 P0
  · clear SI
    have P0' := hid (hasl_new w [.int .i64 n0, .slice a0 xss0.length cap0, .slice l0 L0.length capl0, .slice h0 H0.length caph0, .slice p0 P0.length capp0] 52)
    have P1' := hid (hasl_new (w.alloc (.cells #[.int .i64 n0, .slice a0 xss0.length cap0, .slice l0 L0.length capl0, .slice h0 H0.length caph0, .slice p0 P0.length capp0] 52)) [.int .i64 n1, .slice a1 xss1.length cap1, .slice l1 L1.length capl1, .slice h1 H1.length caph1, .slice p1 P1.length capp1] 52)
    replace P0' := hid (P0'.out.alloc (.cells #[.int .i64 n1, .slice a1 xss1.length cap1, .slice l1 L1.length capl1, .slice h1 H1.length caph1, .slice p1 P1.length capp1] 52))
    simp only [World.size_alloc] at P1'
    have B := hid (((Below.refl w.heap.size w).alloc (by simp) (.cells #[.int .i64 n0, .slice a0 xss0.length cap0, .slice l0 L0.length capl0, .slice h0 H0.length caph0, .slice p0 P0.length capp0] 52)).alloc (by simp) (.cells #[.int .i64 n1, .slice a1 xss1.length cap1, .slice l1 L1.length capl1, .slice h1 H1.length caph1, .slice p1 P1.length capp1] 52))
    go_enter Try.func14, Try.ntmps14
    obtain ⟨c0_12, c1_12, c2_12, c3_12, c4_12, f0_12, f1_12, f2_12, f3_12, f4_12, z_12⟩ := five P0'.out
    go_wp2_with fail
    refine (sz_it n0 a0 l0 h0 p0 cap0 capl0 caph0 capp0 xss0 L0 H0 P0 w.heap.size (1048576) (-1) _ (by omega) (by omega) k0.1 k0.2.1 k0.2.2.1 k0.2.2.2.1 k0.2.2.2.2 (r0.t.below B.out) B.out.size (hid (.inl ⟨by omega, rfl⟩))).mono ?_
    rintro e w1 ⟨rfl, hb⟩
    clear c0_12 c1_12 c2_12 c3_12 c4_12 f0_12 f1_12 f2_12 f3_12 f4_12 z_12
    have s_w1 := hb.size
    (try simp only [World.size_alloc] at s_w1)
    replace P0' := hid (P0'.out.below hb)
    replace P1' := hid (P1'.out.below hb)
    replace B := hid (B.out.trans (hb.mono B.out.size))
    clear hb
    go_wp2
    go_ret
    exact ⟨rfl, B.out⟩
  · by_cases ht1 : 1048576 < szI xss0 L0 H0 P0 + szI xss1 L1 H1 P1
    · clear SI
      have P0' := hid (hasl_new w [.int .i64 n0, .slice a0 xss0.length cap0, .slice l0 L0.length capl0, .slice h0 H0.length caph0, .slice p0 P0.length capp0] 52)
      have P1' := hid (hasl_new (w.alloc (.cells #[.int .i64 n0, .slice a0 xss0.length cap0, .slice l0 L0.length capl0, .slice h0 H0.length caph0, .slice p0 P0.length capp0] 52)) [.int .i64 n1, .slice a1 xss1.length cap1, .slice l1 L1.length capl1, .slice h1 H1.length caph1, .slice p1 P1.length capp1] 52)
      replace P0' := hid (P0'.out.alloc (.cells #[.int .i64 n1, .slice a1 xss1.length cap1, .slice l1 L1.length capl1, .slice h1 H1.length caph1, .slice p1 P1.length capp1] 52))
      simp only [World.size_alloc] at P1'
      have B := hid (((Below.refl w.heap.size w).alloc (by simp) (.cells #[.int .i64 n0, .slice a0 xss0.length cap0, .slice l0 L0.length capl0, .slice h0 H0.length caph0, .slice p0 P0.length capp0] 52)).alloc (by simp) (.cells #[.int .i64 n1, .slice a1 xss1.length cap1, .slice l1 L1.length capl1, .slice h1 H1.length caph1, .slice p1 P1.length capp1] 52))
      have t_sz0 : ¬ ((1048576 - (szI xss0 L0 H0 P0 : Nat) : Int) < 0) := by omega
      go_enter Try.func14, Try.ntmps14
      obtain ⟨c0_13, c1_13, c2_13, c3_13, c4_13, f0_13, f1_13, f2_13, f3_13, f4_13, z_13⟩ := five P0'.out
      go_wp2_with fail
      refine (sz_it n0 a0 l0 h0 p0 cap0 capl0 caph0 capp0 xss0 L0 H0 P0 w.heap.size (1048576) (1048576 - (szI xss0 L0 H0 P0 : Nat)) _ (by omega) (by omega) k0.1 k0.2.1 k0.2.2.1 k0.2.2.2.1 k0.2.2.2.2 (r0.t.below B.out) B.out.size (hid (.inr ⟨by omega, by omega⟩))).mono ?_
      rintro e w1 ⟨rfl, hb⟩
      clear c0_13 c1_13 c2_13 c3_13 c4_13 f0_13 f1_13 f2_13 f3_13 f4_13 z_13
      have s_w1 := hb.size
      (try simp only [World.size_alloc] at s_w1)
      replace P0' := hid (P0'.out.below hb)
      replace P1' := hid (P1'.out.below hb)
      replace B := hid (B.out.trans (hb.mono B.out.size))
      clear hb
      obtain ⟨c0_14, c1_14, c2_14, c3_14, c4_14, f0_14, f1_14, f2_14, f3_14, f4_14, z_14⟩ := five P1'.out
      go_wp2_with fail
      refine (sz_it n1 a1 l1 h1 p1 cap1 capl1 caph1 capp1 xss1 L1 H1 P1 w.heap.size (1048576 - (szI xss0 L0 H0 P0 : Nat)) (-1) _ (by omega) (by omega) k1.1 k1.2.1 k1.2.2.1 k1.2.2.2.1 k1.2.2.2.2 (r1.t.below B.out) B.out.size (hid (.inl ⟨by omega, rfl⟩))).mono ?_
      rintro e w2 ⟨rfl, hb⟩
      clear c0_14 c1_14 c2_14 c3_14 c4_14 f0_14 f1_14 f2_14 f3_14 f4_14 z_14
      have s_w2 := hb.size
      (try simp only [World.size_alloc] at s_w2)
      replace P0' := hid (P0'.out.below hb)
      replace P1' := hid (P1'.out.below hb)
      replace B := hid (B.out.trans (hb.mono B.out.size))
      clear hb
      go_wp2
      go_ret
      exact ⟨rfl, B.out⟩
    · obtain ⟨c, S, I⟩ := SI (by omega)
      exact core n0 a0 l0 h0 p0 cap0 capl0 caph0 capp0 xss0 L0 H0 P0 n1 a1 l1 h1 p1 cap1 capl1 caph1 capp1 xss1 L1 H1 P1 c w (by omega)  r0 r1 (hid S) (hid I)
end Go.Proofs.Ytliomgoakiidfaa.EqualIteratorsC
