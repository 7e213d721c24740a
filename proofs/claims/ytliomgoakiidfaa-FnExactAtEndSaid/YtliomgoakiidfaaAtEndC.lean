/- The walk of law FnExactAtEnd, at every argument, out of the contracts of the model's function and the program's. -/
import Derived.Test.YtliomgoakiidfaaItTo
import Derived.Deep.RegionHeld3
import Derived.Deep.DeepCutAuto
namespace Go.Proofs.Ytliomgoakiidfaa.AtEndC
open Go.RowKit
open Go.Proofs.Ytliomgoakiidfaa.Num Go.Proofs.Ytliomgoakiidfaa.IntRow Go.Proofs.Ytliomgoakiidfaa.IntLaw Go.Proofs.Ytliomgoakiidfaa.Grid Go.Proofs.Ytliomgoakiidfaa.GridMore Go.Proofs.Ytliomgoakiidfaa.GridLaw Go.Proofs.Ytliomgoakiidfaa.GridLaw2 Go.Proofs.Ytliomgoakiidfaa.TrieLaw Go.Proofs.Ytliomgoakiidfaa.Keep Go.Proofs.Ytliomgoakiidfaa.Kept Go.Proofs.Ytliomgoakiidfaa.Cells Go.Proofs.Ytliomgoakiidfaa.RelKit Go.Proofs.Ytliomgoakiidfaa.HasL Go.Proofs.Ytliomgoakiidfaa.ItLaw Go.Proofs.Ytliomgoakiidfaa.ItTo
set_option linter.unusedVariables false
set_option linter.unusedSimpArgs false

set_option maxRecDepth 100000 in
set_option maxHeartbeats 8000000 in
theorem core (n0 : Int) (a0 l0 h0 p0 : Option Addr) (cap0 capl0 caph0 capp0 : Nat) (xss0 : List (List Int)) (L0 H0 P0 : List Int) (c : Bool) (w : World) (ht : szI xss0 L0 H0 P0 ≤ 1048576)  (r0 : ItRd w w.heap.size a0 l0 h0 p0 cap0 capl0 caph0 capp0 xss0 L0 H0 P0)
    (S : RowKit.Hid (∀ (W : World) (aw0 lw0 hw0 pw0 : Option Addr) (capw0 caplw0 caphw0 cappw0 : Nat), ItRd W W.heap.size aw0 lw0 hw0 pw0 capw0 caplw0 caphw0 cappw0 xss0 L0 H0 P0 → Calls Try.prog 46 #[.agg #[.int .i64 n0, .slice aw0 xss0.length capw0, .slice lw0 L0.length caplw0, .slice hw0 H0.length caphw0, .slice pw0 P0.length cappw0]] W fun e w' => e = .returned (.bool c) ∧ Below W.heap.size W w'))
    (I : RowKit.Hid (∀ (W : World) (aw0 lw0 hw0 pw0 : Option Addr) (capw0 caplw0 caphw0 cappw0 : Nat), ItRd W W.heap.size aw0 lw0 hw0 pw0 capw0 caplw0 caphw0 cappw0 xss0 L0 H0 P0 → Calls Try.prog 25 #[.agg #[.int .i64 n0, .slice aw0 xss0.length capw0, .slice lw0 L0.length caplw0, .slice hw0 H0.length caphw0, .slice pw0 P0.length cappw0]] W fun e w' => e = .returned (.bool c) ∧ Below W.heap.size W w')) :
    Calls Try.prog 9 #[.agg #[.int .i64 n0, .slice a0 xss0.length cap0, .slice l0 L0.length capl0, .slice h0 H0.length caph0, .slice p0 P0.length capp0]] w fun e w' => e = .returned (.bool true) ∧ Below w.heap.size w w' := by
  have hneq : (0 : Nat) ≤ 0 := Nat.le_refl _
  have P0' := hid (hasl_new w [.int .i64 n0, .slice a0 xss0.length cap0, .slice l0 L0.length capl0, .slice h0 H0.length caph0, .slice p0 P0.length capp0] 52)
  have B := hid ((Below.refl w.heap.size w).alloc (by simp) (.cells #[.int .i64 n0, .slice a0 xss0.length cap0, .slice l0 L0.length capl0, .slice h0 H0.length caph0, .slice p0 P0.length capp0] 52))
  have k0 : xss0.length ≤ 9223372036854775807 ∧ (∀ j (h : j < xss0.length), xss0[j].length ≤ 9223372036854775807) ∧ L0.length ≤ 9223372036854775807 ∧ H0.length ≤ 9223372036854775807 ∧ P0.length ≤ 9223372036854775807 := by obtain ⟨_, q1, q2, q3, q4, q5, _, _⟩ := szI_parts (xss := xss0) (L := L0) (H := H0) (P := P0) (by omega); exact ⟨by omega, fun j h => by have := q2 j h; omega, by omega, by omega, by omega⟩
  have hne : (c != c) = false := by simp
  go_enter Try.func9, Try.ntmps9
  have t_sz0 : ¬ ((1048576 - (szI xss0 L0 H0 P0 : Nat) : Int) < 0) := by omega
  obtain ⟨c0_1, c1_1, c2_1, c3_1, c4_1, f0_1, f1_1, f2_1, f3_1, f4_1, z_1⟩ := five P0'.out
  go_wp2_with fail
  refine (sz_it n0 a0 l0 h0 p0 cap0 capl0 caph0 capp0 xss0 L0 H0 P0 w.heap.size (1048576) (1048576 - (szI xss0 L0 H0 P0 : Nat)) _ (by omega) (by omega) k0.1 k0.2.1 k0.2.2.1 k0.2.2.2.1 k0.2.2.2.2 (r0.t.below B.out) B.out.size (hid (.inr ⟨by omega, by omega⟩))).mono ?_
  rintro e w1 ⟨rfl, hb⟩
  clear c0_1 c1_1 c2_1 c3_1 c4_1 f0_1 f1_1 f2_1 f3_1 f4_1 z_1
  have s_w1 := hb.size
  (try simp only [World.size_alloc] at s_w1)
  replace P0' := hid (P0'.out.below hb)
  replace B := hid (B.out.trans (hb.mono B.out.size))
  clear hb
  obtain ⟨c0_2, c1_2, c2_2, c3_2, c4_2, f0_2, f1_2, f2_2, f3_2, f4_2, z_2⟩ := five P0'.out
  go_wp2_with fail
  refine (to_it n0 a0 l0 h0 p0 cap0 capl0 caph0 capp0 xss0 L0 H0 P0 w.heap.size _ (by omega) (r0.below B.out) B.out.size).mono ?_
  rintro e w2 ⟨as0, vss0, ls0, hs0, ps0, ms0, rfl, hown, hb⟩
  clear c0_2 c1_2 c2_2 c3_2 c4_2 f0_2 f1_2 f2_2 f3_2 f4_2 z_2
  have s_w2 := hb.size
  (try simp only [World.size_alloc] at s_w2)
  replace P0' := hid (P0'.out.below hb)
  replace B := hid (B.out.trans (hb.mono B.out.size))
  clear hb
  (try simp only [World.size_alloc] at hown)
  have s0' := hid hown
  have Us0 := hid (itown_under hown)
  have hls0 := hown.le
  have hms0 := hown.le2
  clear hown
  go_wp2_with fail
  refine (S.out _ _ _ _ _ _ _ _ _  (itown_rd s0'.out)).mono ?_
  rintro e w3 ⟨rfl, hb⟩
  have s_w3 := hb.size
  (try simp only [World.size_alloc] at s_w3)
  replace P0' := hid (P0'.out.below hb)
  replace s0' := hid (s0'.out.below' hb)
  replace B := hid (B.out.trans (hb.mono B.out.size))
  clear hb
  clear s0'
  obtain ⟨c0_3, c1_3, c2_3, c3_3, c4_3, f0_3, f1_3, f2_3, f3_3, f4_3, z_3⟩ := five P0'.out
  go_wp2_with fail
  clear c0_3 c1_3 c2_3 c3_3 c4_3 f0_3 f1_3 f2_3 f3_3 f4_3 z_3
  refine (to_it n0 a0 l0 h0 p0 cap0 capl0 caph0 capp0 xss0 L0 H0 P0 w.heap.size _ (by omega) (r0.below B.out) B.out.size).mono ?_
  rintro e w4 ⟨ax0, vsx0, lx0, hx0, px0, mx0, rfl, hown, hb⟩
  have s_w4 := hb.size
  (try simp only [World.size_alloc] at s_w4)
  replace P0' := hid (P0'.out.below hb)
  replace B := hid (B.out.trans (hb.mono B.out.size))
  clear hb
  (try simp only [World.size_alloc] at hown)
  have x0' := hid hown
  have Ux0 := hid (itown_under hown)
  have hlx0 := hown.le
  have hmx0 := hown.le2
  clear hown
  go_wp2_with fail
  replace P0' := hid (P0'.out.alloc (.cells #[.int .i64 n0, .slice (some ⟨ax0, 0, none⟩) xss0.length xss0.length, .slice (some ⟨lx0, 0, none⟩) L0.length L0.length, .slice (some ⟨hx0, 0, none⟩) H0.length H0.length, .slice (some ⟨px0, 0, none⟩) P0.length P0.length] 29))
  replace x0' := hid (x0'.out.alloc (.cells #[.int .i64 n0, .slice (some ⟨ax0, 0, none⟩) xss0.length xss0.length, .slice (some ⟨lx0, 0, none⟩) L0.length L0.length, .slice (some ⟨hx0, 0, none⟩) H0.length H0.length, .slice (some ⟨px0, 0, none⟩) P0.length P0.length] 29))
  replace B := hid (B.out.alloc B.out.size (.cells #[.int .i64 n0, .slice (some ⟨ax0, 0, none⟩) xss0.length xss0.length, .slice (some ⟨lx0, 0, none⟩) L0.length L0.length, .slice (some ⟨hx0, 0, none⟩) H0.length H0.length, .slice (some ⟨px0, 0, none⟩) P0.length P0.length] 29))
  have Q0' := hid (hasl_new w4 [.int .i64 n0, .slice (some ⟨ax0, 0, none⟩) xss0.length xss0.length, .slice (some ⟨lx0, 0, none⟩) L0.length L0.length, .slice (some ⟨hx0, 0, none⟩) H0.length H0.length, .slice (some ⟨px0, 0, none⟩) P0.length P0.length] 29)
  refine (I.out _ _ _ _ _ _ _ _ _  (itown_rd x0'.out)).mono ?_
  rintro e w5 ⟨rfl, hb⟩
  have s_w5 := hb.size
  (try simp only [World.size_alloc] at s_w5)
  replace P0' := hid (P0'.out.below hb)
  replace x0' := hid (x0'.out.below' hb)
  replace Q0' := hid (Q0'.out.below hb)
  replace B := hid (B.out.trans (hb.mono B.out.size))
  clear hb
  have R0 := hid (r0.below B.out)
  have XR0 := hid (itown_rd x0'.out)
  obtain ⟨c0_4, c1_4, c2_4, c3_4, c4_4, f0_4, f1_4, f2_4, f3_4, f4_4, z_4⟩ := five Q0'.out
  obtain ⟨c0_5, c1_5, c2_5, c3_5, c4_5, f0_5, f1_5, f2_5, f3_5, f4_5, z_5⟩ := five P0'.out
  have hk0 := kp_refl w5
  go_upto_region 10 with fail
  go_cut [26] (fun s wx => s = .bool false ∧ Kp w5 0 wx)
  case first =>
    go_region_held3 (fun w' => w'.cell? ⟨w.heap.size, 0, none⟩ = some (.int .i64 n0) ∧ w'.cell? ⟨w.heap.size, 1, none⟩ = some (.slice a0 xss0.length cap0) ∧ w'.cell? ⟨w.heap.size, 2, none⟩ = some (.slice l0 L0.length capl0) ∧ w'.cell? ⟨w.heap.size, 3, none⟩ = some (.slice h0 H0.length caph0) ∧ w'.cell? ⟨w.heap.size, 4, none⟩ = some (.slice p0 P0.length capp0) ∧ w'.cell? ⟨w4.heap.size, 0, none⟩ = some (.int .i64 n0) ∧ w'.cell? ⟨w4.heap.size, 1, none⟩ = some (.slice (some ⟨ax0, 0, none⟩) xss0.length xss0.length) ∧ w'.cell? ⟨w4.heap.size, 2, none⟩ = some (.slice (some ⟨lx0, 0, none⟩) L0.length L0.length) ∧ w'.cell? ⟨w4.heap.size, 3, none⟩ = some (.slice (some ⟨hx0, 0, none⟩) H0.length H0.length) ∧ w'.cell? ⟨w4.heap.size, 4, none⟩ = some (.slice (some ⟨px0, 0, none⟩) P0.length P0.length) ∧ Kp w5 0 w')
      (first
        | (go_split_ands
           repeat' apply And.intro
           all_goals (first | (with_reducible assumption) | (with_reducible exact cell_drew (by assumption)) | (with_reducible exact Kp.drew (by assumption)) | (with_reducible exact Kp.cell (by assumption) hb1 (by omega) (by assumption)) | (with_reducible exact Kp.call (by assumption) hb1))))
      (first
        | (go_split_ands; go_at_call 44; (with_reducible refine (to_it n0 a0 l0 h0 p0 cap0 capl0 caph0 capp0 xss0 L0 H0 P0 w.heap.size _ (by omega) (R0.out.kp (by with_reducible assumption) (by omega)) (kp_le (by with_reducible assumption) (by omega))).mono ?_); rintro e wT ⟨aT, vsT, lT, hT, pT, mT, rfl, hownT, hb1⟩; have HT := hid hownT; clear hownT)
        | (go_split_ands; go_at_call 38; (with_reducible refine (eq_it n0 _ _ _ _ _ _ _ _ _ _ _ _ _ _ _ _ xss0 L0 H0 P0 w5.heap.size wT.heap.size _ (by omega) (XR0.out.kp (by with_reducible assumption) (Nat.le_refl _)) (by first | exact itown_rd HT.out | exact itown_rd HT.out.drew) (kp_le (by with_reducible assumption) (Nat.le_refl _)) (by first | exact Nat.le_refl _ | simp)).mono ?_); rintro e wU ⟨rfl, hb1⟩))
    all_goals
      go_wp2_with fail
      go_meet
      go_split_ands
      exact ⟨rfl, by with_reducible assumption⟩
  case rest =>
    obtain ⟨rfl, hk⟩ := hcut
    obtain ⟨w6, rfl⟩ : ∃ wo : World, wo = wc := ⟨_, rfl⟩
    clear hk0 R0 XR0
    clear c0_4 c1_4 c2_4 c3_4 c4_4 f0_4 f1_4 f2_4 f3_4 f4_4 z_4
    clear c0_5 c1_5 c2_5 c3_5 c4_5 f0_5 f1_5 f2_5 f3_5 f4_5 z_5
    have hb := hk.bel
    clear hk
    have s_w6 := hb.size
    (try simp only [World.size_alloc] at s_w6)
    replace P0' := hid (P0'.out.below hb)
    replace x0' := hid (x0'.out.below' hb)
    replace Q0' := hid (Q0'.out.below hb)
    replace B := hid (B.out.trans (hb.mono B.out.size))
    clear hb
    go_wp2_with fail
    go_ret
    exact ⟨rfl, B.out⟩

set_option maxRecDepth 100000 in
theorem walk (n0 : Int) (a0 l0 h0 p0 : Option Addr) (cap0 capl0 caph0 capp0 : Nat) (xss0 : List (List Int)) (L0 H0 P0 : List Int) (w : World) (k0 : xss0.length ≤ 9223372036854775807 ∧ (∀ j (h : j < xss0.length), xss0[j].length ≤ 9223372036854775807) ∧ L0.length ≤ 9223372036854775807 ∧ H0.length ≤ 9223372036854775807 ∧ P0.length ≤ 9223372036854775807) (r0 : ItRd w w.heap.size a0 l0 h0 p0 cap0 capl0 caph0 capp0 xss0 L0 H0 P0) (SI : szI xss0 L0 H0 P0 ≤ 1048576 → ∃ (c : Bool), (∀ (W : World) (aw0 lw0 hw0 pw0 : Option Addr) (capw0 caplw0 caphw0 cappw0 : Nat), ItRd W W.heap.size aw0 lw0 hw0 pw0 capw0 caplw0 caphw0 cappw0 xss0 L0 H0 P0 → Calls Try.prog 46 #[.agg #[.int .i64 n0, .slice aw0 xss0.length capw0, .slice lw0 L0.length caplw0, .slice hw0 H0.length caphw0, .slice pw0 P0.length cappw0]] W fun e w' => e = .returned (.bool c) ∧ Below W.heap.size W w') ∧ (∀ (W : World) (aw0 lw0 hw0 pw0 : Option Addr) (capw0 caplw0 caphw0 cappw0 : Nat), ItRd W W.heap.size aw0 lw0 hw0 pw0 capw0 caplw0 caphw0 cappw0 xss0 L0 H0 P0 → Calls Try.prog 25 #[.agg #[.int .i64 n0, .slice aw0 xss0.length capw0, .slice lw0 L0.length caplw0, .slice hw0 H0.length caphw0, .slice pw0 P0.length cappw0]] W fun e w' => e = .returned (.bool c) ∧ Below W.heap.size W w')) :
    Calls Try.prog 9 #[.agg #[.int .i64 n0, .slice a0 xss0.length cap0, .slice l0 L0.length capl0, .slice h0 H0.length caph0, .slice p0 P0.length capp0]] w fun e w' => e = .returned (.bool true) ∧ Below w.heap.size w w' := by
  by_cases ht0 : 1048576 < szI xss0 L0 H0 P0
  · clear SI
    have P0' := hid (hasl_new w [.int .i64 n0, .slice a0 xss0.length cap0, .slice l0 L0.length capl0, .slice h0 H0.length caph0, .slice p0 P0.length capp0] 52)
    have B := hid ((Below.refl w.heap.size w).alloc (by simp) (.cells #[.int .i64 n0, .slice a0 xss0.length cap0, .slice l0 L0.length capl0, .slice h0 H0.length caph0, .slice p0 P0.length capp0] 52))
    go_enter Try.func9, Try.ntmps9
    obtain ⟨c0_6, c1_6, c2_6, c3_6, c4_6, f0_6, f1_6, f2_6, f3_6, f4_6, z_6⟩ := five P0'.out
    go_wp2_with fail
    refine (sz_it n0 a0 l0 h0 p0 cap0 capl0 caph0 capp0 xss0 L0 H0 P0 w.heap.size (1048576) (-1) _ (by omega) (by omega) k0.1 k0.2.1 k0.2.2.1 k0.2.2.2.1 k0.2.2.2.2 (r0.t.below B.out) B.out.size (hid (.inl ⟨by omega, rfl⟩))).mono ?_
    rintro e w1 ⟨rfl, hb⟩
    clear c0_6 c1_6 c2_6 c3_6 c4_6 f0_6 f1_6 f2_6 f3_6 f4_6 z_6
    have s_w1 := hb.size
    (try simp only [World.size_alloc] at s_w1)
    replace P0' := hid (P0'.out.below hb)
    replace B := hid (B.out.trans (hb.mono B.out.size))
    clear hb
    go_wp2
    go_ret
    exact ⟨rfl, B.out⟩
  · obtain ⟨c, S, I⟩ := SI (by omega)
    exact core n0 a0 l0 h0 p0 cap0 capl0 caph0 capp0 xss0 L0 H0 P0 c w (by omega)  r0 (hid S) (hid I)
end Go.Proofs.Ytliomgoakiidfaa.AtEndC
