/- The walk of law FnExactIteratorPath, at every argument, out of the contracts of the model's function and the program's. -/
import Derived.Test.YtliomgoakiidfaaItTo
import Derived.Deep.RegionHeld3
import Derived.Deep.DeepCutAuto
namespace Go.Proofs.Ytliomgoakiidfaa.IteratorPathC
open Go.RowKit
open Go.Proofs.Ytliomgoakiidfaa.Num Go.Proofs.Ytliomgoakiidfaa.IntRow Go.Proofs.Ytliomgoakiidfaa.IntLaw Go.Proofs.Ytliomgoakiidfaa.Grid Go.Proofs.Ytliomgoakiidfaa.GridMore Go.Proofs.Ytliomgoakiidfaa.GridLaw Go.Proofs.Ytliomgoakiidfaa.GridLaw2 Go.Proofs.Ytliomgoakiidfaa.TrieLaw Go.Proofs.Ytliomgoakiidfaa.Keep Go.Proofs.Ytliomgoakiidfaa.Kept Go.Proofs.Ytliomgoakiidfaa.Cells Go.Proofs.Ytliomgoakiidfaa.RelKit Go.Proofs.Ytliomgoakiidfaa.HasL Go.Proofs.Ytliomgoakiidfaa.ItLaw Go.Proofs.Ytliomgoakiidfaa.ItTo
set_option linter.unusedVariables false
set_option linter.unusedSimpArgs false

set_option maxRecDepth 100000 in
set_option maxHeartbeats 8000000 in
theorem core (n0 : Int) (a0 l0 h0 p0 : Option Addr) (cap0 capl0 caph0 capp0 : Nat) (xss0 : List (List Int)) (L0 H0 P0 : List Int) (zs : List Int) (w : World) (ht : szI xss0 L0 H0 P0 ≤ 1048576) (hz : zs.length ≤ 1048576) (r0 : ItRd w w.heap.size a0 l0 h0 p0 cap0 capl0 caph0 capp0 xss0 L0 H0 P0)
    (S : RowKit.Hid (∀ (W : World) (aw0 lw0 hw0 pw0 : Option Addr) (capw0 caplw0 caphw0 cappw0 : Nat), ItRd W W.heap.size aw0 lw0 hw0 pw0 capw0 caplw0 caphw0 cappw0 xss0 L0 H0 P0 → Calls Try.prog 24 #[.agg #[.int .i64 n0, .slice aw0 xss0.length capw0, .slice lw0 L0.length caplw0, .slice hw0 H0.length caphw0, .slice pw0 P0.length cappw0]] W fun e w' => ∃ a cap, e = .returned (.slice a zs.length cap) ∧ Own w' W.heap.size eI (.slice a zs.length cap) zs ∧ Below W.heap.size W w'))
    (I : RowKit.Hid (∀ (W : World) (aw0 lw0 hw0 pw0 : Option Addr) (capw0 caplw0 caphw0 cappw0 : Nat), ItRd W W.heap.size aw0 lw0 hw0 pw0 capw0 caplw0 caphw0 cappw0 xss0 L0 H0 P0 → Calls Try.prog 30 #[.agg #[.int .i64 n0, .slice aw0 xss0.length capw0, .slice lw0 L0.length caplw0, .slice hw0 H0.length caphw0, .slice pw0 P0.length cappw0]] W fun e w' => ∃ a cap, e = .returned (.slice a zs.length cap) ∧ Own w' W.heap.size eI (.slice a zs.length cap) zs ∧ Below W.heap.size W w')) :
    Calls Try.prog 13 #[.agg #[.int .i64 n0, .slice a0 xss0.length cap0, .slice l0 L0.length capl0, .slice h0 H0.length caph0, .slice p0 P0.length capp0]] w fun e w' => e = .returned (.bool true) ∧ Below w.heap.size w w' := by
  have hneq : (0 : Nat) ≤ 0 := Nat.le_refl _
  have P0' := hid (hasl_new w [.int .i64 n0, .slice a0 xss0.length cap0, .slice l0 L0.length capl0, .slice h0 H0.length caph0, .slice p0 P0.length capp0] 52)
  have B := hid ((Below.refl w.heap.size w).alloc (by simp) (.cells #[.int .i64 n0, .slice a0 xss0.length cap0, .slice l0 L0.length capl0, .slice h0 H0.length caph0, .slice p0 P0.length capp0] 52))
  have k0 : xss0.length ≤ 9223372036854775807 ∧ (∀ j (h : j < xss0.length), xss0[j].length ≤ 9223372036854775807) ∧ L0.length ≤ 9223372036854775807 ∧ H0.length ≤ 9223372036854775807 ∧ P0.length ≤ 9223372036854775807 := by obtain ⟨_, q1, q2, q3, q4, q5, _, _⟩ := szI_parts (xss := xss0) (L := L0) (H := H0) (P := P0) (by omega); exact ⟨by omega, fun j h => by have := q2 j h; omega, by omega, by omega, by omega⟩
  go_enter Try.func13, Try.ntmps13
  have t_sz0 : ¬ ((1048576 - (szI xss0 L0 H0 P0 : Nat) : Int) < 0) := by omega
  obtain ⟨c0_1, c1_1, c2_1, c3_1, c4_1, f0_1, f1_1, f2_1, f3_1, f4_1, z_1⟩ := five P0'.out
  go_wp2_with fail
  refine (sz_it n0 a0 l0 h0 p0 cap0 capl0 caph0 capp0 xss0 L0 H0 P0 w.heap.size (1048576) (1048576 - (szI xss0 L0 H0 P0 : Nat)) _ (by omega) (by omega) k0.1 k0.2.1 k0.2.2.1 k0.2.2.2.1 k0.2.2.2.2 (r0.t.below B.out) B.out.size (hid (.inr ⟨by omega, by omega⟩))).mono ?_
  rintro e w1 ⟨rfl, hb⟩
  clear c0_1 c1_1 c2_1 c3_1 c4_1 f0_1 f1_1 f2_1 f3_1 f4_1 z_1
  have s_w1 := hb.size
  (try simp only [World.size_alloc] at s_w1)
  replace P0' := hid (P0'.out.below hb)
  replace B := hid (B.out.trans (hb.mono B.out.size))
  clear hb
  obtain ⟨c0_2, c1_2, c2_2, c3_2, c4_2, f0_2, f1_2, f2_2, f3_2, f4_2, z_2⟩ := five P0'.out
  go_wp2_with fail
  refine (to_it n0 a0 l0 h0 p0 cap0 capl0 caph0 capp0 xss0 L0 H0 P0 w.heap.size _ (by omega) (r0.below B.out) B.out.size).mono ?_
  rintro e w2 ⟨as0, vss0, ls0, hs0, ps0, ms0, rfl, hown, hb⟩
  clear c0_2 c1_2 c2_2 c3_2 c4_2 f0_2 f1_2 f2_2 f3_2 f4_2 z_2
  have s_w2 := hb.size
  (try simp only [World.size_alloc] at s_w2)
  replace P0' := hid (P0'.out.below hb)
  replace B := hid (B.out.trans (hb.mono B.out.size))
  clear hb
  (try simp only [World.size_alloc] at hown)
  have s0' := hid hown
  have Us0 := hid (itown_under hown)
  have hls0 := hown.le
  have hms0 := hown.le2
  clear hown
  go_wp2_with fail
  refine (S.out _ _ _ _ _ _ _ _ _  (itown_rd s0'.out)).mono ?_
  rintro e w3 ⟨aV, capV, rfl, hown, hb⟩
  have s_w3 := hb.size
  (try simp only [World.size_alloc] at s_w3)
  replace P0' := hid (P0'.out.below hb)
  replace s0' := hid (s0'.out.below' hb)
  replace B := hid (B.out.trans (hb.mono B.out.size))
  clear hb
  (try simp only [World.size_alloc] at hown)
  have V := hid hown
  have UV := hid (show ∀ k, Value.ownBlock (.slice aV zs.length capV) = some k → k < w3.heap.size from fun k hk => (hown.lt k hk).2)
  have LV := hid hown.lt
  clear hown
  clear s0'
  obtain ⟨c0_3, c1_3, c2_3, c3_3, c4_3, f0_3, f1_3, f2_3, f3_3, f4_3, z_3⟩ := five P0'.out
  go_wp2_with fail
  clear c0_3 c1_3 c2_3 c3_3 c4_3 f0_3 f1_3 f2_3 f3_3 f4_3 z_3
  refine (to_it n0 a0 l0 h0 p0 cap0 capl0 caph0 capp0 xss0 L0 H0 P0 w.heap.size _ (by omega) (r0.below B.out) B.out.size).mono ?_
  rintro e w4 ⟨ax0, vsx0, lx0, hx0, px0, mx0, rfl, hown, hb⟩
  have s_w4 := hb.size
  (try simp only [World.size_alloc] at s_w4)
  replace P0' := hid (P0'.out.below hb)
  replace V := hid (V.out.below' hb)
  replace B := hid (B.out.trans (hb.mono B.out.size))
  clear hb
  (try simp only [World.size_alloc] at hown)
  have x0' := hid hown
  have Ux0 := hid (itown_under hown)
  have hlx0 := hown.le
  have hmx0 := hown.le2
  clear hown
  go_wp2_with fail
  replace P0' := hid (P0'.out.alloc (.cells #[.int .i64 n0, .slice (some ⟨ax0, 0, none⟩) xss0.length xss0.length, .slice (some ⟨lx0, 0, none⟩) L0.length L0.length, .slice (some ⟨hx0, 0, none⟩) H0.length H0.length, .slice (some ⟨px0, 0, none⟩) P0.length P0.length] 29))
  replace V := hid (V.out.alloc (.cells #[.int .i64 n0, .slice (some ⟨ax0, 0, none⟩) xss0.length xss0.length, .slice (some ⟨lx0, 0, none⟩) L0.length L0.length, .slice (some ⟨hx0, 0, none⟩) H0.length H0.length, .slice (some ⟨px0, 0, none⟩) P0.length P0.length] 29))
  replace x0' := hid (x0'.out.alloc (.cells #[.int .i64 n0, .slice (some ⟨ax0, 0, none⟩) xss0.length xss0.length, .slice (some ⟨lx0, 0, none⟩) L0.length L0.length, .slice (some ⟨hx0, 0, none⟩) H0.length H0.length, .slice (some ⟨px0, 0, none⟩) P0.length P0.length] 29))
  replace B := hid (B.out.alloc B.out.size (.cells #[.int .i64 n0, .slice (some ⟨ax0, 0, none⟩) xss0.length xss0.length, .slice (some ⟨lx0, 0, none⟩) L0.length L0.length, .slice (some ⟨hx0, 0, none⟩) H0.length H0.length, .slice (some ⟨px0, 0, none⟩) P0.length P0.length] 29))
  have Q0' := hid (hasl_new w4 [.int .i64 n0, .slice (some ⟨ax0, 0, none⟩) xss0.length xss0.length, .slice (some ⟨lx0, 0, none⟩) L0.length L0.length, .slice (some ⟨hx0, 0, none⟩) H0.length H0.length, .slice (some ⟨px0, 0, none⟩) P0.length P0.length] 29)
  refine (I.out _ _ _ _ _ _ _ _ _  (itown_rd x0'.out)).mono ?_
  rintro e w5 ⟨aG, capG, rfl, hown, hb⟩
  have s_w5 := hb.size
  (try simp only [World.size_alloc] at s_w5)
  replace P0' := hid (P0'.out.below hb)
  replace V := hid (V.out.below' hb)
  replace x0' := hid (x0'.out.below' hb)
  replace Q0' := hid (Q0'.out.below hb)
  replace B := hid (B.out.trans (hb.mono B.out.size))
  clear hb
  (try simp only [World.size_alloc] at hown)
  have G := hid hown
  have UG := hid (show ∀ k, Value.ownBlock (.slice aG zs.length capG) = some k → k < w5.heap.size from fun k hk => (hown.lt k hk).2)
  have LG := hid hown.lt
  clear hown
  go_wp2_with fail
  refine (eq_ints _ _ _ _ zs _ _ _ hz (own_rd G.out) (own_rd V.out) (Nat.le_refl _) (Nat.le_refl _)).mono ?_
  rintro e w6 ⟨rfl, hb⟩
  have s_w6 := hb.size
  (try simp only [World.size_alloc] at s_w6)
  replace P0' := hid (P0'.out.below hb)
  replace V := hid (V.out.below' hb)
  replace x0' := hid (x0'.out.below' hb)
  replace Q0' := hid (Q0'.out.below hb)
  replace G := hid (G.out.below' hb)
  replace B := hid (B.out.trans (hb.mono B.out.size))
  clear hb
  have R0 := hid (r0.below B.out)
  have XR0 := hid (itown_rd x0'.out)
  obtain ⟨c0_4, c1_4, c2_4, c3_4, c4_4, f0_4, f1_4, f2_4, f3_4, f4_4, z_4⟩ := five Q0'.out
  obtain ⟨c0_5, c1_5, c2_5, c3_5, c4_5, f0_5, f1_5, f2_5, f3_5, f4_5, z_5⟩ := five P0'.out
  have hk0 := kp_refl w6
  go_upto_region 10 with fail
  go_cut [31] (fun s wx => s = .bool false ∧ Kp w6 0 wx)
  case first =>
    go_region_held3 (fun w' => w'.cell? ⟨w.heap.size, 0, none⟩ = some (.int .i64 n0) ∧ w'.cell? ⟨w.heap.size, 1, none⟩ = some (.slice a0 xss0.length cap0) ∧ w'.cell? ⟨w.heap.size, 2, none⟩ = some (.slice l0 L0.length capl0) ∧ w'.cell? ⟨w.heap.size, 3, none⟩ = some (.slice h0 H0.length caph0) ∧ w'.cell? ⟨w.heap.size, 4, none⟩ = some (.slice p0 P0.length capp0) ∧ w'.cell? ⟨w4.heap.size, 0, none⟩ = some (.int .i64 n0) ∧ w'.cell? ⟨w4.heap.size, 1, none⟩ = some (.slice (some ⟨ax0, 0, none⟩) xss0.length xss0.length) ∧ w'.cell? ⟨w4.heap.size, 2, none⟩ = some (.slice (some ⟨lx0, 0, none⟩) L0.length L0.length) ∧ w'.cell? ⟨w4.heap.size, 3, none⟩ = some (.slice (some ⟨hx0, 0, none⟩) H0.length H0.length) ∧ w'.cell? ⟨w4.heap.size, 4, none⟩ = some (.slice (some ⟨px0, 0, none⟩) P0.length P0.length) ∧ Kp w6 0 w')
      (first
        | (go_split_ands
           repeat' apply And.intro
           all_goals (first | (with_reducible assumption) | (with_reducible exact cell_drew (by assumption)) | (with_reducible exact Kp.drew (by assumption)) | (with_reducible exact Kp.cell (by assumption) hb1 (by omega) (by assumption)) | (with_reducible exact Kp.call (by assumption) hb1))))
      (first
        | (go_split_ands; go_at_call 44; (with_reducible refine (to_it n0 a0 l0 h0 p0 cap0 capl0 caph0 capp0 xss0 L0 H0 P0 w.heap.size _ (by omega) (R0.out.kp (by with_reducible assumption) (by omega)) (kp_le (by with_reducible assumption) (by omega))).mono ?_); rintro e wT ⟨aT, vsT, lT, hT, pT, mT, rfl, hownT, hb1⟩; have HT := hid hownT; clear hownT)
        | (go_split_ands; go_at_call 38; (with_reducible refine (eq_it n0 _ _ _ _ _ _ _ _ _ _ _ _ _ _ _ _ xss0 L0 H0 P0 w6.heap.size wT.heap.size _ (by omega) (XR0.out.kp (by with_reducible assumption) (Nat.le_refl _)) (by first | exact itown_rd HT.out | exact itown_rd HT.out.drew) (kp_le (by with_reducible assumption) (Nat.le_refl _)) (by first | exact Nat.le_refl _ | simp)).mono ?_); rintro e wU ⟨rfl, hb1⟩))
    all_goals
      go_wp2_with fail
      go_meet
      go_split_ands
      exact ⟨rfl, by with_reducible assumption⟩
  case rest =>
    obtain ⟨rfl, hk⟩ := hcut
    obtain ⟨w7, rfl⟩ : ∃ wo : World, wo = wc := ⟨_, rfl⟩
    clear hk0 R0 XR0
    clear c0_4 c1_4 c2_4 c3_4 c4_4 f0_4 f1_4 f2_4 f3_4 f4_4 z_4
    clear c0_5 c1_5 c2_5 c3_5 c4_5 f0_5 f1_5 f2_5 f3_5 f4_5 z_5
    have hb := hk.bel
    clear hk
    have s_w7 := hb.size
    (try simp only [World.size_alloc] at s_w7)
    replace P0' := hid (P0'.out.below hb)
    replace V := hid (V.out.below' hb)
    replace x0' := hid (x0'.out.below' hb)
    replace Q0' := hid (Q0'.out.below hb)
    replace G := hid (G.out.below' hb)
    replace B := hid (B.out.trans (hb.mono B.out.size))
    clear hb
    have hia := ints_le xss0
    obtain ⟨_, _, _, _, _, _, hia2, hia3⟩ := szI_parts (xss := xss0) (L := L0) (H := H0) (P := P0) (by omega)
    obtain ⟨c0_6, c1_6, c2_6, c3_6, c4_6, f0_6, f1_6, f2_6, f3_6, f4_6, z_6⟩ := five Q0'.out
    go_wp2_with fail
    refine (mark_it n0 (w3.heap.size) _ w4.heap.size _ _ _ _ _ 1 xss0 L0 H0 P0 _ (by omega) (by omega) (by omega) (x0'.out.mono (by omega)) Ux0.out (by omega) (by omega)).mono ?_
    rintro e w8 ⟨yx, rfl, _, _, ht⟩
    clear c0_6 c1_6 c2_6 c3_6 c4_6 f0_6 f1_6 f2_6 f3_6 f4_6 z_6
    clear x0'
    replace P0' := hid (hasl_turned P0'.out ht (by omega))
    replace V := hid (own_turned V.out ht (.inr (fun k hk => Nat.lt_of_lt_of_le (UV.out k hk) (by omega))))
    replace Q0' := hid (hasl_turned Q0'.out ht (by omega))
    replace G := hid (own_turned G.out ht (.inl (by omega)))
    replace B := hid (B.out.trans ((ht.below (by omega)).mono (by omega)))
    have s_t8 := ht.size
    clear ht
    have t_k : ¬ ((1 : Int) + (ints xss0 : Nat) + (L0.length : Nat) + (H0.length : Nat) + (P0.length : Nat) < 0) := by omega
    go_wp2_with fail
    refine (eq_ints _ _ _ _ zs _ _ _ hz (own_rd G.out) (own_rd V.out) (Nat.le_refl _) (Nat.le_refl _)).mono ?_
    rintro e w9 ⟨rfl, hb⟩
    have s_w9 := hb.size
    (try simp only [World.size_alloc] at s_w9)
    replace P0' := hid (P0'.out.below hb)
    replace V := hid (V.out.below' hb)
    replace Q0' := hid (Q0'.out.below hb)
    replace G := hid (G.out.below' hb)
    replace B := hid (B.out.trans (hb.mono B.out.size))
    clear hb
    clear Q0'
    have hneg : ¬ ((1 : Int) + (zs.length : Int) < 0) := by omega
    have hsame : (((1 : Int) + (zs.length : Int)) != ((1 : Int) + (zs.length : Int))) = false := by simp
    go_wp2_with fail
    refine (mark_own _ _ 1 zs _ hz (by omega) (by omega) G.out).mono ?_
    rintro e w10 ⟨rfl, hown, hgr⟩
    have ht := Turn.of_grown (lo := w4.heap.size) (hi := w5.heap.size) hgr (fun k hk => by have := LG.out k hk; (try simp only [World.size_alloc] at this); omega)
    clear hgr G
    replace P0' := hid (hasl_turned P0'.out ht (by omega))
    replace V := hid (own_turned V.out ht (.inr (fun k hk => Nat.lt_of_lt_of_le (UV.out k hk) (by omega))))
    replace B := hid (B.out.trans ((ht.below (by omega)).mono (by omega)))
    have s_t10 := ht.size
    clear ht
    have G := hid hown
    clear hown
    have hml := marks_length 1 zs.length
    go_wp2_with fail
    refine (held_ints _ _ 1 zs.length _ _ hz (by omega) (by omega) (own_rd' G.out hml)).mono ?_
    rintro e w' ⟨rfl, rfl⟩
    obtain ⟨c0_7, c1_7, c2_7, c3_7, c4_7, f0_7, f1_7, f2_7, f3_7, f4_7, z_7⟩ := five P0'.out
    go_wp2_with fail
    refine (to_it n0 a0 l0 h0 p0 cap0 capl0 caph0 capp0 xss0 L0 H0 P0 w.heap.size _ (by omega) (r0.below B.out) B.out.size).mono ?_
    rintro e w11 ⟨ah0, vsh0, lh0, hh0, ph0, mh0, rfl, hown, hb⟩
    clear c0_7 c1_7 c2_7 c3_7 c4_7 f0_7 f1_7 f2_7 f3_7 f4_7 z_7
    have s_w11 := hb.size
    (try simp only [World.size_alloc] at s_w11)
    replace P0' := hid (P0'.out.below hb)
    replace V := hid (V.out.below' hb)
    replace G := hid (G.out.below' hb)
    replace B := hid (B.out.trans (hb.mono B.out.size))
    clear hb
    (try simp only [World.size_alloc] at hown)
    have h0' := hid hown
    have Uh0 := hid (itown_under hown)
    have hlh0 := hown.le
    have hmh0 := hown.le2
    clear hown
    go_wp2_with fail
    refine (I.out _ _ _ _ _ _ _ _ _  (itown_rd h0'.out)).mono ?_
    rintro e w12 ⟨aH, capH, rfl, hown, hb⟩
    have s_w12 := hb.size
    (try simp only [World.size_alloc] at s_w12)
    replace P0' := hid (P0'.out.below hb)
    replace V := hid (V.out.below' hb)
    replace G := hid (G.out.below' hb)
    replace h0' := hid (h0'.out.below' hb)
    replace B := hid (B.out.trans (hb.mono B.out.size))
    clear hb
    (try simp only [World.size_alloc] at hown)
    have H := hid hown
    have UH := hid (show ∀ k, Value.ownBlock (.slice aH zs.length capH) = some k → k < w12.heap.size from fun k hk => (hown.lt k hk).2)
    have LH := hid hown.lt
    clear hown
    clear h0'
    go_wp2_with fail
    refine (eq_ints _ _ _ _ zs _ _ _ hz (own_rd H.out) (own_rd V.out) (Nat.le_refl _) (Nat.le_refl _)).mono ?_
    rintro e w13 ⟨rfl, hb⟩
    have s_w13 := hb.size
    (try simp only [World.size_alloc] at s_w13)
    replace P0' := hid (P0'.out.below hb)
    replace V := hid (V.out.below' hb)
    replace G := hid (G.out.below' hb)
    replace H := hid (H.out.below' hb)
    replace B := hid (B.out.trans (hb.mono B.out.size))
    clear hb
    go_wp2_with fail
    refine (held_ints _ _ 1 zs.length _ _ hz (by omega) (by omega) (own_rd' G.out hml)).mono ?_
    rintro e w' ⟨rfl, rfl⟩
    go_wp2_with fail
    go_ret
    exact ⟨rfl, B.out⟩

set_option maxRecDepth 100000 in
theorem walk (n0 : Int) (a0 l0 h0 p0 : Option Addr) (cap0 capl0 caph0 capp0 : Nat) (xss0 : List (List Int)) (L0 H0 P0 : List Int) (w : World) (k0 : xss0.length ≤ 9223372036854775807 ∧ (∀ j (h : j < xss0.length), xss0[j].length ≤ 9223372036854775807) ∧ L0.length ≤ 9223372036854775807 ∧ H0.length ≤ 9223372036854775807 ∧ P0.length ≤ 9223372036854775807) (r0 : ItRd w w.heap.size a0 l0 h0 p0 cap0 capl0 caph0 capp0 xss0 L0 H0 P0) (SI : szI xss0 L0 H0 P0 ≤ 1048576 → ∃ (zs : List Int), zs.length ≤ 1048576 ∧ (∀ (W : World) (aw0 lw0 hw0 pw0 : Option Addr) (capw0 caplw0 caphw0 cappw0 : Nat), ItRd W W.heap.size aw0 lw0 hw0 pw0 capw0 caplw0 caphw0 cappw0 xss0 L0 H0 P0 → Calls Try.prog 24 #[.agg #[.int .i64 n0, .slice aw0 xss0.length capw0, .slice lw0 L0.length caplw0, .slice hw0 H0.length caphw0, .slice pw0 P0.length cappw0]] W fun e w' => ∃ a cap, e = .returned (.slice a zs.length cap) ∧ Own w' W.heap.size eI (.slice a zs.length cap) zs ∧ Below W.heap.size W w') ∧ (∀ (W : World) (aw0 lw0 hw0 pw0 : Option Addr) (capw0 caplw0 caphw0 cappw0 : Nat), ItRd W W.heap.size aw0 lw0 hw0 pw0 capw0 caplw0 caphw0 cappw0 xss0 L0 H0 P0 → Calls Try.prog 30 #[.agg #[.int .i64 n0, .slice aw0 xss0.length capw0, .slice lw0 L0.length caplw0, .slice hw0 H0.length caphw0, .slice pw0 P0.length cappw0]] W fun e w' => ∃ a cap, e = .returned (.slice a zs.length cap) ∧ Own w' W.heap.size eI (.slice a zs.length cap) zs ∧ Below W.heap.size W w')) :
    Calls Try.prog 13 #[.agg #[.int .i64 n0, .slice a0 xss0.length cap0, .slice l0 L0.length capl0, .slice h0 H0.length caph0, .slice p0 P0.length capp0]] w fun e w' => e = .returned (.bool true) ∧ Below w.heap.size w w' := by
  by_cases ht0 : 1048576 < szI xss0 L0 H0 P0
  · clear SI
    have P0' := hid (hasl_new w [.int .i64 n0, .slice a0 xss0.length cap0, .slice l0 L0.length capl0, .slice h0 H0.length caph0, .slice p0 P0.length capp0] 52)
    have B := hid ((Below.refl w.heap.size w).alloc (by simp) (.cells #[.int .i64 n0, .slice a0 xss0.length cap0, .slice l0 L0.length capl0, .slice h0 H0.length caph0, .slice p0 P0.length capp0] 52))
    go_enter Try.func13, Try.ntmps13
    obtain ⟨c0_8, c1_8, c2_8, c3_8, c4_8, f0_8, f1_8, f2_8, f3_8, f4_8, z_8⟩ := five P0'.out
    go_wp2_with fail
    refine (sz_it n0 a0 l0 h0 p0 cap0 capl0 caph0 capp0 xss0 L0 H0 P0 w.heap.size (1048576) (-1) _ (by omega) (by omega) k0.1 k0.2.1 k0.2.2.1 k0.2.2.2.1 k0.2.2.2.2 (r0.t.below B.out) B.out.size (hid (.inl ⟨by omega, rfl⟩))).mono ?_
    rintro e w1 ⟨rfl, hb⟩
    clear c0_8 c1_8 c2_8 c3_8 c4_8 f0_8 f1_8 f2_8 f3_8 f4_8 z_8
    have s_w1 := hb.size
    (try simp only [World.size_alloc] at s_w1)
    replace P0' := hid (P0'.out.below hb)
    replace B := hid (B.out.trans (hb.mono B.out.size))
    clear hb
    go_wp2
    go_ret
    exact ⟨rfl, B.out⟩
  · obtain ⟨zs, hz, S, I⟩ := SI (by omega)
    exact core n0 a0 l0 h0 p0 cap0 capl0 caph0 capp0 xss0 L0 H0 P0 zs w (by omega) hz r0 (hid S) (hid I)
end Go.Proofs.Ytliomgoakiidfaa.IteratorPathC
