/- The walk of law FnExactTranspose, at every argument, out of the contracts of the model's function and the program's. -/
import Derived.Test.YthghggnlfnbbgaaRatsSS
namespace Go.Proofs.Ythghggnlfnbbgaa.TransposeC
open Go.RowKit
open Go.Proofs.Ythghggnlfnbbgaa.Num Go.Proofs.Ythghggnlfnbbgaa.IntRow Go.Proofs.Ythghggnlfnbbgaa.Grid Go.Proofs.Ythghggnlfnbbgaa.GridMore Go.Proofs.Ythghggnlfnbbgaa.Rdr Go.Proofs.Ythghggnlfnbbgaa.HasL Go.Proofs.Ythghggnlfnbbgaa.LawKit Go.Proofs.Ythghggnlfnbbgaa.RatLaw Go.Proofs.Ythghggnlfnbbgaa.Rats Go.Proofs.Ythghggnlfnbbgaa.RatRow Go.Proofs.Ythghggnlfnbbgaa.RatOwn Go.Proofs.Ythghggnlfnbbgaa.GridQ Go.Proofs.Ythghggnlfnbbgaa.Keep Go.Proofs.Ythghggnlfnbbgaa.Kept Go.Proofs.Ythghggnlfnbbgaa.Thaw Go.Proofs.Ythghggnlfnbbgaa.RatsF Go.Proofs.Ythghggnlfnbbgaa.RatsSS
set_option linter.unusedVariables false

set_option maxRecDepth 100000 in
set_option maxHeartbeats 4000000 in
theorem core (a0 : Option Addr) (cap0 : Nat) (x0 : MatD) (zss : MatD) (ok : Bool) (w : World) (ht : szM x0 ≤ 1048576) (hz1 : zss.length ≤ 1048576) (hz2 : wM zss ≤ 1048576) (r0 : Els 1 rRow2 w 0 w.heap.size a0 x0)
    (S : RowKit.Hid (∀ (W : World) (b0 : Option Addr) (bap0 : Nat), Els 1 rRow2 W 0 W.heap.size b0 x0 → x0.length ≤ bap0 → Calls Try.prog 29 #[.slice b0 x0.length bap0] W fun e w' => ∃ a cap vs, e = .returned (.tuple #[.slice a zss.length cap, .bool ok]) ∧ GOwnQ w' W.heap.size tQ tR (.slice a zss.length cap) vs zss ∧ Below W.heap.size W w'))
    (I : RowKit.Hid (∀ (W : World) (b0 : Option Addr) (bap0 : Nat), Els 1 rRow2 W 0 W.heap.size b0 x0 → x0.length ≤ bap0 → Calls Try.prog 30 #[.slice b0 x0.length bap0] W fun e w' => ∃ a cap vs, e = .returned (.tuple #[.slice a zss.length cap, .bool ok]) ∧ GOwnQ w' W.heap.size tQ tR (.slice a zss.length cap) vs zss ∧ Below W.heap.size W w')) :
    Calls Try.prog 5 #[.slice a0 x0.length cap0] w fun e w' => e = .returned (.bool true) ∧ Below w.heap.size w w' := by
  have hneO : (ok != ok) = false := by simp
  have hl0 : x0.length ≤ 1048576 := by have h := tots_len List.length x0; have h2 : szM x0 ≤ 1048576 := (by omega); unfold szM at h2; omega
  have hr0 := hid (fun j (hj : j < x0.length) => show x0[j].length ≤ 1048576 by have h := elem_le List.length x0 j hj; have h2 : szM x0 ≤ 1048576 := (by omega); unfold szM at h2; omega)
  have hw0 : wM x0 ≤ 1048576 := by have h2 : szM x0 ≤ 1048576 := (by omega); unfold szM tots at h2; unfold wM; omega
  have hrz := hid (fun j (hj : j < zss.length) => show zss[j].length ≤ 1048576 by have h := elem_le List.length zss j hj; unfold tots at h; unfold wM at hz2; omega)
  have B := hid (Below.refl w.heap.size w)
  have A0 := hid (fun W (h : Below w.heap.size w W) => (r0.keep good_row2 (sm_below h (Nat.le_refl _))).up good_row2 (Nat.le_refl _) h.size)
  have t_sz0 : ¬ ((1048576 - (szM x0 : Nat) : Int) < 0) := by omega
  go_enter Try.func5, Try.ntmps5
  go_wp2_with fail
  with_reducible refine (sz_ratss _ _ x0 0 _ (1048576) (1048576 - (szM x0 : Nat)) _ (by omega) (by omega) (by omega) r0 (hid (.inr ⟨by omega, by omega⟩))).mono ?_
  rintro e w' ⟨rfl, rfl⟩
  go_wp2_with fail
  with_reducible refine (to_ratssF _ _ x0 0 _ _ (by omega) (A0.out _ B.out) (Nat.le_refl _)).mono ?_
  rintro e w1 ⟨vsEs0, rfl, hd, hbf, hlt⟩
  have hb := hbf.toBelow
  have s1 := hb.size
  replace B := hid (B.out.trans (hb.mono B.out.size))
  have Es0 := hid (hd.rd.2.up good_row2 (Nat.zero_le _) (Nat.le_refl _))
  clear hd hbf hb
  go_wp2_with fail
  with_reducible refine (S.out _ _ _ (by first | exact Es0.out | exact Es0.out.up good_row2 (Nat.zero_le _) (by omega)) (Nat.le_refl _)).mono ?_
  rintro e w2 ⟨aV, capV, vsV, rfl, hown, hb⟩
  have s2 := hb.size
  replace Es0 := hid (Es0.out.keep good_row2 (sm_below hb (by omega)))
  replace B := hid (B.out.trans (hb.mono B.out.size))
  have V := hid hown
  have UV := hid (gownq_under hown)
  clear hown hb
  clear Es0
  go_wp2_with fail
  with_reducible refine (to_ratssF _ _ x0 0 _ _ (by omega) (A0.out _ B.out) (Nat.le_refl _)).mono ?_
  rintro e w3 ⟨vsEX0, rfl, hd, hbf, hlt⟩
  have hb := hbf.toBelow
  have s3 := hb.size
  replace V := hid (V.out.below' hb)
  replace B := hid (B.out.trans (hb.mono B.out.size))
  have EX0 := hid (hd.rd.2.up good_row2 (Nat.zero_le _) (Nat.le_refl _))
  have X0 := hid hd.rd.2
  have T0 := hid (hbf.thw w3.heap.size)
  clear hd hbf hb
  go_wp2_with fail
  with_reducible refine (I.out _ _ _ (by first | exact EX0.out | exact EX0.out.up good_row2 (Nat.zero_le _) (by omega)) (Nat.le_refl _)).mono ?_
  rintro e w4 ⟨aG, capG, vsG, rfl, hown, hb⟩
  have s4 := hb.size
  replace V := hid (V.out.below' hb)
  replace EX0 := hid (EX0.out.keep good_row2 (sm_below hb (by omega)))
  replace X0 := hid (X0.out.keep good_row2 (sm_below hb (by omega)))
  replace T0 := hid (T0.out.below hb (by omega))
  replace B := hid (B.out.trans (hb.mono B.out.size))
  have G := hid hown
  have UG := hid (gownq_under hown)
  clear hown hb
  go_wp2_with fail
  with_reducible refine (eq_ratss _ _ _ _ zss _ _ _ _ _ hz1 hrz (G.out.rd.2) (V.out.rd.2) (Nat.le_refl _) (Nat.le_refl _)).mono ?_
  rintro e w5 ⟨rfl, hb⟩
  have s5 := hb.size
  replace V := hid (V.out.below' hb)
  replace EX0 := hid (EX0.out.keep good_row2 (sm_below hb (by omega)))
  replace X0 := hid (X0.out.keep good_row2 (sm_below hb (by omega)))
  replace T0 := hid (T0.out.below hb (by omega))
  replace G := hid (G.out.below' hb)
  replace B := hid (B.out.trans (hb.mono B.out.size))
  clear hb
  go_wp2_with fail
  with_reducible refine (to_ratssF _ _ x0 0 _ _ (by omega) (A0.out _ B.out) (Nat.le_refl _)).mono ?_
  rintro e w6 ⟨vsEe, rfl, hd, hbf, hlt⟩
  have hb := hbf.toBelow
  have s6 := hb.size
  replace V := hid (V.out.below' hb)
  replace EX0 := hid (EX0.out.keep good_row2 (sm_below hb (by omega)))
  replace X0 := hid (X0.out.keep good_row2 (sm_below hb (by omega)))
  replace T0 := hid (T0.out.below hb (by omega))
  replace G := hid (G.out.below' hb)
  replace B := hid (B.out.trans (hb.mono B.out.size))
  have Ee := hid (hd.rd.2.up good_row2 (Nat.zero_le _) (Nat.le_refl _))
  clear hd hbf hb
  go_wp2_with fail
  with_reducible refine (eq_ratss _ _ _ _ x0 _ _ _ _ _ hl0 hr0 X0.out Ee.out (by omega) (Nat.le_refl _)).mono ?_
  rintro e w7 ⟨rfl, hb⟩
  have s7 := hb.size
  replace V := hid (V.out.below' hb)
  replace EX0 := hid (EX0.out.keep good_row2 (sm_below hb (by omega)))
  replace X0 := hid (X0.out.keep good_row2 (sm_below hb (by omega)))
  replace T0 := hid (T0.out.below hb (by omega))
  replace G := hid (G.out.below' hb)
  replace Ee := hid (Ee.out.keep good_row2 (sm_below hb (by omega)))
  replace B := hid (B.out.trans (hb.mono B.out.size))
  clear hb
  clear Ee
  clear EX0
  go_wp2_with fail
  with_reducible refine (mark_ratssA _ _ _ _ (1) x0 _ (by omega) (by omega) (by omega) (mat0 X0.out) T0.out).mono ?_
  rintro e w8 ⟨rfl, hkt⟩
  have ht0 : Turn w2.heap.size w3.heap.size _ w8 := hkt.toTurn
  clear hkt
  clear X0
  clear T0
  have s8 := ht0.size
  replace V := hid (gownq_turned V.out ht0 (.inr (UV.out.mono (by omega))))
  replace G := hid (gownq_turned G.out ht0 (.inl (by omega)))
  replace B := hid (B.out.trans ((ht0.below (by omega)).mono (by omega)))
  clear ht0
  have t_k : ¬ ((1 + 2 * (wM x0 : Nat) : Int) < 0) := by omega
  go_wp2_with fail
  with_reducible refine (eq_ratss _ _ _ _ zss _ _ _ _ _ hz1 hrz (G.out.rd.2) (V.out.rd.2) (Nat.le_refl _) (Nat.le_refl _)).mono ?_
  rintro e w9 ⟨rfl, hb⟩
  have s9 := hb.size
  replace V := hid (V.out.below' hb)
  replace G := hid (G.out.below' hb)
  replace B := hid (B.out.trans (hb.mono B.out.size))
  clear hb
  have hneg : ¬ ((1 : Int) + 2 * (wM zss : Nat) < 0) := by omega
  have hsame : (((1 : Int) + 2 * (wM zss : Nat)) != ((1 : Int) + 2 * (wM zss : Nat))) = false := by simp
  go_wp2_with fail
  with_reducible refine (mark_ssQ _ w4.heap.size _ _ 1 zss _ hz1 hz2 (by omega) (by omega) G.out UG.out).mono ?_
  rintro e w10 ⟨yss, rfl, hown, hm, ht0⟩
  have HM := hid hm
  have hml := hid hm.1
  clear G
  have s10 := ht0.size
  replace V := hid (gownq_turned V.out ht0 (.inr (UV.out.mono (by omega))))
  replace B := hid (B.out.trans ((ht0.below (by omega)).mono (by omega)))
  have G := hid hown
  clear ht0 hown hm
  go_wp2_with fail
  with_reducible refine (held_ssQ _ _ _ _ 1 zss yss _ hz1 hz2 (by omega) (by omega) HM.out (G.out.rd.2)).mono ?_
  rintro e w' ⟨rfl, rfl⟩
  go_wp2_with fail
  with_reducible refine (to_ratssF _ _ x0 0 _ _ (by omega) (A0.out _ B.out) (Nat.le_refl _)).mono ?_
  rintro e w11 ⟨vsEh0, rfl, hd, hbf, hlt⟩
  have hb := hbf.toBelow
  have s11 := hb.size
  replace V := hid (V.out.below' hb)
  replace G := hid (G.out.below' hb)
  replace B := hid (B.out.trans (hb.mono B.out.size))
  have Eh0 := hid (hd.rd.2.up good_row2 (Nat.zero_le _) (Nat.le_refl _))
  clear hd hbf hb
  go_wp2_with fail
  with_reducible refine (I.out _ _ _ (by first | exact Eh0.out | exact Eh0.out.up good_row2 (Nat.zero_le _) (by omega)) (Nat.le_refl _)).mono ?_
  rintro e w12 ⟨aH, capH, vsH, rfl, hown, hb⟩
  have s12 := hb.size
  replace V := hid (V.out.below' hb)
  replace G := hid (G.out.below' hb)
  replace Eh0 := hid (Eh0.out.keep good_row2 (sm_below hb (by omega)))
  replace B := hid (B.out.trans (hb.mono B.out.size))
  have H := hid hown
  have UH := hid (gownq_under hown)
  clear hown hb
  clear Eh0
  go_wp2_with fail
  with_reducible refine (eq_ratss _ _ _ _ zss _ _ _ _ _ hz1 hrz (H.out.rd.2) (V.out.rd.2) (Nat.le_refl _) (Nat.le_refl _)).mono ?_
  rintro e w13 ⟨rfl, hb⟩
  have s13 := hb.size
  replace V := hid (V.out.below' hb)
  replace G := hid (G.out.below' hb)
  replace H := hid (H.out.below' hb)
  replace B := hid (B.out.trans (hb.mono B.out.size))
  clear hb
  go_wp2_with fail
  with_reducible refine (held_ssQ _ _ _ _ 1 zss yss _ hz1 hz2 (by omega) (by omega) HM.out (G.out.rd.2)).mono ?_
  rintro e w' ⟨rfl, rfl⟩
  go_wp2_with fail
  go_ret
  exact ⟨rfl, B.out⟩

set_option maxRecDepth 100000 in
theorem walk (a0 : Option Addr) (cap0 : Nat) (x0 : MatD) (hn0 : x0.length ≤ 9223372036854775807) (w : World) (r0 : Els 1 rRow2 w 0 w.heap.size a0 x0) (SI : szM x0 ≤ 1048576 → ∃ (zss : MatD) (ok : Bool), (zss.length ≤ 1048576 ∧ wM zss ≤ 1048576) ∧ (∀ (W : World) (b0 : Option Addr) (bap0 : Nat), Els 1 rRow2 W 0 W.heap.size b0 x0 → x0.length ≤ bap0 → Calls Try.prog 29 #[.slice b0 x0.length bap0] W fun e w' => ∃ a cap vs, e = .returned (.tuple #[.slice a zss.length cap, .bool ok]) ∧ GOwnQ w' W.heap.size tQ tR (.slice a zss.length cap) vs zss ∧ Below W.heap.size W w') ∧ (∀ (W : World) (b0 : Option Addr) (bap0 : Nat), Els 1 rRow2 W 0 W.heap.size b0 x0 → x0.length ≤ bap0 → Calls Try.prog 30 #[.slice b0 x0.length bap0] W fun e w' => ∃ a cap vs, e = .returned (.tuple #[.slice a zss.length cap, .bool ok]) ∧ GOwnQ w' W.heap.size tQ tR (.slice a zss.length cap) vs zss ∧ Below W.heap.size W w')) :
    Calls Try.prog 5 #[.slice a0 x0.length cap0] w fun e w' => e = .returned (.bool true) ∧ Below w.heap.size w w' := by
  by_cases ht0 : 1048576 < szM x0
  · clear SI
    go_enter Try.func5, Try.ntmps5
    go_wp2_with fail
    with_reducible refine (sz_ratss _ _ x0 0 _ (1048576) (-1) _ (by omega) (by omega) (by omega) r0 (hid (.inl ⟨by omega, rfl⟩))).mono ?_
    rintro e w' ⟨rfl, rfl⟩
    go_wp2
    go_ret
    exact ⟨rfl, Below.refl _ _⟩
  · obtain ⟨zss, ok, hz, S, I⟩ := SI (by omega)
    exact core a0 cap0 x0 zss ok w (by omega) hz.1 hz.2 r0 (hid S) (hid I)
end Go.Proofs.Ythghggnlfnbbgaa.TransposeC
