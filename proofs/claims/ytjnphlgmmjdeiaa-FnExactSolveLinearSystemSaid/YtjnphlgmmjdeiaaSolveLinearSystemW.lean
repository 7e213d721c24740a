/- Law FnExactSolveLinearSystem at every argument. -/
import Derived.Test.YtjnphlgmmjdeiaaRatsSS
import Derived.Test.YtjnphlgmmjdeiaaSolW
namespace Go.Proofs.Ytjnphlgmmjdeiaa.SolveLinearSystemC
open Go.RowKit
open Go.Proofs.Ytjnphlgmmjdeiaa.Num Go.Proofs.Ytjnphlgmmjdeiaa.IntRow Go.Proofs.Ytjnphlgmmjdeiaa.Grid Go.Proofs.Ytjnphlgmmjdeiaa.GridMore Go.Proofs.Ytjnphlgmmjdeiaa.Rdr Go.Proofs.Ytjnphlgmmjdeiaa.HasL Go.Proofs.Ytjnphlgmmjdeiaa.LawKit Go.Proofs.Ytjnphlgmmjdeiaa.RatLaw Go.Proofs.Ytjnphlgmmjdeiaa.Rats Go.Proofs.Ytjnphlgmmjdeiaa.RatRow Go.Proofs.Ytjnphlgmmjdeiaa.RatOwn Go.Proofs.Ytjnphlgmmjdeiaa.GridQ Go.Proofs.Ytjnphlgmmjdeiaa.Keep Go.Proofs.Ytjnphlgmmjdeiaa.Kept Go.Proofs.Ytjnphlgmmjdeiaa.Thaw Go.Proofs.Ytjnphlgmmjdeiaa.RatsF Go.Proofs.Ytjnphlgmmjdeiaa.RatsSS
set_option linter.unusedVariables false

set_option maxRecDepth 100000 in
set_option maxHeartbeats 4000000 in
theorem core (a0 : Option Addr) (cap0 : Nat) (x0 : MatD) (a1 : Option Addr) (cap1 : Nat) (x1 : List RatD) (zs : List RatD) (ok : Bool) (w : World) (ht : szM x0 + x1.length ≤ 1048576) (hz : zs.length ≤ 1048576) (r0 : Els 1 rRow2 w 0 w.heap.size a0 x0) (r1 : Els 2 rRat w 0 w.heap.size a1 x1)
    (S : RowKit.Hid (∀ (W : World) (b0 : Option Addr) (bap0 : Nat) (b1 : Option Addr) (bap1 : Nat), Els 1 rRow2 W 0 W.heap.size b0 x0 → x0.length ≤ bap0 → Els 2 rRat W 0 W.heap.size b1 x1 → x1.length ≤ bap1 → Calls Try.prog 17 #[.slice b0 x0.length bap0, .slice b1 x1.length bap1] W fun e w' => ∃ a cap, e = .returned (.tuple #[.slice a zs.length cap, .bool ok]) ∧ OwnQ w' W.heap.size tR (.slice a zs.length cap) zs ∧ Below W.heap.size W w'))
    (I : RowKit.Hid (∀ (W : World) (b0 : Option Addr) (bap0 : Nat) (b1 : Option Addr) (bap1 : Nat), Els 1 rRow2 W 0 W.heap.size b0 x0 → x0.length ≤ bap0 → Els 2 rRat W 0 W.heap.size b1 x1 → x1.length ≤ bap1 → Calls Try.prog 16 #[.slice b0 x0.length bap0, .slice b1 x1.length bap1] W fun e w' => ∃ a cap, e = .returned (.tuple #[.slice a zs.length cap, .bool ok]) ∧ OwnQ w' W.heap.size tR (.slice a zs.length cap) zs ∧ Below W.heap.size W w')) :
    Calls Try.prog 6 #[.slice a0 x0.length cap0, .slice a1 x1.length cap1] w fun e w' => e = .returned (.bool true) ∧ Below w.heap.size w w' := by
  have hneO : (ok != ok) = false := by simp
  have hl0 : x0.length ≤ 1048576 := by have h := tots_len List.length x0; have h2 : szM x0 ≤ 1048576 := (by omega); unfold szM at h2; omega
  have hr0 := hid (fun j (hj : j < x0.length) => show x0[j].length ≤ 1048576 by have h := elem_le List.length x0 j hj; have h2 : szM x0 ≤ 1048576 := (by omega); unfold szM at h2; omega)
  have hw0 : wM x0 ≤ 1048576 := by have h2 : szM x0 ≤ 1048576 := (by omega); unfold szM tots at h2; unfold wM; omega
  have hl1 : x1.length ≤ 1048576 := by omega
  have B := hid (Below.refl w.heap.size w)
  have A0 := hid (fun W (h : Below w.heap.size w W) => (r0.keep good_row2 (sm_below h (Nat.le_refl _))).up good_row2 (Nat.le_refl _) h.size)
  have A1 := hid (fun W (h : Below w.heap.size w W) => (r1.keep good_rat (sm_below h (Nat.le_refl _))).up good_rat (Nat.le_refl _) h.size)
  have t_sz0 : ¬ ((1048576 - (szM x0 : Nat) : Int) < 0) := by omega
  have t_sz1 : ¬ ((1048576 - (szM x0 : Nat) - (x1.length : Nat) : Int) < 0) := by omega
  go_enter Try.func6, Try.ntmps6
  go_wp2_with fail
  with_reducible refine (sz_ratss _ _ x0 0 _ (1048576) (1048576 - (szM x0 : Nat)) _ (by omega) (by omega) (by omega) r0 (hid (.inr ⟨by omega, by omega⟩))).mono ?_
  rintro e w' ⟨rfl, rfl⟩
  go_wp2_with fail
  with_reducible refine (sz_rats _ _ x1.length (1048576 - (szM x0 : Nat)) (1048576 - (szM x0 : Nat) - (x1.length : Nat)) _ (by omega) (by omega) (by omega) (hid (.inr ⟨by omega, by omega⟩))).mono ?_
  rintro e w' ⟨rfl, rfl⟩
  go_wp2_with fail
  with_reducible refine (to_ratssF _ _ x0 0 _ _ (by omega) (A0.out _ B.out) (Nat.le_refl _)).mono ?_
  rintro e w1 ⟨vsEs0, rfl, hd, hbf, hlt⟩
  have hb := hbf.toBelow
  have s1 := hb.size
  replace B := hid (B.out.trans (hb.mono B.out.size))
  have Es0 := hid (hd.rd.2.up good_row2 (Nat.zero_le _) (Nat.le_refl _))
  clear hd hbf hb
  go_wp2_with fail
  with_reducible refine (to_ratsF _ _ x1 0 _ _ (by omega) (A1.out _ B.out) (Nat.le_refl _)).mono ?_
  rintro e w2 ⟨rfl, hd, hbf, hlt⟩
  have hb := hbf.toBelow
  have s2 := hb.size
  replace Es0 := hid (Es0.out.keep good_row2 (sm_below hb (by omega)))
  replace B := hid (B.out.trans (hb.mono B.out.size))
  have Es1 := hid ((ownq_rd hd).2.up good_rat (Nat.zero_le _) (Nat.le_refl _))
  clear hd hbf hb
  go_wp2_with fail
  with_reducible refine (S.out _ _ _ _ _ (by first | exact Es0.out | exact Es0.out.up good_row2 (Nat.zero_le _) (by omega)) (Nat.le_refl _) (by first | exact Es1.out | exact Es1.out.up good_rat (Nat.zero_le _) (by omega)) (Nat.le_refl _)).mono ?_
  rintro e w3 ⟨aV, capV, rfl, hown, hb⟩
  have s3 := hb.size
  replace Es0 := hid (Es0.out.keep good_row2 (sm_below hb (by omega)))
  replace Es1 := hid (Es1.out.keep good_rat (sm_below hb (by omega)))
  replace B := hid (B.out.trans (hb.mono B.out.size))
  have V := hid hown
  have UV := hid (fun k hk => (hown.lt k hk).2)
  have LV := hid (fun k hk => (hown.lt k hk).1)
  clear hown hb
  clear Es0
  clear Es1
  go_wp2_with fail
  with_reducible refine (to_ratssF _ _ x0 0 _ _ (by omega) (A0.out _ B.out) (Nat.le_refl _)).mono ?_
  rintro e w4 ⟨vsEX0, rfl, hd, hbf, hlt⟩
  have hb := hbf.toBelow
  have s4 := hb.size
  replace V := hid (V.out.below' hb)
  replace B := hid (B.out.trans (hb.mono B.out.size))
  have EX0 := hid (hd.rd.2.up good_row2 (Nat.zero_le _) (Nat.le_refl _))
  have X0 := hid hd.rd.2
  have T0 := hid (hbf.thw w4.heap.size)
  clear hd hbf hb
  go_wp2_with fail
  with_reducible refine (to_ratsF _ _ x1 0 _ _ (by omega) (A1.out _ B.out) (Nat.le_refl _)).mono ?_
  rintro e w5 ⟨rfl, hd, hbf, hlt⟩
  have hb := hbf.toBelow
  have s5 := hb.size
  replace V := hid (V.out.below' hb)
  replace EX0 := hid (EX0.out.keep good_row2 (sm_below hb (by omega)))
  replace X0 := hid (X0.out.keep good_row2 (sm_below hb (by omega)))
  replace T0 := hid (T0.out.below hb (by omega))
  replace B := hid (B.out.trans (hb.mono B.out.size))
  have EX1 := hid ((ownq_rd hd).2.up good_rat (Nat.zero_le _) (Nat.le_refl _))
  have X1 := hid (ownq_rd hd).2
  have T1 := hid (hbf.thw w5.heap.size)
  clear hd hbf hb
  go_wp2_with fail
  with_reducible refine (I.out _ _ _ _ _ (by first | exact EX0.out | exact EX0.out.up good_row2 (Nat.zero_le _) (by omega)) (Nat.le_refl _) (by first | exact EX1.out | exact EX1.out.up good_rat (Nat.zero_le _) (by omega)) (Nat.le_refl _)).mono ?_
  rintro e w6 ⟨aG, capG, rfl, hown, hb⟩
  have s6 := hb.size
  replace V := hid (V.out.below' hb)
  replace EX0 := hid (EX0.out.keep good_row2 (sm_below hb (by omega)))
  replace X0 := hid (X0.out.keep good_row2 (sm_below hb (by omega)))
  replace T0 := hid (T0.out.below hb (by omega))
  replace EX1 := hid (EX1.out.keep good_rat (sm_below hb (by omega)))
  replace X1 := hid (X1.out.keep good_rat (sm_below hb (by omega)))
  replace T1 := hid (T1.out.below hb (by omega))
  replace B := hid (B.out.trans (hb.mono B.out.size))
  have G := hid hown
  have UG := hid (fun k hk => (hown.lt k hk).2)
  have LG := hid (fun k hk => (hown.lt k hk).1)
  clear hown hb
  go_wp2_with fail
  with_reducible refine (eq_rats _ _ _ _ zs _ _ _ _ _ hz ((ownq_rd G.out).2) ((ownq_rd V.out).2) (Nat.le_refl _) (Nat.le_refl _)).mono ?_
  rintro e w7 ⟨rfl, hb⟩
  have s7 := hb.size
  replace V := hid (V.out.below' hb)
  replace EX0 := hid (EX0.out.keep good_row2 (sm_below hb (by omega)))
  replace X0 := hid (X0.out.keep good_row2 (sm_below hb (by omega)))
  replace T0 := hid (T0.out.below hb (by omega))
  replace EX1 := hid (EX1.out.keep good_rat (sm_below hb (by omega)))
  replace X1 := hid (X1.out.keep good_rat (sm_below hb (by omega)))
  replace T1 := hid (T1.out.below hb (by omega))
  replace G := hid (G.out.below' hb)
  replace B := hid (B.out.trans (hb.mono B.out.size))
  clear hb
  go_wp2_with fail
  with_reducible refine (to_ratssF _ _ x0 0 _ _ (by omega) (A0.out _ B.out) (Nat.le_refl _)).mono ?_
  rintro e w8 ⟨vsEe, rfl, hd, hbf, hlt⟩
  have hb := hbf.toBelow
  have s8 := hb.size
  replace V := hid (V.out.below' hb)
  replace EX0 := hid (EX0.out.keep good_row2 (sm_below hb (by omega)))
  replace X0 := hid (X0.out.keep good_row2 (sm_below hb (by omega)))
  replace T0 := hid (T0.out.below hb (by omega))
  replace EX1 := hid (EX1.out.keep good_rat (sm_below hb (by omega)))
  replace X1 := hid (X1.out.keep good_rat (sm_below hb (by omega)))
  replace T1 := hid (T1.out.below hb (by omega))
  replace G := hid (G.out.below' hb)
  replace B := hid (B.out.trans (hb.mono B.out.size))
  have Ee := hid (hd.rd.2.up good_row2 (Nat.zero_le _) (Nat.le_refl _))
  clear hd hbf hb
  go_wp2_with fail
  with_reducible refine (eq_ratss _ _ _ _ x0 _ _ _ _ _ hl0 hr0 X0.out Ee.out (by omega) (Nat.le_refl _)).mono ?_
  rintro e w9 ⟨rfl, hb⟩
  have s9 := hb.size
  replace V := hid (V.out.below' hb)
  replace EX0 := hid (EX0.out.keep good_row2 (sm_below hb (by omega)))
  replace X0 := hid (X0.out.keep good_row2 (sm_below hb (by omega)))
  replace T0 := hid (T0.out.below hb (by omega))
  replace EX1 := hid (EX1.out.keep good_rat (sm_below hb (by omega)))
  replace X1 := hid (X1.out.keep good_rat (sm_below hb (by omega)))
  replace T1 := hid (T1.out.below hb (by omega))
  replace G := hid (G.out.below' hb)
  replace Ee := hid (Ee.out.keep good_row2 (sm_below hb (by omega)))
  replace B := hid (B.out.trans (hb.mono B.out.size))
  clear hb
  clear Ee
  go_wp2_with fail
  with_reducible refine (to_ratsF _ _ x1 0 _ _ (by omega) (A1.out _ B.out) (Nat.le_refl _)).mono ?_
  rintro e w10 ⟨rfl, hd, hbf, hlt⟩
  have hb := hbf.toBelow
  have s10 := hb.size
  replace V := hid (V.out.below' hb)
  replace EX0 := hid (EX0.out.keep good_row2 (sm_below hb (by omega)))
  replace X0 := hid (X0.out.keep good_row2 (sm_below hb (by omega)))
  replace T0 := hid (T0.out.below hb (by omega))
  replace EX1 := hid (EX1.out.keep good_rat (sm_below hb (by omega)))
  replace X1 := hid (X1.out.keep good_rat (sm_below hb (by omega)))
  replace T1 := hid (T1.out.below hb (by omega))
  replace G := hid (G.out.below' hb)
  replace B := hid (B.out.trans (hb.mono B.out.size))
  have Ee := hid ((ownq_rd hd).2.up good_rat (Nat.zero_le _) (Nat.le_refl _))
  clear hd hbf hb
  go_wp2_with fail
  with_reducible refine (eq_rats _ _ _ _ x1 _ _ _ _ _ hl1 X1.out Ee.out (by omega) (Nat.le_refl _)).mono ?_
  rintro e w11 ⟨rfl, hb⟩
  have s11 := hb.size
  replace V := hid (V.out.below' hb)
  replace EX0 := hid (EX0.out.keep good_row2 (sm_below hb (by omega)))
  replace X0 := hid (X0.out.keep good_row2 (sm_below hb (by omega)))
  replace T0 := hid (T0.out.below hb (by omega))
  replace EX1 := hid (EX1.out.keep good_rat (sm_below hb (by omega)))
  replace X1 := hid (X1.out.keep good_rat (sm_below hb (by omega)))
  replace T1 := hid (T1.out.below hb (by omega))
  replace G := hid (G.out.below' hb)
  replace Ee := hid (Ee.out.keep good_rat (sm_below hb (by omega)))
  replace B := hid (B.out.trans (hb.mono B.out.size))
  clear hb
  clear Ee
  clear EX0
  clear EX1
  go_wp2_with fail
  with_reducible refine (mark_ratssA _ _ _ _ (1) x0 _ (by omega) (by omega) (by omega) (mat0 X0.out) T0.out).mono ?_
  rintro e w12 ⟨rfl, hkt⟩
  have ht0 : Turn w3.heap.size w4.heap.size _ w12 := hkt.toTurn
  clear hkt
  clear X0
  clear T0
  have s12 := ht0.size
  replace V := hid (ownq_turned V.out ht0 (.inr (fun k hk => Nat.lt_of_lt_of_le (UV.out k hk) (by omega))))
  replace X1 := hid (X1.out.keep good_rat (sm_turn ht0 (by omega) (by omega)))
  replace T1 := hid (thw_turned T1.out ht0 (by omega) (by omega))
  replace G := hid (ownq_turned G.out ht0 (.inl (by omega)))
  replace B := hid (B.out.trans ((ht0.below (by omega)).mono (by omega)))
  clear ht0
  go_wp2_with fail
  with_reducible refine (mark_ratsA _ _ _ _ (1 + 2 * (wM x0 : Nat)) x1 _ (by omega) (by omega) (by omega) (els0 X1.out) T1.out).mono ?_
  rintro e w13 ⟨rfl, hkt⟩
  have ht0 : Turn w4.heap.size w5.heap.size _ w13 := hkt.toTurn
  clear hkt
  clear X1
  clear T1
  have s13 := ht0.size
  replace V := hid (ownq_turned V.out ht0 (.inr (fun k hk => Nat.lt_of_lt_of_le (UV.out k hk) (by omega))))
  replace G := hid (ownq_turned G.out ht0 (.inl (by omega)))
  replace B := hid (B.out.trans ((ht0.below (by omega)).mono (by omega)))
  clear ht0
  have t_k : ¬ ((1 + 2 * (wM x0 : Nat) + 2 * (x1.length : Nat) : Int) < 0) := by omega
  go_wp2_with fail
  with_reducible refine (eq_rats _ _ _ _ zs _ _ _ _ _ hz ((ownq_rd G.out).2) ((ownq_rd V.out).2) (Nat.le_refl _) (Nat.le_refl _)).mono ?_
  rintro e w14 ⟨rfl, hb⟩
  have s14 := hb.size
  replace V := hid (V.out.below' hb)
  replace G := hid (G.out.below' hb)
  replace B := hid (B.out.trans (hb.mono B.out.size))
  clear hb
  have hneg : ¬ ((1 : Int) + 2 * (zs.length : Nat) < 0) := by omega
  have hsame : (((1 : Int) + 2 * (zs.length : Nat)) != ((1 : Int) + 2 * (zs.length : Nat))) = false := by simp
  go_wp2_with fail
  with_reducible refine (mark_own _ _ 1 zs _ hz (by omega) (by omega) G.out).mono ?_
  rintro e w15 ⟨rfl, hown, hgr⟩
  have ht0 : Turn w5.heap.size w6.heap.size w14 w15 := Turn.of_grown hgr (fun k hk => ⟨LG.out k hk, UG.out k hk⟩)
  have s15 := ht0.size
  replace V := hid (ownq_turned V.out ht0 (.inr (fun k hk => Nat.lt_of_lt_of_le (UV.out k hk) (by omega))))
  replace B := hid (B.out.trans ((ht0.below (by omega)).mono (by omega)))
  replace G := hid hown
  clear ht0 hgr hown
  go_wp2_with fail
  with_reducible refine (held_rats _ _ 1 zs.length _ _ _ hz (by omega) (by omega) ((ownq_rd G.out).2)).mono ?_
  rintro e w' ⟨rfl, rfl⟩
  go_wp2_with fail
  with_reducible refine (to_ratssF _ _ x0 0 _ _ (by omega) (A0.out _ B.out) (Nat.le_refl _)).mono ?_
  rintro e w16 ⟨vsEh0, rfl, hd, hbf, hlt⟩
  have hb := hbf.toBelow
  have s16 := hb.size
  replace V := hid (V.out.below' hb)
  replace G := hid (G.out.below' hb)
  replace B := hid (B.out.trans (hb.mono B.out.size))
  have Eh0 := hid (hd.rd.2.up good_row2 (Nat.zero_le _) (Nat.le_refl _))
  clear hd hbf hb
  go_wp2_with fail
  with_reducible refine (to_ratsF _ _ x1 0 _ _ (by omega) (A1.out _ B.out) (Nat.le_refl _)).mono ?_
  rintro e w17 ⟨rfl, hd, hbf, hlt⟩
  have hb := hbf.toBelow
  have s17 := hb.size
  replace V := hid (V.out.below' hb)
  replace G := hid (G.out.below' hb)
  replace Eh0 := hid (Eh0.out.keep good_row2 (sm_below hb (by omega)))
  replace B := hid (B.out.trans (hb.mono B.out.size))
  have Eh1 := hid ((ownq_rd hd).2.up good_rat (Nat.zero_le _) (Nat.le_refl _))
  clear hd hbf hb
  go_wp2_with fail
  with_reducible refine (I.out _ _ _ _ _ (by first | exact Eh0.out | exact Eh0.out.up good_row2 (Nat.zero_le _) (by omega)) (Nat.le_refl _) (by first | exact Eh1.out | exact Eh1.out.up good_rat (Nat.zero_le _) (by omega)) (Nat.le_refl _)).mono ?_
  rintro e w18 ⟨aH, capH, rfl, hown, hb⟩
  have s18 := hb.size
  replace V := hid (V.out.below' hb)
  replace G := hid (G.out.below' hb)
  replace Eh0 := hid (Eh0.out.keep good_row2 (sm_below hb (by omega)))
  replace Eh1 := hid (Eh1.out.keep good_rat (sm_below hb (by omega)))
  replace B := hid (B.out.trans (hb.mono B.out.size))
  have H := hid hown
  have UH := hid (fun k hk => (hown.lt k hk).2)
  have LH := hid (fun k hk => (hown.lt k hk).1)
  clear hown hb
  clear Eh0
  clear Eh1
  go_wp2_with fail
  with_reducible refine (eq_rats _ _ _ _ zs _ _ _ _ _ hz ((ownq_rd H.out).2) ((ownq_rd V.out).2) (Nat.le_refl _) (Nat.le_refl _)).mono ?_
  rintro e w19 ⟨rfl, hb⟩
  have s19 := hb.size
  replace V := hid (V.out.below' hb)
  replace G := hid (G.out.below' hb)
  replace H := hid (H.out.below' hb)
  replace B := hid (B.out.trans (hb.mono B.out.size))
  clear hb
  go_wp2_with fail
  with_reducible refine (held_rats _ _ 1 zs.length _ _ _ hz (by omega) (by omega) ((ownq_rd G.out).2)).mono ?_
  rintro e w' ⟨rfl, rfl⟩
  go_wp2_with fail
  go_ret
  exact ⟨rfl, B.out⟩

set_option maxRecDepth 100000 in
theorem walk (a0 : Option Addr) (cap0 : Nat) (x0 : MatD) (a1 : Option Addr) (cap1 : Nat) (x1 : List RatD) (hn0 : x0.length ≤ 9223372036854775807) (hn1 : x1.length ≤ 9223372036854775807) (w : World) (r0 : Els 1 rRow2 w 0 w.heap.size a0 x0) (r1 : Els 2 rRat w 0 w.heap.size a1 x1) (SI : szM x0 + x1.length ≤ 1048576 → ∃ (zs : List RatD) (ok : Bool), (zs.length ≤ 1048576) ∧ (∀ (W : World) (b0 : Option Addr) (bap0 : Nat) (b1 : Option Addr) (bap1 : Nat), Els 1 rRow2 W 0 W.heap.size b0 x0 → x0.length ≤ bap0 → Els 2 rRat W 0 W.heap.size b1 x1 → x1.length ≤ bap1 → Calls Try.prog 17 #[.slice b0 x0.length bap0, .slice b1 x1.length bap1] W fun e w' => ∃ a cap, e = .returned (.tuple #[.slice a zs.length cap, .bool ok]) ∧ OwnQ w' W.heap.size tR (.slice a zs.length cap) zs ∧ Below W.heap.size W w') ∧ (∀ (W : World) (b0 : Option Addr) (bap0 : Nat) (b1 : Option Addr) (bap1 : Nat), Els 1 rRow2 W 0 W.heap.size b0 x0 → x0.length ≤ bap0 → Els 2 rRat W 0 W.heap.size b1 x1 → x1.length ≤ bap1 → Calls Try.prog 16 #[.slice b0 x0.length bap0, .slice b1 x1.length bap1] W fun e w' => ∃ a cap, e = .returned (.tuple #[.slice a zs.length cap, .bool ok]) ∧ OwnQ w' W.heap.size tR (.slice a zs.length cap) zs ∧ Below W.heap.size W w')) :
    Calls Try.prog 6 #[.slice a0 x0.length cap0, .slice a1 x1.length cap1] w fun e w' => e = .returned (.bool true) ∧ Below w.heap.size w w' := by
  by_cases ht0 : 1048576 < szM x0
  · clear SI
    go_enter Try.func6, Try.ntmps6
    go_wp2_with fail
    with_reducible refine (sz_ratss _ _ x0 0 _ (1048576) (-1) _ (by omega) (by omega) (by omega) r0 (hid (.inl ⟨by omega, rfl⟩))).mono ?_
    rintro e w' ⟨rfl, rfl⟩
    go_wp2
    go_ret
    exact ⟨rfl, Below.refl _ _⟩
  · by_cases ht1 : 1048576 < szM x0 + x1.length
    · clear SI
      have t_sz0 : ¬ ((1048576 - (szM x0 : Nat) : Int) < 0) := by omega
      go_enter Try.func6, Try.ntmps6
      go_wp2_with fail
      with_reducible refine (sz_ratss _ _ x0 0 _ (1048576) (1048576 - (szM x0 : Nat)) _ (by omega) (by omega) (by omega) r0 (hid (.inr ⟨by omega, by omega⟩))).mono ?_
      rintro e w' ⟨rfl, rfl⟩
      go_wp2_with fail
      with_reducible refine (sz_rats _ _ x1.length (1048576 - (szM x0 : Nat)) (-1) _ (by omega) (by omega) (by omega) (hid (.inl ⟨by omega, rfl⟩))).mono ?_
      rintro e w' ⟨rfl, rfl⟩
      go_wp2
      go_ret
      exact ⟨rfl, Below.refl _ _⟩
    · obtain ⟨zs, ok, hz, S, I⟩ := SI (by omega)
      exact core a0 cap0 x0 a1 cap1 x1 zs ok w (by omega) hz r0 r1 (hid S) (hid I)
end Go.Proofs.Ytjnphlgmmjdeiaa.SolveLinearSystemC
namespace Go.Proofs.Ytjnphlgmmjdeiaa.SolveLinearSystemW
open Go.RowKit
open Go.Proofs.Ytjnphlgmmjdeiaa.Num Go.Proofs.Ytjnphlgmmjdeiaa.Rdr Go.Proofs.Ytjnphlgmmjdeiaa.Rats Go.Proofs.Ytjnphlgmmjdeiaa.GridQ Go.Proofs.Ytjnphlgmmjdeiaa.RatsSS Go.Proofs.Ytjnphlgmmjdeiaa.LinP Go.Proofs.Ytjnphlgmmjdeiaa.SolP Go.Proofs.Ytjnphlgmmjdeiaa.SolQ Go.Proofs.Ytjnphlgmmjdeiaa.SolV Go.Proofs.Ytjnphlgmmjdeiaa.SolW
theorem rows_le {xss : MatD} (h : szM xss ≤ 1048576) : xss.length ≤ 1048576 ∧ ∀ j (hj : j < xss.length), xss[j].length ≤ 1048576 :=
  ⟨by have := tots_len List.length xss; unfold szM at h; omega, fun j hj => by have := elem_le List.length xss j hj; unfold szM at h; omega⟩
theorem sol_len (a : MatD) (b : List RatD) (h : b.length ≤ 1048576) : (lstO (solQ a b)).length ≤ 1048576 := by
  unfold lstO
  cases hs : solQ a b with
  | none => simp
  | some o =>
    rw [Option.getD_some]
    unfold solQ at hs
    split at hs
    · cases hg : gj (aug a b) b.length b.length with
      | none => rw [hg] at hs; cases hs
      | some m => rw [hg, Option.bind_some] at hs; rw [quo_len hs]; exact h
    · cases hs
theorem walk (a : Option Addr) (cap : Nat) (x : MatD) (hn : x.length ≤ 9223372036854775807) (b : Option Addr) (capb : Nat) (ys : List RatD) (hn2 : ys.length ≤ 9223372036854775807) (w : World) (r : Els 1 rRow2 w 0 w.heap.size a x) (r' : Els 2 rRat w 0 w.heap.size b ys) :
    Calls Try.prog 6 #[.slice a x.length cap, .slice b ys.length capb] w fun e w' => e = .returned (.bool true) ∧ Below w.heap.size w w' :=
  SolveLinearSystemC.walk a cap x b capb ys hn hn2 w r r' fun ht => by
    have hb := rows_le (show szM x ≤ 1048576 by omega)
    have hy : ys.length ≤ 1048576 := by omega
    exact ⟨lstO (solQ x ys), okO (solQ x ys), sol_len x ys hy, fun W b0 bap0 b1 bap1 h0 _ h1 _ => spec_solve b0 b1 bap0 bap1 x ys 0 _ 0 _ W hb.1 hy (hid hb.2) h0 h1 (Nat.le_refl _) (Nat.le_refl _), fun W b0 bap0 b1 bap1 h0 _ h1 hc => impl_solve b0 b1 bap0 bap1 x ys 0 _ 0 _ W hb.1 hy (hid hb.2) hc h0 h1 (Nat.le_refl _) (Nat.le_refl _)⟩
end Go.Proofs.Ytjnphlgmmjdeiaa.SolveLinearSystemW
