/- Iterators of tries, the model's: the validity of an iterator. -/
import Derived.Test.YtliomgoakiidfaaItS
namespace Go.Proofs.Ytliomgoakiidfaa.ItT
open Go.RowKit Go.Sort
open Go.Proofs.Ytliomgoakiidfaa.Num Go.Proofs.Ytliomgoakiidfaa.IntRow Go.Proofs.Ytliomgoakiidfaa.Vals Go.Proofs.Ytliomgoakiidfaa.Grid Go.Proofs.Ytliomgoakiidfaa.CmpL Go.Proofs.Ytliomgoakiidfaa.RowCmp Go.Proofs.Ytliomgoakiidfaa.RowCmpS Go.Proofs.Ytliomgoakiidfaa.Asc Go.Proofs.Ytliomgoakiidfaa.IntLaw Go.Proofs.Ytliomgoakiidfaa.GridMore Go.Proofs.Ytliomgoakiidfaa.GridLaw Go.Proofs.Ytliomgoakiidfaa.GridLaw2 Go.Proofs.Ytliomgoakiidfaa.Keep Go.Proofs.Ytliomgoakiidfaa.Kept Go.Proofs.Ytliomgoakiidfaa.Cells Go.Proofs.Ytliomgoakiidfaa.RelKit Go.Proofs.Ytliomgoakiidfaa.HasL Go.Proofs.Ytliomgoakiidfaa.ItLaw Go.Proofs.Ytliomgoakiidfaa.ItP Go.Proofs.Ytliomgoakiidfaa.TriV Go.Proofs.Ytliomgoakiidfaa.ItI Go.Proofs.Ytliomgoakiidfaa.ItV Go.Proofs.Ytliomgoakiidfaa.ItS
set_option linter.unusedVariables false
set_option linter.unusedSimpArgs false
theorem step_rg {xss : List (List Int)} {H P : List Int} {k pp e t : Nat} (hp : at0 P k = (pp : Int)) (he : at0 H k = (e : Int)) (hm : Mono xss k pp e) (h1 : pp ≤ t) (h2 : t ≤ e) (h3 : ∀ i, pp ≤ i → i < t → key xss k i = key xss k pp) (h4 : t < e → key xss k t ≠ key xss k pp) : rgL xss H P (k + 1) = (pp, t) := by
  show ((at0 P k).toNat, sr xss k (at0 P k).toNat (at0 H k).toNat (key xss k (at0 P k).toNat + 1)) = _
  rw [hp, he, Int.toNat_natCast, Int.toNat_natCast, sr_eq hm t h1 h2 (fun i a b => by rw [h3 i a b]; omega) (fun h => by
    have h5 := h4 h
    have h6 := hm pp t (Nat.le_refl _) h1 h
    omega)]

set_option maxRecDepth 100000 in
set_option maxHeartbeats 8000000 in
theorem spec_vit (n : Int) (a l h p : Option Addr) (cap capl caph capp : Nat) (xss : List (List Int)) (L H P : List Int) (B : Nat) (w : World) (hs : szI xss L H P ≤ 1048576) (r : ItRd w B a l h p cap capl caph capp xss L H P) (hB : B ≤ w.heap.size) :
    Calls Try.prog 20 #[.agg #[.int .i64 n, .slice a xss.length cap, .slice l L.length capl, .slice h H.length caph, .slice p P.length capp]] w fun e w' => e = .returned (.bool (vit n xss L H P)) ∧ Below w.heap.size w w' := by
  obtain ⟨n1, nl, nx, n3, n4, n5, _, _⟩ := szI_parts hs
  have B1 := hid ((Below.refl w.heap.size w).alloc (Nat.le_refl _) (.cells #[.int .i64 n, .slice a xss.length cap, .slice l L.length capl, .slice h H.length caph, .slice p P.length capp] 29))
  have K0 := hid (hasl_new w [.int .i64 n, .slice a xss.length cap, .slice l L.length capl, .slice h H.length caph, .slice p P.length capp] 29)
  have R := hid r
  have V := hid (spec_vtr n a xss.length cap B xss _ rfl nl nx (R.out.t.below (B1.out.mono hB)) (Nat.le_trans hB B1.out.size))
  have HS := hid hs
  have NX := hid nx
  obtain ⟨c0, c1, c2, c3, c4, _, _, _, _, _, z0⟩ := five K0.out
  clear r hs nx
  obtain ⟨v, hv⟩ : ∃ v, vrel n xss = v := ⟨_, rfl⟩
  rw [hv] at V
  have HV := hid hv
  clear hv
  obtain ⟨rv, hrv⟩ : ∃ v, vit n xss L H P = v := ⟨_, rfl⟩
  rw [hrv]
  have RV := hid hrv
  clear hrv
  go_enter Try.func20, Try.ntmps20
  go_wp2_with fail
  with_reducible refine V.out.mono ?_
  rintro e w1 ⟨rfl, hb⟩
  have BB := hid (B1.out.trans (hb.mono B1.out.size))
  replace K0 := hid (K0.out.below hb)
  clear c0 c1 c2 c3 c4 z0 hb V B1
  obtain ⟨c0, c1, c2, c3, c4, _, _, _, _, _, z0⟩ := five K0.out
  cases v with
  | false =>
    obtain rfl : false = rv := (vit_no_rel (L := L) (H := H) (P := P) HV.out).symm.trans RV.out
    go_wp2
    go_ret
    exact ⟨rfl, BB.out⟩
  | true =>
    by_cases q3 : n < (P.length : Int)
    · obtain rfl : false = rv := (vit_no_lens (xss := xss) (show lens n L H P = false from by rw [← Bool.not_eq_true, lens_iff]; omega)).symm.trans RV.out
      go_wp2
      go_ret
      exact ⟨rfl, BB.out⟩
    · by_cases q1 : L.length = P.length
      · have e1 : ((L.length : Int) != (P.length : Int)) = false := by simp [q1]
        by_cases q2 : H.length = P.length
        · have e2 : ((H.length : Int) != (P.length : Int)) = false := by simp [q2]
          have Q := hid (And.intro q1 q2)
          have hlens := hid (show lens n L H P = true from lens_iff.2 ⟨q1, q2, by omega⟩)
          clear q1 q2
          obtain ⟨m, hnm, ht0⟩ := tr_of HV.out
          have HT := hid ht0
          have hpm : P.length ≤ m := by omega
          clear hnm ht0
          go_wp2
          clear c0 c1 c2 c3 c4 z0
          go_loopw [4, 5, 6] (fun s4 s5 s6 wr => ∃ k lo hi : Nat, k ≤ P.length ∧ hi ≤ xss.length ∧ lo ≤ xss.length ∧ s4 = .int .i64 lo ∧ s5 = .int .i64 hi ∧ s6 = .int .i64 k ∧ Hid (k < P.length → rgL xss H P k = (lo, hi)) ∧ Hid (Lv xss L H P k) ∧ Hid (HasL wr w.heap.size [.int .i64 n, .slice a xss.length cap, .slice l L.length capl, .slice h H.length caph, .slice p P.length capp]) ∧ Hid (Below w.heap.size w wr)) (fun _ _ s6 _ => P.length - (intOf s6).toNat)
          case atStart => exact ⟨0, 0, xss.length, Nat.zero_le _, Nat.le_refl _, Nat.zero_le _, rfl, rfl, rfl, hid (fun _ => rfl), hid (Lv.zero _ _ _ _), K0, BB⟩
          case round =>
            obtain ⟨k, lo, hi, hk, hil, hll, rfl, rfl, rfl, hrg, hlv, k0, hb⟩ := hrel
            clear K0 BB
            obtain ⟨wo, rfl⟩ : ∃ wo : World, wo = wr := ⟨_, rfl⟩
            by_cases hlt : k < P.length
            · have rdy := lv_ready HT.out Q.out.1 Q.out.2 hpm hlt hlv.out
              have hkL : k < L.length := by have := Q.out.1; omega
              have hkH : k < H.length := by have := Q.out.2; omega
              have hLV := lvS_lvI HT.out.asc (L := L) HT.out.row (show k < m by omega) hlt rdy.2.1
              obtain ⟨v, hv⟩ : ∃ v, lvS xss L H P k = v := ⟨_, rfl⟩
              rw [hv] at hLV
              have HLV := hid hLV
              clear hLV
              unfold lvS at hv
              have hr := hrg.out hlt
              have hmono := rdy.2.2.1
              have hle := rdy.2.1.le
              rw [hr] at hv hmono hle
              have HM := hid hmono
              have HRL := hid rdy.2.2.2
              clear hmono rdy hr
              simp only at hv hle
              have HR := R.out.below (hb.out.mono hB)
              obtain ⟨bp, offp, hpe, hbp, hcp⟩ := HR.p (by omega)
              obtain ⟨bl, offl, hle0, hbl, hcl⟩ := HR.l (by omega)
              obtain ⟨bh, offh, hhe, hbh, hch⟩ := HR.h (by omega)
              subst hpe hle0 hhe
              have gp := hcp k hlt
              have gl := hcl k hkL
              have gh := hch k hkH
              rw [← at0_get hlt] at gp
              rw [← at0_get hkL] at gl
              rw [← at0_get hkH] at gh
              obtain ⟨pz, hpz⟩ : ∃ z, at0 P k = z := ⟨_, rfl⟩
              obtain ⟨lz, hlz⟩ : ∃ z, at0 L k = z := ⟨_, rfl⟩
              obtain ⟨hz, hhz⟩ : ∃ z, at0 H k = z := ⟨_, rfl⟩
              rw [hpz] at gp hv
              rw [hlz] at gl hv
              rw [hhz] at gh hv
              have h1 : (k : Int) < (P.length : Int) := by omega
              have h2 : (k : Int) < (L.length : Int) := by omega
              have h3 : (k : Int) < (H.length : Int) := by omega
              have h4 : (0 : Int) ≤ (k : Int) := by omega
              have hwl : IntKind.i64.wrap ((P.length : Int) - 1) = (P.length : Int) - 1 := IntWalk.i64_in _ (by omega)
              have HV2 := hid hv
              have HPZ := hid hpz
              have HLZ := hid hlz
              have HHZ := hid hhz
              have GT := hid HR.t
              have HR2 := hid HR
              obtain ⟨c0, c1, c2, c3, c4, _, _, _, _, _, z0⟩ := five k0.out
              clear hv hpz hlz hhz hcp hcl hch HR
              have NO := hid (fun (h : v = false) => show false = rv from (vit_no_lv (n := n) k hlt (HLV.out.symm.trans h)).symm.trans RV.out)
              by_cases q1 : lz = (lo : Int)
              · have e1 : (lz != (lo : Int)) = false := by simp [q1]
                by_cases q2 : hz = (hi : Int)
                · have e2 : (hz != (hi : Int)) = false := by simp [q2]
                  by_cases q3 : (decide ((lo : Int) ≤ pz) && decide (pz ≤ (hi : Int))) = true
                  · have IN := hid (fun W => in_any pz lo hi true q3 W)
                    have q3' : (lo : Int) ≤ pz ∧ pz ≤ (hi : Int) := by simpa using q3
                    obtain ⟨pp, rfl⟩ : ∃ pp : Nat, pz = (pp : Int) := ⟨pz.toNat, by omega⟩
                    have q4a : lo ≤ pp := by omega
                    have q4b : pp ≤ hi := by omega
                    subst q1 q2
                    clear q3 q3' e1 e2
                    have e1 : ((lo : Int) != (lo : Int)) = false := by simp
                    have e2 : ((hi : Int) != (hi : Int)) = false := by simp
                    have FST := hid (fun W (hW : Below w.heap.size w W) (rW : ItRd W B a (some ⟨bl, offl, none⟩) (some ⟨bh, offh, none⟩) (some ⟨bp, offp, none⟩) cap capl caph capp xss L H P) => spec_first n a (some ⟨bl, offl, none⟩) (some ⟨bh, offh, none⟩) (some ⟨bp, offp, none⟩) cap capl caph capp xss L H P B k pp W HS.out rW (Nat.le_trans hB hW.size) hlt hkL hkH HPZ.out (by omega) (fun hne => by rw [HLZ.out] at hne; omega) HRL.out)
                    obtain ⟨f, hf⟩ : ∃ f, (decide ((pp : Int) = at0 L k) || (decide ((pp : Int) < (xss.length : Int)) && decide (key xss k pp ≠ key xss k (pp - 1))) || decide ((pp : Int) = at0 H k)) = f := ⟨_, rfl⟩
                    have HF := hid hf
                    rw [HLZ.out, HHZ.out] at hf
                    rw [HF.out] at FST
                    have HF2 := hid hf
                    clear hf
                    by_cases q5 : (pp : Int) = (hi : Int)
                    · have e5 : ((pp : Int) == (hi : Int)) = true := by simp [q5]
                      by_cases q6 : k + 1 < P.length
                      · have e6 : (k : Int) < (P.length : Int) - 1 := by omega
                        obtain rfl : false = v := by have hv := HV2.out; rw [← hv]; simp [q5, q6]
                        obtain rfl : false = rv := NO.out rfl
                        clear q5 FST
                        go_wp2_with fail
                        with_reducible refine (IN.out _).mono ?_
                        rintro e w2 ⟨rfl, rfl⟩
                        go_wp2
                        go_ret
                        exact ⟨rfl, hb.out⟩
                      · have e6 : ¬ (k : Int) < (P.length : Int) - 1 := by omega
                        have q4c : (lo : Int) ≤ (pp : Int) := by omega
                        have q4d : (pp : Int) ≤ (hi : Int) := by omega
                        have Q5 := hid q5
                        clear q5
                        go_wp2_with fail
                        with_reducible refine (IN.out _).mono ?_
                        rintro e w2 ⟨rfl, rfl⟩
                        go_wp2_with fail
                        with_reducible refine (FST.out _ hb.out HR2.out).mono ?_
                        rintro e w2 ⟨rfl, hb2⟩
                        have hb3 := hid (hb.out.trans (hb2.mono hb.out.size))
                        have k1 := hid (k0.out.below hb2)
                        have gp2 := (hb2.cell (p := ⟨bp, offp + k, none⟩) (by have := hb.out.size; show bp < _; omega)).trans gp
                        have gh2 := (hb2.cell (p := ⟨bh, offh + k, none⟩) (by have := hb.out.size; show bh < _; omega)).trans gh
                        have HR3 := hid (HR2.out.below (hb2.mono (Nat.le_trans hB hb.out.size)))
                        clear c0 c1 c2 c3 c4 z0 hb2 FST IN gp gl gh
                        obtain ⟨c0, c1, c2, c3, c4, _, _, _, _, _, z0⟩ := five k1.out
                        cases f with
                        | false =>
                          obtain rfl : false = v := by have hv := HV2.out; simp only [Int.toNat_natCast] at hv; rw [← hv, HF2.out]; simp
                          obtain rfl : false = rv := NO.out rfl
                          go_wp2
                          go_ret
                          exact ⟨rfl, hb3.out⟩
                        | true =>
                          obtain rfl : true = v := by have hv := HV2.out; simp only [Int.toNat_natCast] at hv; rw [← hv, HF2.out]; simp [Q5.out, q6, q4c]; omega
                          go_wp2
                          clear c0 c1 c2 c3 c4 z0 gp2 gh2
                          go_loopw [5] (fun s5 wr => ∃ t : Nat, pp ≤ t ∧ t ≤ hi ∧ s5 = .int .i64 t ∧ Hid (∀ i, pp ≤ i → i < t → key xss k i = key xss k pp) ∧ Hid (HasL wr w.heap.size [.int .i64 n, .slice a xss.length cap, .slice (some ⟨bl, offl, none⟩) L.length capl, .slice (some ⟨bh, offh, none⟩) H.length caph, .slice (some ⟨bp, offp, none⟩) P.length capp]) ∧ Hid (Below w.heap.size w wr)) (fun s5 _ => hi - (intOf s5).toNat)
                          case atStart => exact ⟨pp, Nat.le_refl _, q4b, rfl, hid (fun i a b => by omega), k1, hb3⟩
                          case round =>
                            obtain ⟨t, ht1, ht2, rfl, hsame, k2, hb4⟩ := hrel
                            clear k1 hb3 HR3
                            have HR4 := R.out.below (hb4.out.mono hB)
                            have GT4 := HR4.t
                            obtain ⟨bh2, offh2, hhe2, hbh2, hch2⟩ := HR4.h (by omega)
                            have ehh : bh2 = bh ∧ offh2 = offh := by injection hhe2 with x; injection x with y z; exact ⟨y.symm, z.symm⟩
                            obtain ⟨rfl, rfl⟩ := ehh
                            have gh := hch2 k hkH
                            rw [← at0_get hkH, HHZ.out] at gh
                            clear hhe2 hch2 HR4
                            obtain ⟨c0, c1, c2, c3, c4, _, _, _, _, _, z0⟩ := five k2.out
                            have h5 : (0 : Int) ≤ (t : Int) := by omega
                            have h6 : (0 : Int) ≤ (pp : Int) := by omega
                            by_cases q7 : t < hi
                            · have d1 : decide ((t : Int) < (hi : Int)) = true := by simp; omega
                              have d2 : decide (t < hi) = true := by simp; omega
                              have d3 : (t : Int) < (hi : Int) := by omega
                              obtain ⟨b0, off, hae, hb0, hc⟩ := GT4 (by omega)
                              obtain ⟨a1, cap1, g1, ro1⟩ := hc t (by omega)
                              obtain ⟨a2, cap2, g2, ro2⟩ := hc pp (by omega)
                              obtain ⟨br1, offr1, rfl, _, hcr1⟩ := ro1 (by have := HRL.out t (by omega); omega)
                              obtain ⟨br2, offr2, rfl, _, hcr2⟩ := ro2 (by have := HRL.out pp (by omega); omega)
                              have gk1 := hcr1 k (HRL.out t (by omega))
                              have gk2 := hcr2 k (HRL.out pp (by omega))
                              rw [← key_at] at gk1 gk2
                              rw [hae] at c1
                              obtain ⟨m1, hm1⟩ : ∃ m, (xss[t]'(by omega)).length = m := ⟨_, rfl⟩
                              obtain ⟨m2, hm2⟩ : ∃ m, (xss[pp]'(by omega)).length = m := ⟨_, rfl⟩
                              have hk1 : (k : Int) < (m1 : Int) := by have := HRL.out t (by omega); omega
                              have hk2 : (k : Int) < (m2 : Int) := by have := HRL.out pp (by omega); omega
                              have hl1 : m1 ≤ 1048576 := by have := NX.out t (by omega); omega
                              have hl2 : m2 ≤ 1048576 := by have := NX.out pp (by omega); omega
                              rw [hm1] at g1
                              rw [hm2] at g2
                              obtain ⟨x1, hx1⟩ : ∃ x, key xss k t = x := ⟨_, rfl⟩
                              obtain ⟨x2, hx2⟩ : ∃ x, key xss k pp = x := ⟨_, rfl⟩
                              rw [hx1] at gk1
                              rw [hx2] at gk2
                              have h7 : (t : Int) < (xss.length : Int) := by omega
                              have h8 : (pp : Int) < (xss.length : Int) := by omega
                              have hw : IntKind.i64.wrap ((t : Int) + 1) = ((t + 1 : Nat) : Int) := by rw [IntWalk.i64_in _ (by omega)]; omega
                              have HX1 := hid hx1
                              have HX2 := hid hx2
                              clear hx1 hx2 hm1 hm2 hcr1 hcr2 ro1 ro2 hc
                              by_cases q8 : x1 = x2
                              · have e8 : (x1 == x2) = true := by simp [q8]
                                have hs2 := hid (show ∀ i, pp ≤ i → i < t + 1 → key xss k i = key xss k pp from fun i a b => by
                                  rcases Nat.lt_or_eq_of_le (Nat.lt_succ_iff.1 b) with e | e
                                  · exact hsame.out i a e
                                  · subst e; rw [HX1.out, HX2.out, q8])
                                clear q8
                                go_wp2_with fail
                                go_quiet (fail)
                                clear g1 g2 gk1 gk2 gh c0 c1 c2 c3 c4 z0
                                go_wp2
                                go_roundw
                                case rel => exact ⟨t + 1, by omega, by omega, by go_num, hs2, hid (k2.out.below (bel_drewN (Below.refl _ _) (Nat.le_refl _) _)), hid (bel_drewN hb4.out hb4.out.size _)⟩
                                case measure => simp [intOf]; omega
                              · have e8 : (x1 == x2) = false := by simp [q8]
                                have hrg2 := hid (step_rg HPZ.out HHZ.out (HM.out.sub q4a (Nat.le_refl _)) ht1 ht2 hsame.out (fun _ => by rw [HX1.out, HX2.out]; exact q8))
                                have hlv2 := hid (hlv.out.step HLV.out.symm)
                                clear q8
                                go_wp2_with fail
                                go_quiet (fail)
                                clear g1 g2 gk1 gk2 gh c0 c1 c2 c3 c4 z0
                                go_wp2
                                go_roundw
                                case rel => exact ⟨k + 1, pp, t, by omega, by omega, by omega, rfl, rfl, by go_num, hid (fun _ => hrg2.out), hlv2, hid (k2.out.below (bel_drewN (Below.refl _ _) (Nat.le_refl _) _)), hid (bel_drewN hb4.out hb4.out.size _)⟩
                                case measure => simp [intOf]; omega
                            · obtain rfl : t = hi := by omega
                              have d1 : decide ((t : Int) < (t : Int)) = false := by simp
                              have d2 : decide (t < t) = false := by simp
                              have hrg2 := hid (step_rg HPZ.out HHZ.out (HM.out.sub q4a (Nat.le_refl _)) ht1 ht2 hsame.out (fun h => absurd h (Nat.lt_irrefl _)))
                              have hlv2 := hid (hlv.out.step HLV.out.symm)
                              clear q7
                              go_wp2_with fail
                              go_quiet (fail)
                              clear gh c0 c1 c2 c3 c4 z0
                              go_wp2
                              go_roundw
                              case rel => exact ⟨k + 1, pp, t, by omega, by omega, by omega, rfl, rfl, by go_num, hid (fun _ => hrg2.out), hlv2, hid (k2.out.below (bel_drewN (Below.refl _ _) (Nat.le_refl _) _)), hid (bel_drewN hb4.out hb4.out.size _)⟩
                              case measure => simp [intOf]; omega
                    · have e5 : ((pp : Int) == (hi : Int)) = false := by simp [q5]
                      have q4c : (lo : Int) ≤ (pp : Int) := by omega
                      have q4d : (pp : Int) ≤ (hi : Int) := by omega
                      go_wp2_with fail
                      with_reducible refine (IN.out _).mono ?_
                      rintro e w2 ⟨rfl, rfl⟩
                      go_wp2_with fail
                      with_reducible refine (FST.out _ hb.out HR2.out).mono ?_
                      rintro e w2 ⟨rfl, hb2⟩
                      have hb3 := hid (hb.out.trans (hb2.mono hb.out.size))
                      have k1 := hid (k0.out.below hb2)
                      have gp2 := (hb2.cell (p := ⟨bp, offp + k, none⟩) (by have := hb.out.size; show bp < _; omega)).trans gp
                      have gh2 := (hb2.cell (p := ⟨bh, offh + k, none⟩) (by have := hb.out.size; show bh < _; omega)).trans gh
                      have HR3 := hid (HR2.out.below (hb2.mono (Nat.le_trans hB hb.out.size)))
                      clear c0 c1 c2 c3 c4 z0 hb2 FST IN gp gl gh
                      obtain ⟨c0, c1, c2, c3, c4, _, _, _, _, _, z0⟩ := five k1.out
                      cases f with
                      | false =>
                        obtain rfl : false = v := by have hv := HV2.out; simp only [Int.toNat_natCast] at hv; rw [← hv, HF2.out]; simp
                        obtain rfl : false = rv := NO.out rfl
                        go_wp2
                        go_ret
                        exact ⟨rfl, hb3.out⟩
                      | true =>
                        obtain rfl : true = v := by have hv := HV2.out; simp only [Int.toNat_natCast] at hv; rw [← hv, HF2.out]; simp [q5, q4c, q4d]
                        go_wp2
                        clear c0 c1 c2 c3 c4 z0 gp2 gh2
                        go_loopw [5] (fun s5 wr => ∃ t : Nat, pp ≤ t ∧ t ≤ hi ∧ s5 = .int .i64 t ∧ Hid (∀ i, pp ≤ i → i < t → key xss k i = key xss k pp) ∧ Hid (HasL wr w.heap.size [.int .i64 n, .slice a xss.length cap, .slice (some ⟨bl, offl, none⟩) L.length capl, .slice (some ⟨bh, offh, none⟩) H.length caph, .slice (some ⟨bp, offp, none⟩) P.length capp]) ∧ Hid (Below w.heap.size w wr)) (fun s5 _ => hi - (intOf s5).toNat)
                        case atStart => exact ⟨pp, Nat.le_refl _, q4b, rfl, hid (fun i a b => by omega), k1, hb3⟩
                        case round =>
                          obtain ⟨t, ht1, ht2, rfl, hsame, k2, hb4⟩ := hrel
                          clear k1 hb3 HR3
                          have HR4 := R.out.below (hb4.out.mono hB)
                          have GT4 := HR4.t
                          obtain ⟨bh2, offh2, hhe2, hbh2, hch2⟩ := HR4.h (by omega)
                          have ehh : bh2 = bh ∧ offh2 = offh := by injection hhe2 with x; injection x with y z; exact ⟨y.symm, z.symm⟩
                          obtain ⟨rfl, rfl⟩ := ehh
                          have gh := hch2 k hkH
                          rw [← at0_get hkH, HHZ.out] at gh
                          clear hhe2 hch2 HR4
                          obtain ⟨c0, c1, c2, c3, c4, _, _, _, _, _, z0⟩ := five k2.out
                          have h5 : (0 : Int) ≤ (t : Int) := by omega
                          have h6 : (0 : Int) ≤ (pp : Int) := by omega
                          by_cases q7 : t < hi
                          · have d1 : decide ((t : Int) < (hi : Int)) = true := by simp; omega
                            have d2 : decide (t < hi) = true := by simp; omega
                            have d3 : (t : Int) < (hi : Int) := by omega
                            obtain ⟨b0, off, hae, hb0, hc⟩ := GT4 (by omega)
                            obtain ⟨a1, cap1, g1, ro1⟩ := hc t (by omega)
                            obtain ⟨a2, cap2, g2, ro2⟩ := hc pp (by omega)
                            obtain ⟨br1, offr1, rfl, _, hcr1⟩ := ro1 (by have := HRL.out t (by omega); omega)
                            obtain ⟨br2, offr2, rfl, _, hcr2⟩ := ro2 (by have := HRL.out pp (by omega); omega)
                            have gk1 := hcr1 k (HRL.out t (by omega))
                            have gk2 := hcr2 k (HRL.out pp (by omega))
                            rw [← key_at] at gk1 gk2
                            rw [hae] at c1
                            obtain ⟨m1, hm1⟩ : ∃ m, (xss[t]'(by omega)).length = m := ⟨_, rfl⟩
                            obtain ⟨m2, hm2⟩ : ∃ m, (xss[pp]'(by omega)).length = m := ⟨_, rfl⟩
                            have hk1 : (k : Int) < (m1 : Int) := by have := HRL.out t (by omega); omega
                            have hk2 : (k : Int) < (m2 : Int) := by have := HRL.out pp (by omega); omega
                            have hl1 : m1 ≤ 1048576 := by have := NX.out t (by omega); omega
                            have hl2 : m2 ≤ 1048576 := by have := NX.out pp (by omega); omega
                            rw [hm1] at g1
                            rw [hm2] at g2
                            obtain ⟨x1, hx1⟩ : ∃ x, key xss k t = x := ⟨_, rfl⟩
                            obtain ⟨x2, hx2⟩ : ∃ x, key xss k pp = x := ⟨_, rfl⟩
                            rw [hx1] at gk1
                            rw [hx2] at gk2
                            have h7 : (t : Int) < (xss.length : Int) := by omega
                            have h8 : (pp : Int) < (xss.length : Int) := by omega
                            have hw : IntKind.i64.wrap ((t : Int) + 1) = ((t + 1 : Nat) : Int) := by rw [IntWalk.i64_in _ (by omega)]; omega
                            have HX1 := hid hx1
                            have HX2 := hid hx2
                            clear hx1 hx2 hm1 hm2 hcr1 hcr2 ro1 ro2 hc
                            by_cases q8 : x1 = x2
                            · have e8 : (x1 == x2) = true := by simp [q8]
                              have hs2 := hid (show ∀ i, pp ≤ i → i < t + 1 → key xss k i = key xss k pp from fun i a b => by
                                rcases Nat.lt_or_eq_of_le (Nat.lt_succ_iff.1 b) with e | e
                                · exact hsame.out i a e
                                · subst e; rw [HX1.out, HX2.out, q8])
                              clear q8
                              go_wp2_with fail
                              go_quiet (fail)
                              clear g1 g2 gk1 gk2 gh c0 c1 c2 c3 c4 z0
                              go_wp2
                              go_roundw
                              case rel => exact ⟨t + 1, by omega, by omega, by go_num, hs2, hid (k2.out.below (bel_drewN (Below.refl _ _) (Nat.le_refl _) _)), hid (bel_drewN hb4.out hb4.out.size _)⟩
                              case measure => simp [intOf]; omega
                            · have e8 : (x1 == x2) = false := by simp [q8]
                              have hrg2 := hid (step_rg HPZ.out HHZ.out (HM.out.sub q4a (Nat.le_refl _)) ht1 ht2 hsame.out (fun _ => by rw [HX1.out, HX2.out]; exact q8))
                              have hlv2 := hid (hlv.out.step HLV.out.symm)
                              clear q8
                              go_wp2_with fail
                              go_quiet (fail)
                              clear g1 g2 gk1 gk2 gh c0 c1 c2 c3 c4 z0
                              go_wp2
                              go_roundw
                              case rel => exact ⟨k + 1, pp, t, by omega, by omega, by omega, rfl, rfl, by go_num, hid (fun _ => hrg2.out), hlv2, hid (k2.out.below (bel_drewN (Below.refl _ _) (Nat.le_refl _) _)), hid (bel_drewN hb4.out hb4.out.size _)⟩
                              case measure => simp [intOf]; omega
                          · obtain rfl : t = hi := by omega
                            have d1 : decide ((t : Int) < (t : Int)) = false := by simp
                            have d2 : decide (t < t) = false := by simp
                            have hrg2 := hid (step_rg HPZ.out HHZ.out (HM.out.sub q4a (Nat.le_refl _)) ht1 ht2 hsame.out (fun h => absurd h (Nat.lt_irrefl _)))
                            have hlv2 := hid (hlv.out.step HLV.out.symm)
                            clear q7
                            go_wp2_with fail
                            go_quiet (fail)
                            clear gh c0 c1 c2 c3 c4 z0
                            go_wp2
                            go_roundw
                            case rel => exact ⟨k + 1, pp, t, by omega, by omega, by omega, rfl, rfl, by go_num, hid (fun _ => hrg2.out), hlv2, hid (k2.out.below (bel_drewN (Below.refl _ _) (Nat.le_refl _) _)), hid (bel_drewN hb4.out hb4.out.size _)⟩
                            case measure => simp [intOf]; omega
                  · have q3' : (decide ((lo : Int) ≤ pz) && decide (pz ≤ (hi : Int))) = false := by simpa using q3
                    have IN := hid (fun W => in_any pz lo hi false q3' W)
                    obtain rfl : false = v := by have hv := HV2.out; rw [← hv, Bool.and_assoc (decide (lz = (lo : Int))  && decide (hz = (hi : Int))), q3']; simp
                    obtain rfl : false = rv := NO.out rfl
                    clear q1 q2 q3 q3'
                    go_wp2_with fail
                    with_reducible refine (IN.out _).mono ?_
                    rintro e w2 ⟨rfl, rfl⟩
                    go_wp2
                    go_ret
                    exact ⟨rfl, hb.out⟩
                · have e2 : (hz != (hi : Int)) = true := by simp [q2]
                  obtain rfl : false = v := by have hv := HV2.out; rw [← hv]; simp [q2]
                  obtain rfl : false = rv := NO.out rfl
                  clear q1 q2
                  go_wp2
                  go_ret
                  exact ⟨rfl, hb.out⟩
              · have e1 : (lz != (lo : Int)) = true := by simp [q1]
                obtain rfl : false = v := by have hv := HV2.out; rw [← hv]; simp [q1]
                obtain rfl : false = rv := NO.out rfl
                clear q1
                go_wp2
                go_ret
                exact ⟨rfl, hb.out⟩
            · obtain rfl : k = P.length := by omega
              obtain rfl : true = rv := (vit_yes hlens.out HV.out hlv.out).symm.trans RV.out
              obtain ⟨c0, c1, c2, c3, c4, _, _, _, _, _, z0⟩ := five k0.out
              go_wp2
              go_ret
              exact ⟨rfl, hb.out⟩
        · have e2 : ((H.length : Int) != (P.length : Int)) = true := by simp [q2]; omega
          obtain rfl : false = rv := (vit_no_lens (xss := xss) (show lens n L H P = false from by rw [← Bool.not_eq_true, lens_iff]; omega)).symm.trans RV.out
          clear q1 q2
          go_wp2
          go_ret
          exact ⟨rfl, BB.out⟩
      · have e1 : ((L.length : Int) != (P.length : Int)) = true := by simp [q1]; omega
        obtain rfl : false = rv := (vit_no_lens (xss := xss) (show lens n L H P = false from by rw [← Bool.not_eq_true, lens_iff]; omega)).symm.trans RV.out
        clear q1
        go_wp2
        go_ret
        exact ⟨rfl, BB.out⟩
end Go.Proofs.Ytliomgoakiidfaa.ItT
