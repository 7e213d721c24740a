/- The model solves a linear system. -/
import Derived.Test.YtjnphlgmmjdeiaaSolM
import Derived.Test.YtjnphlgmmjdeiaaSolV
import Derived.Test.YtjnphlgmmjdeiaaAppQ
namespace Go.Proofs.Ytjnphlgmmjdeiaa.SolW
open Go.RowKit
open Go.Proofs.Ytjnphlgmmjdeiaa.Num Go.Proofs.Ytjnphlgmmjdeiaa.IntRow Go.Proofs.Ytjnphlgmmjdeiaa.GridMore Go.Proofs.Ytjnphlgmmjdeiaa.Rdr Go.Proofs.Ytjnphlgmmjdeiaa.HasL Go.Proofs.Ytjnphlgmmjdeiaa.Rat Go.Proofs.Ytjnphlgmmjdeiaa.Valid Go.Proofs.Ytjnphlgmmjdeiaa.RatLaw Go.Proofs.Ytjnphlgmmjdeiaa.Rats Go.Proofs.Ytjnphlgmmjdeiaa.RatRow Go.Proofs.Ytjnphlgmmjdeiaa.RatOwn Go.Proofs.Ytjnphlgmmjdeiaa.GridQ Go.Proofs.Ytjnphlgmmjdeiaa.GridQ2 Go.Proofs.Ytjnphlgmmjdeiaa.RatsSS Go.Proofs.Ytjnphlgmmjdeiaa.Smq Go.Proofs.Ytjnphlgmmjdeiaa.SmqI Go.Proofs.Ytjnphlgmmjdeiaa.Qops Go.Proofs.Ytjnphlgmmjdeiaa.LinP Go.Proofs.Ytjnphlgmmjdeiaa.Dot Go.Proofs.Ytjnphlgmmjdeiaa.Mtr Go.Proofs.Ytjnphlgmmjdeiaa.AllV Go.Proofs.Ytjnphlgmmjdeiaa.SolP Go.Proofs.Ytjnphlgmmjdeiaa.SolI Go.Proofs.Ytjnphlgmmjdeiaa.SolX Go.Proofs.Ytjnphlgmmjdeiaa.SolC Go.Proofs.Ytjnphlgmmjdeiaa.SolM Go.Proofs.Ytjnphlgmmjdeiaa.SolR Go.Proofs.Ytjnphlgmmjdeiaa.SolV Go.Proofs.Ytjnphlgmmjdeiaa.SolQ Go.Proofs.Ytjnphlgmmjdeiaa.AppQ Go.Proofs.Ytjnphlgmmjdeiaa.Keep Go.Proofs.Ytjnphlgmmjdeiaa.Kept Go.Proofs.Ytjnphlgmmjdeiaa.Cells
set_option linter.unusedVariables false

theorem sys_no1 {a : MatD} {b : List RatD} (h : ¬ b.length ≤ 6) : solQ a b = none := if_neg fun e => h (sysOk_at e).1
theorem sys_no2 {a : MatD} {b : List RatD} (h : (okM a b.length && decide (a.length = b.length)) = false) : solQ a b = none := if_neg fun e => by
  obtain ⟨_, h2, h3, _⟩ := sysOk_at e
  rw [h3, decide_eq_true h2] at h
  cases h
theorem sys_no3 {a : MatD} {b : List RatD} {k : Nat} (hk : k < b.length) (h : vr b[k].1 b[k].2 = false) : solQ a b = none := if_neg fun e => by
  have := allV_at (xs := b) (sysOk_at e).2.2.2 k hk
  rw [h] at this
  cases this
theorem sys_yes {a : MatD} {b : List RatD} (h1 : b.length ≤ 6) (h2 : (okM a b.length && decide (a.length = b.length)) = true) (h3 : okTo b b.length) : solQ a b = (gj (aug a b) b.length b.length).bind fun m => quo m b.length b.length := by
  rw [Bool.and_eq_true, decide_eq_true_eq] at h2
  have : sysOk a b = true := by
    unfold sysOk
    rw [decide_eq_true h1, decide_eq_true h2.2, h2.1, show (b.all fun p => vr p.1 p.2) = true from allV_yes h3]
    rfl
  unfold solQ
  rw [if_pos this]
theorem swp_comm (m : MatD) (p k : Nat) (hp : p < m.length) (hk : k < m.length) : swp m k p = swp m p k := by
  unfold swp
  by_cases e : p = k
  · subst e; rfl
  · exact List.set_comm _ _ (fun h => e h.symm)
theorem swp_eq {m : MatD} {p k : Nat} (hp : p < m.length) (hk : k < m.length) : (m.set k m[p]).set p m[k] = swp m p k := by
  rw [← swp_comm m p k hp hk]
  unfold swp
  rw [getD_at hp, getD_at hk]

set_option maxRecDepth 100000 in
set_option maxHeartbeats 4000000 in
theorem spec_solve (a b : Option Addr) (cap capb : Nat) (xss : MatD) (ys : List RatD) (lo hi lo' hi' : Nat) (w : World) (hn : xss.length ≤ 1048576) (hn2 : ys.length ≤ 1048576) (hR : Hid (∀ j (hj : j < xss.length), xss[j].length ≤ 1048576)) (h : Els 1 rRow2 w lo hi a xss) (h' : Els 2 rRat w lo' hi' b ys) (hh : hi ≤ w.heap.size) (hh' : hi' ≤ w.heap.size) :
    Calls Try.prog 17 #[.slice a xss.length cap, .slice b ys.length capb] w fun e w' => ∃ a0 c0, e = .returned (.tuple #[.slice a0 (lstO (solQ xss ys)).length c0, .bool (okO (solQ xss ys))]) ∧ OwnQ w' w.heap.size tR (.slice a0 (lstO (solQ xss ys)).length c0) (lstO (solQ xss ys)) ∧ Below w.heap.size w w' := by
  obtain ⟨i0, hi0, hz0, hz1, hz2⟩ := info_parts infoRat
  obtain ⟨i1, hi1, hy0, hy1, hy2⟩ := info_parts infoRow
  have B0 := hid (Below.refl w.heap.size w)
  have s0 := Nat.le_refl w.heap.size
  by_cases h6 : ys.length ≤ 6
  · have t6 : ¬ (6 : Int) < (ys.length : Int) := by omega
    have SQ := hid (spec_square a cap xss ys.length ys.length lo hi w hn (by omega) (by omega) hR h hh)
    have HE := hid h
    have HE' := hid h'
    have HYB := hid (fun j hj => rats_bd h' j hj)
    cases hsq : (okM xss ys.length && decide (xss.length = ys.length)) with
    | false =>
      rw [hsq] at SQ
      have HN := hid (sys_no2 hsq)
      clear hsq h h'
      go_enter Try.func17, Try.ntmps17
      go_wp2_with fail
      with_reducible refine SQ.out.mono ?_
      rintro e w1 ⟨rfl, hb⟩
      have B1 := hid hb
      have s1 := hb.size
      clear hb
      have B2 := hid (B1.out.alloc (by omega) (.cells #[] 35))
      have HL := hid (show OwnR (w1.alloc (.cells #[] 35)) w.heap.size 35 (.slice (some ⟨w1.heap.size, 0, none⟩) 0 0) [] from ownR_lit _ w.heap.size 35 (by omega))
      go_wp2_with fail
      go_ret2
      exact ⟨_, 0, by rw [HN.out]; rfl, by rw [HN.out]; exact ⟨HL.out, iba_nil⟩, B2.out⟩
    | true =>
      rw [hsq] at SQ
      have HSQ := hid hsq
      have hsq2 := hsq
      rw [Bool.and_eq_true, decide_eq_true_eq] at hsq2
      have HXL := hid hsq2.2
      have HROW := hid (show ∀ j (hj : j < xss.length), xss[j].length = ys.length from fun j hj => (okM_at hsq2.1 j hj).1)
      have HYES := hid (fun h3 => sys_yes (a := xss) (b := ys) h6 HSQ.out h3)
      have HNO := hid (fun k (hk : k < ys.length) hv => sys_no3 (a := xss) (b := ys) hk hv)
      have HAL := hid ((aug_len xss ys).trans hsq2.2)
      have HAR := hid (show ∀ j (hj : j < (aug xss ys).length), (aug xss ys)[j].length = ys.length + 1 from aug_row xss ys HROW.out hsq2.2)
      have HAT := hid (fun k (hk : k < (aug xss ys).length) (h1 : k < xss.length) (h2 : k < ys.length) => aug_at xss ys k hk h1 h2)
      clear hsq hsq2 h h' hR HSQ
      have hlen : ((ys.length : Nat) : Int) = ys.length := rfl
      go_enter Try.func17, Try.ntmps17
      go_wp2_with fail
      with_reducible refine SQ.out.mono ?_
      rintro e w1 ⟨rfl, hb⟩
      have B1 := hid hb
      have s1 := hb.size
      clear hb SQ
      have G1 := hid (gownq_lit w1 w.heap.size s1)
      have B2 := hid (B1.out.alloc s1 (.cells #[] tQ))
      go_wp2_with fail
      go_loopw [7, 8] (fun v i wr => ∃ (k : Nat) (av : Option Addr) (cv : Nat) (us : List Value), k ≤ ys.length ∧ i = .int .i64 k ∧ v = .slice av k cv ∧ Hid (okTo ys k) ∧ Hid (GOwnQ wr w.heap.size tQ tR (.slice av k cv) us ((aug xss ys).take k)) ∧ Hid (Below w.heap.size w wr)) (fun _ i _ => ys.length - (intOf i).toNat)
      case atStart => exact ⟨0, _, _, [], Nat.zero_le _, rfl, rfl, hid (fun j _ hj => by omega), hid (by rw [List.take_zero]; exact G1.out), B2⟩
      case round =>
        obtain ⟨k, av, cv, us, hk, rfl, rfl, hok, hg, hb⟩ := hrel
        clear G1 B1 B2
        have hsz := hb.out.size
        by_cases hlt : k < ys.length
        · have hkx : k < xss.length := by have := HXL.out; omega
          have hka : k < (aug xss ys).length := by have := HAL.out; omega
          obtain ⟨b2, off2, rfl, _, hbB2, d0, d1⟩ := rats_at (HE'.out.grow good_rat hb.out hh') k hlt
          have hyb := HYB.out k hlt
          have V := hid (fun W => spec_valid ys[k].1 ys[k].2 W hyb.1.1 hyb.1.2 hyb.2.1 hyb.2.2)
          have hlt' : (k : Int) < (ys.length : Int) := by omega
          have h0' : (0 : Int) ≤ (k : Int) := by omega
          cases hv : vr ys[k].1 ys[k].2 with
          | false =>
            rw [hv] at V
            have HN := hid (HNO.out k hlt hv)
            clear hv
            go_wp2_with fail
            with_reducible refine (V.out _).mono ?_
            rintro e w2 ⟨rfl, hb1⟩
            have B2 := hid (hb.out.trans (hb1.mono hsz))
            have s2 := B2.out.size
            clear hb1
            have B2 := hid (B2.out.alloc (by omega) (.cells #[] 35))
            have HL := hid (show OwnR (w2.alloc (.cells #[] 35)) w.heap.size 35 (.slice (some ⟨w2.heap.size, 0, none⟩) 0 0) [] from ownR_lit _ w.heap.size 35 (by omega))
            go_wp2_with fail
            go_ret2
            exact ⟨_, 0, by rw [HN.out]; rfl, by rw [HN.out]; exact ⟨HL.out, iba_nil⟩, B2.out⟩
          | true =>
            rw [hv] at V
            have HOK := hid (okTo_step hok.out hlt hv)
            clear hv hok
            go_wp2_with fail
            with_reducible refine (V.out _).mono ?_
            rintro e w2 ⟨rfl, hb1⟩
            have B2 := hid (hb.out.trans (hb1.mono hsz))
            have s2 := B2.out.size
            have G2 := hid (hg.out.below' hb1)
            clear hb1 hg hb d0 d1 V
            have hAT := HAT.out k hka hkx hlt
            obtain ⟨b1, off1, aj, capj, rfl, _, hbB, g, rx, _, _⟩ := mat_at (HE.out.grow good_row2 B2.out hh) k hkx
            rw [HROW.out k hkx] at g
            obtain ⟨b2', off2', he2, _, hbB2', d0, d1⟩ := rats_at (HE'.out.grow good_rat B2.out hh') k hlt
            simp only [Option.some.injEq, Addr.mk.injEq, and_true] at he2
            obtain ⟨rfl, rfl⟩ := he2
            obtain ⟨y, hy⟩ : ∃ z, ys[k] = z := ⟨_, rfl⟩
            obtain ⟨r, hr⟩ : ∃ z, xss[k] = z := ⟨_, rfl⟩
            rw [hy] at d0 d1 hyb hAT
            rw [hr] at rx hAT
            have hrl : r.length = ys.length := by rw [← hr]; exact HROW.out k hkx
            have RX := hid (rx.up good_rat (Nat.zero_le _) (show hi ≤ w2.heap.size by omega))
            have HRI := hid (els_iba rx)
            have HAT2 := hid hAT
            have HRL := hid hrl
            have hr6 : r.length ≤ 6 := by omega
            have HYI := hid hyb
            have hr0 : 0 < r.length := by omega
            have hkx' : (k : Int) < (xss.length : Int) := by omega
            have HTK := hid (show ((aug xss ys).take (k + 1)).length = k + 1 by rw [List.length_take]; omega)
            have hrn : Hid (ys.length = r.length) := hid hrl.symm
            have hbB3 : b1 < w2.heap.size := by omega
            have hbB4 : b2 < w2.heap.size := by omega
            have HU := hid (fun u' (hu : u' ∈ us) q (hq : u'.ownBlock = some q) => by
              obtain ⟨j, hj⟩ := List.getElem?_of_mem hu
              exact (G2.out.lt_row hj q hq).2)
            -- the first list's literal, in the three orders; the second's
            have A1 := hid (show OwnR (w2.drew.alloc (.cells #[] tR)) w2.heap.size tR (.slice (some ⟨w2.heap.size, 0, none⟩) 0 0) [] from ownR_lit w2.drew w2.heap.size tR (Nat.le_refl _))
            have A2 := hid (show OwnR ((w2.drew.alloc (.cells #[] tR)).alloc (.cells #[.int .i64 y.1, .int .i64 y.2] tR)) w2.heap.size tR (.slice (some ⟨w2.heap.size, 0, none⟩) 0 0) [] from A1.out.below' ((Below.refl _ _).alloc (Nat.le_refl _) _))
            have A3 := hid (show OwnR ((w2.drew.alloc (.cells #[.int .i64 y.1, .int .i64 y.2] tR)).alloc (.cells #[] tR)) w2.heap.size tR (.slice (some ⟨w2.heap.size + 1, 0, none⟩) 0 0) [] from by
              have := ownR_lit (w2.drew.alloc (.cells #[.int .i64 y.1, .int .i64 y.2] tR)) w2.heap.size tR (by simp)
              simp only [World.size_alloc] at this; exact this)
            have D1 := hid ((Below.refl w2.heap.size w2).drew.alloc (Nat.le_refl _) (.cells #[] tR))
            have D2 := hid (D1.out.alloc (by simp) (.cells #[.int .i64 y.1, .int .i64 y.2] tR))
            have D3 := hid (((Below.refl w2.heap.size w2).drew.alloc (Nat.le_refl _) (.cells #[.int .i64 y.1, .int .i64 y.2] tR)).alloc (by simp) (.cells #[] tR))
            have R1 := hid (RX.out.keep good_rat (sm_below D1.out (Nat.le_refl _)))
            have R2 := hid (RX.out.keep good_rat (sm_below D2.out (Nat.le_refl _)))
            have R3 := hid (RX.out.keep good_rat (sm_below D3.out (Nat.le_refl _)))
            have E2 := hid (show HasL ((w2.drew.alloc (.cells #[] tR)).alloc (.cells #[.int .i64 y.1, .int .i64 y.2] tR)) (w2.heap.size + 1) [.int .i64 y.1, .int .i64 y.2] from by
              have := hasl_new (w2.drew.alloc (.cells #[] tR)) [.int .i64 y.1, .int .i64 y.2] tR
              simp only [World.size_alloc] at this; exact this)
            have E3 := hid (show HasL ((w2.drew.alloc (.cells #[.int .i64 y.1, .int .i64 y.2] tR)).alloc (.cells #[] tR)) w2.heap.size [.int .i64 y.1, .int .i64 y.2] from (hasl_new w2.drew [.int .i64 y.1, .int .i64 y.2] tR).alloc _)
            clear rx hyb hAT hrl hy hr
            go_wp2_with fail
            go_region_law (first
              | (refine step_app rfl _ _ 25 rfl w2.heap.size tR i0 Try.underlying25 hi0 hz0 hz1 hz2 _ [] r A1.out (by rfl) 0 _ ys.length capj aj (by rfl) hrn.out R1.out hr0 (by simp) (by simp; omega) ?_; intro v1 w3 hown hgr; have O3 := hid (show OwnR w3 w2.heap.size tR v1 r from hown); have D4 := hid (D1.out.trans (below_of hgr (by simp) (fun q hq => by simp [Value.ownBlock] at hq; omega))); have s3 := D4.out.size; have hh3 := (D4.out.cell (p := ⟨b2, off2 + k * 2, none⟩) hbB4).trans d0; have hh4 := (D4.out.cell (p := ⟨b2, off2 + k * 2 + 1, none⟩) hbB4).trans d1; clear hown hgr)
              | (refine step_app rfl _ _ 25 rfl w2.heap.size tR i0 Try.underlying25 hi0 hz0 hz1 hz2 _ [] r A2.out (by rfl) 0 _ ys.length capj aj (by rfl) hrn.out R2.out hr0 (by simp; omega) (by simp; omega) ?_; intro v1 w3 hown hgr; have O3 := hid (show OwnR w3 w2.heap.size tR v1 r from hown); have D4 := hid (D2.out.trans (below_of hgr (by simp; omega) (fun q hq => by simp [Value.ownBlock] at hq; omega))); have s3 := D4.out.size; have L3 := hid (hasl_grown E2.out hgr (by simp [Value.ownBlock])); clear hown hgr)
              | (refine step_app rfl _ _ 25 rfl w2.heap.size tR i0 Try.underlying25 hi0 hz0 hz1 hz2 _ [] r A3.out (by rfl) 0 _ ys.length capj aj (by rfl) hrn.out R3.out hr0 (by simp; omega) (by simp; omega) ?_; intro v1 w3 hown hgr; have O3 := hid (show OwnR w3 w2.heap.size tR v1 r from hown); have D4 := hid (D3.out.trans (below_of hgr (by simp; omega) (fun q hq => by simp [Value.ownBlock] at hq; omega))); have s3 := D4.out.size; have L3 := hid (hasl_grown E3.out hgr (by simp [Value.ownBlock])); clear hown hgr)
              | (refine step_app rfl _ _ 25 rfl w2.heap.size tR i0 Try.underlying25 hi0 hz0 hz1 hz2 v1 r [y] O3.out (by rfl) 0 _ 1 1 _ (by rfl) rfl (els_lit L3.out HYI.out) (by simp) s3 (by simp; omega) ?_; intro v2 w4 hown hgr; have O4 := hid (show OwnQ w4 w2.heap.size tR v2 (r ++ [y]) from ⟨hown, iba_snoc HRI.out HYI.out⟩); obtain ⟨a4, c4, hv4, _⟩ := O4.out.form; rw [List.length_append, List.length_singleton, HRL.out] at hv4; subst hv4; have D5 := hid (D4.out.trans (below_of hgr s3 (fun q hq => (O3.out.lt q hq).1))); clear hown hgr)
              | (refine step_app rfl _ _ 25 rfl w2.heap.size tR i0 Try.underlying25 hi0 hz0 hz1 hz2 v1 r [y] (O3.out.below' ((Below.refl _ _).alloc (Nat.le_refl _) _)) (by rfl) 0 _ 1 1 _ (by rfl) rfl (els_lit (hasl_new w3 [.int .i64 y.1, .int .i64 y.2] tR) HYI.out) (by simp) (by simp; omega) (by simp; omega) ?_; intro v2 w4 hown hgr; have O4 := hid (show OwnQ w4 w2.heap.size tR v2 (r ++ [y]) from ⟨hown, iba_snoc HRI.out HYI.out⟩); obtain ⟨a4, c4, hv4, _⟩ := O4.out.form; rw [List.length_append, List.length_singleton, HRL.out] at hv4; subst hv4; have D5 := hid ((D4.out.alloc s3 (.cells #[.int .i64 y.1, .int .i64 y.2] tR)).trans (below_of hgr (by simp; omega) (fun q hq => (O3.out.lt q hq).1))); clear hown hgr)
              | (refine step_headQ rfl _ _ 24 rfl tQ tR tQR i1 Try.underlying24 hi1 hy0 hy1 hy2 w4 w.heap.size (.slice av k cv) (.slice a4 (ys.length + 1) c4) us ((aug xss ys).take k) (r ++ [y]) (by rfl) (G2.out.below' D5.out) (O4.out.mono s2) (fun u' hu q hq hq2 => by have t1 := (O4.out.lt q hq).1; have t2 := HU.out u' hu q hq2; omega) (by rfl) (by simp; omega) (Nat.le_trans s2 D5.out.size) ?_; intro v3 w5 hg5 hgr5; have G5 := hid hg5; have D6 := hid (below_of hgr5 (Nat.le_trans s2 D5.out.size) (fun q hq => (G2.out.lt q hq).1)); clear hg5 hgr5))
            all_goals
              have F5 := hid (show GOwnQ w5 w.heap.size tQ tR v3 (us ++ [.slice a4 (ys.length + 1) c4]) ((aug xss ys).take (k + 1)) by rw [List.take_succ_eq_append_getElem hka, HAT2.out]; exact G5.out)
              obtain ⟨a3, c3, hv3, _⟩ := F5.out.form
              rw [HTK.out] at hv3
              subst hv3
              have B5 := hid ((B2.out.trans (D5.out.mono s2)).trans D6.out)
              clear G5 D6 D5 O4 A1 A2 A3 D1 D2 D3 R1 R2 R3 E2 E3
              go_wp2_with fail
              go_roundw
              case rel => exact ⟨k + 1, a3, c3, _, by omega, by go_num, rfl, HOK, F5, B5⟩
              case measure => simp [intOf]; omega
        · have hlt' : ¬ (k : Int) < (ys.length : Int) := by omega
          have e : k = ys.length := by omega
          subst e
          have HS := hid (HYES.out hok.out)
          have HG := hid (show GOwnQ wr w.heap.size tQ tR (.slice av ys.length cv) us (aug xss ys) by
            have := hg.out
            rw [List.take_of_length_le (by rw [HAL.out]; exact Nat.le_refl _)] at this
            exact this)
          have hN6 : ys.length ≤ 6 := h6
          clear hok HYES HNO HAT HE HE' HYB HROW HXL hg
          generalize aug xss ys = A at HS HG HAL HAR
          obtain ⟨wb, hwb⟩ : ∃ wo : World, wo = wr := ⟨_, rfl⟩
          generalize ys.length = N at *
          go_wp2_with fail
          go_loopw [9, 10, 11] (fun i _ _ wr => ∃ (p : Nat) (m : MatD) (us : List Value), p ≤ N ∧ i = .int .i64 p ∧ Hid (gj A N p = some m) ∧ Hid (m.length = N) ∧ Hid (∀ j (hj : j < m.length), m[j].length = N + 1) ∧ Hid (GOwnQ wr w.heap.size tQ tR (.slice av N cv) us m) ∧ Hid (Below w.heap.size w wr)) (fun i _ _ _ => N - (intOf i).toNat)
          case atStart => exact ⟨0, A, us, Nat.zero_le _, rfl, hid rfl, HAL, HAR, HG, hb⟩
          case round =>
            obtain ⟨p, m, us2, hp, rfl, hgj, hml, hmr, hg, hbb⟩ := hrel
            clear HG hwb hb hsz HAR HAL
            have sb := hbb.out.size
            by_cases hltp : p < N
            · have hltp' : (p : Int) < (N : Int) := by omega
              have h0p : (0 : Int) ≤ (p : Int) := by omega
              have hpm : p < m.length := by have := hml.out; omega
              obtain ⟨g, rfl, hlg⟩ := gownq_at hg.out (by omega)
              go_wp2_with fail
              obtain ⟨w5, rfl⟩ : ∃ wo : World, wo = wr := ⟨_, rfl⟩
              go_loopw [10] (fun i wr => ∃ k : Nat, p ≤ k ∧ k ≤ N ∧ i = .int .i64 k ∧ w5 = wr ∧ Hid (piv m p (N - p) p = piv m p (N - k) k)) (fun i _ => N - (intOf i).toNat)
              case atStart => exact ⟨p, Nat.le_refl _, hp, rfl, rfl, hid rfl⟩
              case round =>
                obtain ⟨k, hpk, hkN, rfl, rfl, hpv⟩ := hrel
                by_cases hltk : k < N
                · have hkm : k < m.length := by have := hml.out; omega
                  have hpk2 : p < m[k].length := by rw [hmr.out k hkm]; omega
                  obtain ⟨bk, capk, hvk, hlb, hlc⟩ := row_block hg.out k hkm (by omega)
                  have hck := (hg.out.cellAt k hkm).trans hvk
                  rw [Nat.zero_add, hmr.out k hkm] at hck
                  rw [hmr.out k hkm] at hvk
                  obtain ⟨c0, c1, f0, f1⟩ := row_cells (row_own hg.out k hkm hvk) p hpk2
                  have hltk' : (k : Int) < (N : Int) := by omega
                  have h0k : (0 : Int) ≤ (k : Int) := by omega
                  have hpN1 : (p : Int) < (N : Int) + 1 := by omega
                  have hN1 : N - k = (N - (k + 1)) + 1 := by omega
                  have HGET := hid (show (m.getD k []).getD p (0, 0) = m[k][p] by rw [getD_at hkm, getR_at hpk2])
                  have HVK := hid hvk
                  clear hvk f0 f1 c1
                  by_cases hz : m[k][p].1 = 0
                  · have hq : (m[k][p].1 == 0) = true := by simp [hz]
                    have HNX := hid (hpv.out.trans (show piv m p (N - k) k = piv m p (N - (k + 1)) (k + 1) by rw [hN1]; exact piv_next (by rw [HGET.out]; exact hz)))
                    clear hz hpv
                    go_wp2_with fail
                    go_roundw
                    case rel => exact ⟨k + 1, by omega, by omega, by go_num, by first | rfl | trivial, HNX⟩
                    case measure => simp [intOf]; omega
                  · have hq : (m[k][p].1 == 0) = false := by simp [hz]
                    have HPV := hid (hpv.out.trans (show piv m p (N - k) k = some k by rw [hN1]; exact piv_some (by rw [HGET.out]; exact hz)))
                    have HGS := hid (gj_step hgj.out HPV.out)
                    have hkn : ((k : Int) == (N : Int)) = false := by simp only [beq_eq_false_iff_ne, ne_eq]; omega
                    obtain ⟨ap, capp, hvp, hlp⟩ := row_head hg.out p hpm
                    have hcp := (hg.out.cellAt p hpm).trans hvp
                    rw [Nat.zero_add, hmr.out p hpm] at hcp
                    rw [hmr.out p hpm] at hvp
                    have SW0 := gownq_swap hg.out hml.out.symm tQR k p hkm hpm _ _ HVK.out hvp
                    rw [swp_comm m p k hpm hkm] at SW0
                    have SW := hid SW0
                    have hfp := hg.out.free p
                    have hfk := hg.out.free k
                    rw [Nat.zero_add] at hfp hfk
                    have BW := hid ((hbb.out.setCell (p := ⟨g, k, none⟩) hlg (.slice ap (N + 1) capp)).setCell (p := ⟨g, p, none⟩) hlg (.slice (some ⟨bk, 0, none⟩) (N + 1) capk))
                    obtain ⟨x2, e2⟩ : ∃ x2, (w5.setCell ⟨g, k, none⟩ (.slice ap (N + 1) capp)).cell? ⟨g, p, none⟩ = some x2 := by
                      by_cases e : k = p
                      · subst e; exact ⟨_, World.cell?_setCell_same _ _ _ hck⟩
                      · exact ⟨_, (World.cell?_setCell_other _ _ _ _ (by first | (simp; done) | (simp; omega))).trans hcp⟩
                    have f2 : (w5.setCell ⟨g, k, none⟩ (.slice ap (N + 1) capp)).frozen? ⟨g, p, none⟩ = false := by rw [World.frozen?_setCell]; exact hfp
                    have HSL := hid ((swp_len m p k).trans hml.out)
                    have HSR := hid (swp_row (n := N + 1) hpm hkm hmr.out)
                    clear hz hpv hvp SW0 hlp
                    go_wp2_with fail
                    generalize hW6 : (w5.setCell ⟨g, k, none⟩ (.slice ap (N + 1) capp)).setCell ⟨g, p, none⟩ (.slice (some ⟨bk, 0, none⟩) (N + 1) capk) = w6 at SW BW
                    have s6 := BW.out.size
                    have CL := hid (spec_clr g cv p N _ (swp m p k) w6 w.heap.size (by omega) hltp HSL.out HSR SW.out s6)
                    clear hW6 e2 f2 hck hcp hfp hfk c0
                    cases hcl : clr (swp m p k) p (N + 1 - p) N with
                    | none =>
                      rw [hcl] at CL
                      have HN := hid (show solQ xss ys = none by rw [HS.out, gj_none (HGS.out.trans hcl) (show p + 1 ≤ N by omega)]; rfl)
                      clear hcl
                      with_reducible refine CL.out.mono ?_
                      rintro e w7 ⟨rfl, _, hb7⟩
                      have B7 := hid (BW.out.trans hb7)
                      have s7 := B7.out.size
                      clear hb7
                      have B2 := hid (B7.out.alloc (by omega) (.cells #[] 35))
                      have HL := hid (show OwnR (w7.alloc (.cells #[] 35)) w.heap.size 35 (.slice (some ⟨w7.heap.size, 0, none⟩) 0 0) [] from ownR_lit _ w.heap.size 35 (by omega))
                      go_wp2_with fail
                      go_ret2
                      exact ⟨_, 0, by rw [HN.out]; rfl, by rw [HN.out]; exact ⟨HL.out, iba_nil⟩, B2.out⟩
                    | some m2 =>
                      rw [hcl] at CL
                      have HNG := hid (HGS.out.trans hcl)
                      clear hcl
                      with_reducible refine CL.out.mono ?_
                      rintro e w7 ⟨rfl, hm2, hb7⟩
                      obtain ⟨hl4, hr4, hg4⟩ := hm2 m2 rfl
                      have B7 := hid (BW.out.trans hb7)
                      have G4 := hid hg4
                      have L4 := hid hl4
                      have R4 := hid hr4
                      clear hb7 hm2 hl4 hr4 hg4 CL
                      go_wp2_with fail
                      go_roundw
                      case rel => exact ⟨p + 1, m2, _, by omega, by go_num, HNG, L4, R4, G4, B7⟩
                      case measure => simp [intOf]; omega
                · have hltk' : ¬ (k : Int) < (N : Int) := by omega
                  have e : k = N := by omega
                  subst e
                  have hkn : ((k : Int) == (k : Int)) = true := by simp
                  have HN := hid (show solQ xss ys = none by
                    have h1 : piv m p (k - p) p = none := by rw [hpv.out, Nat.sub_self]; rfl
                    rw [HS.out, gj_none (gj_nopiv hgj.out h1) (show p + 1 ≤ k by omega)]; rfl)
                  clear hpv
                  have B2 := hid (hbb.out.alloc (by omega) (.cells #[] 35))
                  have HL := hid (show OwnR (w5.alloc (.cells #[] 35)) w.heap.size 35 (.slice (some ⟨w5.heap.size, 0, none⟩) 0 0) [] from ownR_lit _ w.heap.size 35 (by omega))
                  go_wp2_with fail
                  go_ret2
                  exact ⟨_, 0, by rw [HN.out]; rfl, by rw [HN.out]; exact ⟨HL.out, iba_nil⟩, B2.out⟩
            · have hltp' : ¬ (p : Int) < (N : Int) := by omega
              have e : p = N := by omega
              subst e
              have HQ := hid (show solQ xss ys = quo m p p by rw [HS.out, hgj.out]; rfl)
              have hlit := hid (show OwnR (wr.alloc (.cells #[] tR)) wr.heap.size tR (.slice (some ⟨wr.heap.size, 0, none⟩) 0 0) [] from ownR_lit wr wr.heap.size tR (Nat.le_refl _))
              have HB0 := hid ((Below.refl wr.heap.size wr).alloc (Nat.le_refl _) (.cells #[] tR))
              clear hgj HS
              go_wp2_with fail
              obtain ⟨wk, rfl⟩ : ∃ wo : World, wo = wr := ⟨_, rfl⟩
              go_loopw [12, 13, 14, 15] (fun v i _ _ wr => ∃ (k : Nat) (o : List RatD), k ≤ p ∧ i = .int .i64 k ∧ Hid (quo m p k = some o) ∧ Hid (OwnR wr wk.heap.size tR v o) ∧ Hid (Below wk.heap.size wk wr)) (fun _ i _ _ _ => p - (intOf i).toNat)
              case atStart => exact ⟨0, [], Nat.zero_le _, rfl, hid rfl, hlit, HB0⟩
              case round =>
                obtain ⟨k, o, hk2, rfl, hqu, hown, hbk⟩ := hrel
                clear hlit HB0
                have hsk := hbk.out.size
                have hol := hid (quo_len hqu.out)
                by_cases hltk : k < p
                · have hkm : k < m.length := by have := hml.out; omega
                  have hNl : p < m[k].length := by rw [hmr.out k hkm]; omega
                  have hkk : k < m[k].length := by rw [hmr.out k hkm]; omega
                  obtain ⟨g, rfl, hlg⟩ := gownq_at hg.out (by omega)
                  have GW := hid (hg.out.below' hbk.out)
                  obtain ⟨bk, capk, hvk, hlb, hlc⟩ := row_block GW.out k hkm (by omega)
                  have hck := (GW.out.cellAt k hkm).trans hvk
                  rw [Nat.zero_add, hmr.out k hkm] at hck
                  rw [hmr.out k hkm] at hvk
                  obtain ⟨c0, c1, f0, f1⟩ := row_cells (row_own GW.out k hkm hvk) p hNl
                  obtain ⟨d0, d1, g0, g1⟩ := row_cells (row_own GW.out k hkm hvk) k hkk
                  have hx := (row_own GW.out k hkm hvk).2 p hNl
                  have hy := (row_own GW.out k hkm hvk).2 k hkk
                  have hbkl := ((row_own GW.out k hkm hvk).lt bk rfl).2
                  have hgl := (GW.out.lt g rfl).2
                  have hst := quo_step hqu.out hkm hNl hkk
                  have A1 := hid (fun W => spec_divQ m[k][p] m[k][k] W hx.1 hx.2 hy.1 hy.2)
                  have HO1 := hid hst.1
                  have HO0 := hid hst.2
                  have hib := hid (divQ_ib m[k][p] m[k][k])
                  simp only [endQ_any] at A1
                  obtain ⟨z, hz⟩ : ∃ z, m[k][p] = z := ⟨_, rfl⟩
                  obtain ⟨y, hy2⟩ : ∃ y, m[k][k] = y := ⟨_, rfl⟩
                  rw [hz] at c0 c1
                  rw [hy2] at d0 d1
                  rw [hz, hy2] at A1 HO1 HO0 hib
                  generalize fstQ (divQ z y) = X at A1 HO1 HO0 hib
                  generalize sndQ (divQ z y) = Y at A1 HO1 HO0 hib
                  generalize okQ (divQ z y) = ok at A1 HO1 HO0
                  have hltk' : (k : Int) < (p : Int) := by omega
                  have h0k : (0 : Int) ≤ (k : Int) := by omega
                  have hN0 : (0 : Int) ≤ (p : Int) := by omega
                  have hN1 : (p : Int) < (p : Int) + 1 := by omega
                  have hk1 : (k : Int) < (p : Int) + 1 := by omega
                  have hk0 := kp_refl wr
                  clear hst hx hy hz hy2 f0 f1 g0 g1 hvk hlc GW
                  go_upto_region 28 with fail
                  go_cut [14, 15] (fun s5 s6 wx => ∃ g : Nat, s5 = .pointer (some ⟨g, 0, none⟩) ∧ s6 = .bool ok ∧ Has2 wx g (.int .i64 X) (.int .i64 Y) ∧ wr.heap.size ≤ g ∧ Kp wr 0 wx)
                  case first =>
                    go_region_held3 (fun w' => w'.cell? ⟨g, k, none⟩ = some (.slice (some ⟨bk, 0, none⟩) (p + 1) capk) ∧ w'.cell? ⟨bk, p * 2, none⟩ = some (.int .i64 z.1) ∧ w'.cell? ⟨bk, p * 2 + 1, none⟩ = some (.int .i64 z.2) ∧ w'.cell? ⟨bk, k * 2, none⟩ = some (.int .i64 y.1) ∧ w'.cell? ⟨bk, k * 2 + 1, none⟩ = some (.int .i64 y.2) ∧ Kp wr 0 w')
                      (first
                        | (go_split_ands
                           repeat' apply And.intro
                           all_goals (first | (with_reducible assumption) | (with_reducible exact cell_drew (by assumption)) | (with_reducible exact Kp.drew (by assumption)) | (with_reducible exact Kp.cell (by assumption) hb1 (by omega) (by assumption)) | (with_reducible exact Kp.call (by assumption) hb1) | (with_reducible exact Kp.cell_alloc (by assumption) _ (by omega) (by assumption)) | (with_reducible exact Kp.alloc (by assumption) _) | (with_reducible exact Kp.cell_alloc_drew (by assumption) _ (by omega) (by assumption)) | (with_reducible exact Kp.alloc_drew (by assumption) _) | (with_reducible exact Kp.reall (by assumption) (by omega) _) | (with_reducible exact cell_realloc (by omega) (by assumption) _) | (with_reducible exact cell_set (by assumption) (by omega)) | (with_reducible exact Kp.set (by assumption) (by omega) _ _))))
                      (first | (go_split_ands; go_at_call 66; (with_reducible refine (A1.out _).mono ?_); rintro e w1 ⟨rfl, hb1⟩; have hz0 := hb1.size; (try simp only [World.size_alloc] at hz0); have hz1 : wr.heap.size ≤ w1.heap.size := (by have hk0 : Kp wr 0 _ := (by with_reducible assumption); have hk1 := hk0.sz; (try simp only [World.size_alloc] at hk1); omega); (try (first | (with_reducible have HN := hid (new2_kept hb1)) | (with_reducible have HN := hid (new2_kept_drew hb1)))); (try (obtain ⟨m0, m1, mz, m2, m3⟩ := HN.out))))
                    all_goals
                      go_wp2_with fail
                      go_meet
                      go_split_ands
                      first
                        | exact ⟨_, rfl, rfl, has2_new _ _ _ _, by omega, by with_reducible assumption⟩
                        | exact ⟨_, rfl, rfl, has2_set HN.out, (by first | exact Nat.le_refl _ | omega), by with_reducible assumption⟩
                  case rest =>
                    obtain ⟨gs, rfl, rfl, hH, hgs, hkm2⟩ := hcut
                    obtain ⟨w6, rfl⟩ : ∃ wo : World, wo = wc := ⟨_, rfl⟩
                    have s6 := hkm2.sz
                    have B6 := hid (hbk.out.trans (hkm2.bel.mono hsk))
                    have O6 := hid (hown.out.below' hkm2.bel)
                    have X6 := hid (hasl_of2 hH)
                    obtain ⟨n0, n1, n2, n3, n4⟩ := X6.out.two
                    clear hH hkm2 hk0 A1 c0 c1 d0 d1 hown hbk hck
                    cases ok with
                    | false =>
                      have HN := hid (show solQ xss ys = none from HQ.out.trans (quo_none (HO0.out (by first | rfl | trivial)) (show k + 1 ≤ p by omega)))
                      have B7 := hid (hbb.out.trans (B6.out.mono sb))
                      have s7 := B7.out.size
                      clear HO0 HO1 hqu hol
                      have B2 := hid (B7.out.alloc (by omega) (.cells #[] 35))
                      have HL := hid (show OwnR (w6.alloc (.cells #[] 35)) w.heap.size 35 (.slice (some ⟨w6.heap.size, 0, none⟩) 0 0) [] from ownR_lit _ w.heap.size 35 (by omega))
                      go_wp2_with fail
                      go_ret2
                      exact ⟨_, 0, by rw [HN.out]; rfl, by rw [HN.out]; exact ⟨HL.out, iba_nil⟩, B2.out⟩
                    | true =>
                      have HM := hid (HO1.out (by first | rfl | trivial))
                      have holen : o.length ≤ 4398046511104 := by rw [hol.out]; omega
                      have hbase : wk.heap.size ≤ w6.heap.size := B6.out.size
                      clear HO0 HO1 hqu hol
                      go_wp2_with (at_builtin; refine append_rat rfl _ _ 25 rfl wk.heap.size tR i0 Try.underlying25 hi0 hz0 hz1 hz2 w6 _ o (X, Y) O6.out rfl hbase (by rfl) holen ?_)
                      intro v' w8 hO hB hz'
                      have HO := hid hO
                      have HB := hid (B6.out.trans hB)
                      clear hO hB O6 X6 n0 n1 n2 n3 n4
                      go_wp2_with fail
                      go_roundw
                      case rel => exact ⟨k + 1, _, by omega, by go_num, HM, HO, HB⟩
                      case measure => simp [intOf]; omega
                · have hltk' : ¬ (k : Int) < (p : Int) := by omega
                  have e : k = p := by omega
                  subst e
                  have HM := hid (show solQ xss ys = some o from HQ.out.trans hqu.out)
                  have hI := hid (quo_iba hqu.out)
                  obtain ⟨a0, c0, hf, _⟩ := hown.out.els hI.out
                  subst hf
                  have HE2 := hid (show OwnQ wr w.heap.size tR (.slice a0 o.length c0) o from (show OwnQ wr wk.heap.size tR (.slice a0 o.length c0) o from ⟨hown.out, hI.out⟩).mono sb)
                  have B9 := hid (hbb.out.trans (hbk.out.mono sb))
                  clear hown hqu hol
                  go_wp2_with fail
                  go_ret2
                  exact ⟨a0, c0, by rw [HM.out]; rfl, by rw [HM.out]; exact HE2.out, B9.out⟩
  · have t6 : (6 : Int) < (ys.length : Int) := by omega
    have HN := hid (sys_no1 (a := xss) h6)
    clear h h' hR
    go_enter Try.func17, Try.ntmps17
    have B2 := hid (B0.out.alloc (by omega) (.cells #[] 35))
    have HL := hid (show OwnR (w.alloc (.cells #[] 35)) w.heap.size 35 (.slice (some ⟨w.heap.size, 0, none⟩) 0 0) [] from ownR_lit _ w.heap.size 35 (by omega))
    go_wp2_with fail
    go_ret2
    exact ⟨_, 0, by rw [HN.out]; rfl, by rw [HN.out]; exact ⟨HL.out, iba_nil⟩, B2.out⟩
end Go.Proofs.Ytjnphlgmmjdeiaa.SolW
