/- The laws' own copies of their arguments, and that nothing has been frozen in them. -/
import Derived.Test.YtffhfnkcbgbliaaThaw
import Derived.Test.YtffhfnkcbgbliaaTableLaw
namespace Go.Proofs.Ytffhfnkcbgbliaa.ToF
open Go.RowKit
open Go.Proofs.Ytffhfnkcbgbliaa.Num Go.Proofs.Ytffhfnkcbgbliaa.IntRow Go.Proofs.Ytffhfnkcbgbliaa.IntLaw Go.Proofs.Ytffhfnkcbgbliaa.Grid Go.Proofs.Ytffhfnkcbgbliaa.GridMore Go.Proofs.Ytffhfnkcbgbliaa.GridLaw Go.Proofs.Ytffhfnkcbgbliaa.GridLaw2 Go.Proofs.Ytffhfnkcbgbliaa.RelLaw Go.Proofs.Ytffhfnkcbgbliaa.RelKit Go.Proofs.Ytffhfnkcbgbliaa.Rdr Go.Proofs.Ytffhfnkcbgbliaa.Dat Go.Proofs.Ytffhfnkcbgbliaa.HasL Go.Proofs.Ytffhfnkcbgbliaa.TableLaw Go.Proofs.Ytffhfnkcbgbliaa.Keep Go.Proofs.Ytffhfnkcbgbliaa.Kept Go.Proofs.Ytffhfnkcbgbliaa.Cells Go.Proofs.Ytffhfnkcbgbliaa.Thaw
set_option linter.unusedVariables false

theorem to_intsF (a : Option Addr) (cap B : Nat) (xs : List Int) (w : World) (hn : xs.length ≤ 1048576) (h : Rd w B a xs) (hB : B ≤ w.heap.size) :
    Calls Try.prog 28 #[.slice a xs.length cap] w fun e w' => e = .returned (.slice (some ⟨w.heap.size, 0, none⟩) xs.length xs.length) ∧ At w' w.heap.size 3 xs.length xs ∧ BF w.heap.size w w' := by
  obtain ⟨i0, hi, hz0, hz1, hz2⟩ := info_parts IntLaw.info
  have hmk := make_ints (P := Try.prog) w 22 3 i0 Try.underlying22 hi hz0 hz1 hz2 xs.length (by omega)
  have hat0 := hid (at_made w 3 xs.length (by omega))
  go_enter Try.func28, Try.ntmps28
  go_wp2
  go_loopw [4] (fun i wr => ∃ k : Nat, k ≤ xs.length ∧ i = .int .i64 k ∧ At wr w.heap.size 3 xs.length (filled xs k) ∧ BF w.heap.size w wr) (fun i _ => xs.length - (intOf i).toNat)
  case atStart => exact ⟨0, Nat.zero_le _, rfl, by rw [filled_zero]; exact hat0.out, (BF.refl _ _).alloc (Nat.le_refl _) _⟩
  case round =>
    obtain ⟨k, hk, rfl, hat, hb⟩ := hrel
    have hfl := filled_length xs k hk
    by_cases hlt : k < xs.length
    · obtain ⟨b, off, rfl, hbB, hc⟩ := (h.below (hb.mono hB).toBelow) (by omega)
      have g := hc k hlt
      obtain ⟨u, c1⟩ : ∃ u, wr.cell? ⟨w.heap.size, k, none⟩ = some u := ⟨_, hat.cell k (by omega)⟩
      have c2 := hat.free k
      have hset := hid (hat.set k xs[k])
      rw [filled_step xs k hlt] at hset
      clear hat hfl hc h hmk
      go_wp2
      go_roundw
      case rel => exact ⟨k + 1, by omega, by go_num, hset.out, hb.setCell (Nat.le_refl _) _⟩
      case measure => simp [intOf]; omega
    · have e : k = xs.length := by omega
      subst e
      rw [filled_all] at hat
      clear hmk
      go_wp2
      go_ret
      exact ⟨rfl, hat, hb⟩

theorem to_ssF (a : Option Addr) (cap B : Nat) (xss : List (List Int)) (w : World) (hn : tot xss ≤ 1048576) (h : GRd w B a xss) (hB : B ≤ w.heap.size) :
    Calls Try.prog 35 #[.slice a xss.length cap] w fun e w' => ∃ vs, e = .returned (.slice (some ⟨w.heap.size, 0, none⟩) xss.length xss.length) ∧ GOwn w' w.heap.size eR eI (.slice (some ⟨w.heap.size, 0, none⟩) xss.length xss.length) vs xss ∧ BF w.heap.size w w' := by
  have hn1 : xss.length ≤ 1048576 := by have := tot_len xss; omega
  obtain ⟨i0, hi, hz0, hz1, hz2⟩ := info_parts GridLaw.info
  have hmk := make_rows (P := Try.prog) w 23 22 i0 Try.underlying23 hi hz0 hz1 hz2 xss.length (by omega)
  have hat0 := hid (rows_made w 22 3 xss.length (by omega))
  go_enter Try.func35, Try.ntmps35
  go_wp2
  go_loopw [4] (fun i wr => ∃ (k : Nat) (vs : List Value), k ≤ xss.length ∧ i = .int .i64 k ∧ Hid (GOwn wr w.heap.size eR eI (.slice (some ⟨w.heap.size, 0, none⟩) xss.length xss.length) vs (filledS xss k)) ∧ Hid (BF w.heap.size w wr)) (fun i _ => xss.length - (intOf i).toNat)
  case atStart => exact ⟨0, _, Nat.zero_le _, rfl, hid (by rw [filledS_zero]; exact hat0.out), hid ((BF.refl _ _).alloc (Nat.le_refl _) _)⟩
  case round =>
    obtain ⟨k, vs, hk, rfl, hown, hb⟩ := hrel
    have hfl := filledS_length xss k hk
    clear hmk
    by_cases hlt : k < xss.length
    · obtain ⟨b, off, rfl, hbB, hc⟩ := (h.below (hb.out.mono hB).toBelow) (by omega)
      obtain ⟨aj, capj, g, r⟩ := hc k hlt
      have hrow : xss[k].length ≤ 1048576 := by have := row_le xss k hlt; omega
      have hsz := hb.out.size
      have T := hid (to_intsF aj capj B xss[k] wr hrow r (by omega))
      clear hc h r
      go_wp2_with fail
      refine T.out.mono ?_
      rintro e w1 ⟨rfl, hat, hb1⟩
      have O1 := hown.out.below' hb1.toBelow
      have hlt1 := hown.out.lt w.heap.size rfl
      have U := hat.own (Nat.le_refl _)
      have hst := hid (gown_store O1 hfl.symm eRI k (by omega) (U.mono hsz) (fun i u' m hne hu hm hm' => by
        have h1 := (hown.out.lt_row hu m hm').2
        simp [Value.ownBlock] at hm
        omega))
      rw [filledS_step xss k hlt] at hst
      obtain ⟨u, c1⟩ : ∃ u, w1.cell? ⟨w.heap.size, k, none⟩ = some u := by
        have hjv : k < vs.length := by rw [hown.out.len, filledS_length xss k hk]; exact hlt
        have hca := O1.cellAt k (by rw [filledS_length xss k hk]; exact hlt)
        rw [Nat.zero_add, List.getElem?_eq_getElem hjv] at hca
        exact ⟨_, hca⟩
      have c2 := O1.free k
      rw [Nat.zero_add] at c2
      have HB := hid ((hb.out.trans (hb1.mono hsz)).setCell (p := ⟨w.heap.size, k, none⟩) (Nat.le_refl _) (.slice (some ⟨wr.heap.size, 0, none⟩) xss[k].length xss[k].length))
      clear O1 U hat hb1 hfl
      go_wp2_with fail
      go_roundw
      case rel => exact ⟨k + 1, _, by omega, by go_num, hst, HB⟩
      case measure => simp [intOf]; omega
    · have e : k = xss.length := by omega
      subst e
      have HO := hown.out
      rw [filledS_all] at HO
      have HO2 := hid HO
      clear h HO hfl hown
      go_wp2
      go_ret
      exact ⟨vs, rfl, HO2.out, hb.out⟩

theorem to_relF (n : Int) (a : Option Addr) (cap B : Nat) (xss : List (List Int)) (w : World) (hn : tot xss ≤ 1048576) (h : GRd w B a xss) (hB : B ≤ w.heap.size) :
    Calls Try.prog 13 #[.agg #[.int .i64 n, .slice a xss.length cap]] w fun e w' => ∃ vs g, e = .returned (.agg #[.int .i64 n, .slice (some ⟨g, 0, none⟩) xss.length xss.length]) ∧ w.heap.size ≤ g ∧ GOwn w' g eR eI (.slice (some ⟨g, 0, none⟩) xss.length xss.length) vs xss ∧ BF w.heap.size w w' := by
  have K1 := hid (has2_new (w.alloc (.cells #[.int .i64 n, .slice a xss.length cap] 25)) (.int .i64 0) (.slice none 0 0) 30)
  have K2 := hid (has2_new ((w.alloc (.cells #[.int .i64 n, .slice a xss.length cap] 25)).alloc (.cells #[.int .i64 0, .slice none 0 0] 30)) (.int .i64 n) (.slice none 0 0) 30)
  have B3 := hid ((((BF.refl w.heap.size w).alloc (Nat.le_refl _) (.cells #[.int .i64 n, .slice a xss.length cap] 25)).alloc (by simp) (.cells #[.int .i64 0, .slice none 0 0] 30)).alloc (by simp; omega) (.cells #[.int .i64 n, .slice none 0 0] 30))
  have K1s := hid (K1.out.alloc (.cells #[.int .i64 n, .slice none 0 0] 30))
  have T := hid (to_ssF a cap B xss _ hn (h.below (B3.out.mono hB).toBelow) (by simp; omega))
  simp only [World.size_alloc] at K1s K2
  clear h K1
  go_enter Try.func13, Try.ntmps13
  go_wp2_with fail
  refine T.out.mono ?_
  rintro e w1 ⟨vs, rfl, hown, hb⟩
  have hs1 := hb.size
  simp only [World.size_alloc] at hs1 hown hb ⊢
  obtain ⟨p0, p1, p2, p3, p4⟩ := K1s.out.below (hb.mono (by first | exact Nat.le_refl _ | simp)).toBelow
  obtain ⟨q0, q1, q2, q3, q4⟩ := K2.out.below (hb.mono (by first | exact Nat.le_refl _ | simp)).toBelow
  have HO := hid hown
  have HB := hid (B3.out.trans (hb.mono (by omega)))
  have hr0 : (((w1.setCell ⟨w.heap.size + 1 + 1, 1, none⟩ (.slice (some ⟨w.heap.size + 1 + 1 + 1, 0, none⟩) xss.length xss.length)).setCell ⟨w.heap.size + 1, 0, none⟩ (.int .i64 n)).setCell ⟨w.heap.size + 1, 1, none⟩ (.slice (some ⟨w.heap.size + 1 + 1 + 1, 0, none⟩) xss.length xss.length)).cell? ⟨w.heap.size + 1, 0, none⟩ = some (.int .i64 n) := by
    rw [World.cell?_setCell_other _ _ _ _ (by simp)]
    refine World.cell?_setCell_same _ _ _ (u := .int .i64 0) ?_
    rw [World.cell?_setCell_other _ _ _ _ (by simp)]
    exact p0
  have hr1 : (((w1.setCell ⟨w.heap.size + 1 + 1, 1, none⟩ (.slice (some ⟨w.heap.size + 1 + 1 + 1, 0, none⟩) xss.length xss.length)).setCell ⟨w.heap.size + 1, 0, none⟩ (.int .i64 n)).setCell ⟨w.heap.size + 1, 1, none⟩ (.slice (some ⟨w.heap.size + 1 + 1 + 1, 0, none⟩) xss.length xss.length)).cell? ⟨w.heap.size + 1, 1, none⟩ = some (.slice (some ⟨w.heap.size + 1 + 1 + 1, 0, none⟩) xss.length xss.length) := by
    refine World.cell?_setCell_same _ _ _ (u := .slice none 0 0) ?_
    rw [World.cell?_setCell_other _ _ _ _ (by simp), World.cell?_setCell_other _ _ _ _ (by simp)]
    exact p1
  clear hown hb
  go_wp2
  refine bodyPost_ret (v := .agg #[.int .i64 n, .slice (some ⟨w.heap.size + 1 + 1 + 1, 0, none⟩) xss.length xss.length]) (by simp [results, Try.results13, go_sem, hr0, hr1]) rfl ⟨vs, _, rfl, by omega, ?_, ?_⟩
  · exact gown_turned (lo := w.heap.size) (hi := w.heap.size + 1 + 1 + 1) HO.out ⟨rfl, rfl, rfl, by simp, fun k hk hkk => by
      rw [Below.heap_setCell _ _ _ _ (by simp; omega), Below.heap_setCell _ _ _ _ (by simp; omega), Below.heap_setCell _ _ _ _ (by simp; omega)]⟩ (.inl (Nat.le_refl _))
  · exact ((HB.out.setCell (by simp; omega) _).setCell (by simp) _).setCell (by simp) _

set_option maxRecDepth 100000 in
theorem to_tableF (cs : List Value) (x : TableD) (lo hi : Nat) (w : World) (hs : szT x ≤ 1048576) (h : rTable w lo hi cs x) (hh : hi ≤ w.heap.size) :
    Calls Try.prog 68 #[.agg cs.toArray] w fun e w' => ∃ ds : List Value, e = .returned (.agg ds.toArray) ∧ rTable w' w.heap.size w'.heap.size ds x ∧ BF w.heap.size w w' := by
  obtain ⟨a, cap, rfl, hz1, hz2, hels⟩ := table_open h
  have hx := hid (len_of hels)
  have hrd := grd_of hels
  have hn : tot x.2.2 ≤ 1048576 := by rw [← szG_tot]; unfold szT at hs; omega
  have K1 := hid ((hasl_new (w.alloc (.cells #[.string x.1, .int .i64 x.2.1, .slice a x.2.2.length cap] 84)) [.string ⟨#[]⟩, .int .i64 0, .slice none 0 0] 67).alloc (.cells #[.string x.1, .int .i64 0, .slice none 0 0] 67))
  have K2 := hid (hasl_new ((w.alloc (.cells #[.string x.1, .int .i64 x.2.1, .slice a x.2.2.length cap] 84)).alloc (.cells #[.string ⟨#[]⟩, .int .i64 0, .slice none 0 0] 67)) [.string x.1, .int .i64 0, .slice none 0 0] 67)
  have B3 := hid ((((BF.refl w.heap.size w).alloc (Nat.le_refl _) (.cells #[.string x.1, .int .i64 x.2.1, .slice a x.2.2.length cap] 84)).alloc (by simp) (.cells #[.string ⟨#[]⟩, .int .i64 0, .slice none 0 0] 67)).alloc (by simp; omega) (.cells #[.string x.1, .int .i64 0, .slice none 0 0] 67))
  have T := hid (to_relF x.2.1 a cap hi x.2.2 _ hn (hrd.below (B3.out.mono hh).toBelow) (by simp; omega))
  simp only [World.size_alloc] at K1 K2
  clear h hels hrd
  go_enter Try.func68, Try.ntmps68
  go_wp2_with fail
  refine T.out.mono ?_
  rintro e w1 ⟨vs, g, rfl, hg, hown, hb⟩
  have hs1 := hb.size
  simp only [World.size_alloc] at hs1 hg hown hb ⊢
  have P1 := K1.out.below (hb.mono (by first | exact Nat.le_refl _ | simp)).toBelow
  have P2 := K2.out.below (hb.mono (by first | exact Nat.le_refl _ | simp)).toBelow
  have HA := hid (of_gown (hi := w1.heap.size) hx.out hown (Nat.le_refl _))
  have HB := hid (B3.out.trans (hb.mono (by omega)))
  have HR := hid (((((P1.far (c := w.heap.size + 1 + 1) (o := 1) (by omega) (.int .i64 x.2.1)).far (c := w.heap.size + 1 + 1) (o := 2) (by omega) (.slice (some ⟨g, 0, none⟩) x.2.2.length x.2.2.length)).put 0 (.string x.1)).put 1 (.int .i64 x.2.1)).put 2 (.slice (some ⟨g, 0, none⟩) x.2.2.length x.2.2.length))
  obtain ⟨p0, p1, p2, p3, p4, p5, p6⟩ := P1.three
  obtain ⟨q0, q1, q2, q3, q4, q5, q6⟩ := P2.three
  obtain ⟨r0, r1, r2, _, _, _, _⟩ := HasL.three HR.out
  clear hown hb P1 P2 K1 K2 T
  go_wp2
  refine bodyPost_ret (v := .agg #[.string x.1, .int .i64 x.2.1, .slice (some ⟨g, 0, none⟩) x.2.2.length x.2.2.length]) (by simp [results, Try.results68, go_sem, r0, r1, r2]) rfl ⟨[.string x.1, .int .i64 x.2.1, .slice (some ⟨g, 0, none⟩) x.2.2.length x.2.2.length], rfl, ?_, ?_⟩
  · exact table_mk hz1 hz2 (((((((HA.out.keep (good_sl good_int) (sm_set _ (.inl (by omega)))).keep (good_sl good_int) (sm_set _ (.inl (by omega)))).keep (good_sl good_int) (sm_set _ (.inl (by omega)))).keep (good_sl good_int) (sm_set _ (.inl (by omega)))).keep (good_sl good_int) (sm_set _ (.inl (by omega)))).up (good_sl good_int) (by omega) (by simp)))
  · exact ((((HB.out.setCell (by simp; omega) _).setCell (by simp; omega) _).setCell (by simp) _).setCell (by simp) _).setCell (by simp) _

set_option maxRecDepth 100000 in
theorem to_tableSF (a : Option Addr) (cap : Nat) (xs : List TableD) (lo hi : Nat) (w : World) (hn : tots szT xs ≤ 1048576) (h : Els 3 rTable w lo hi a xs) (hh : hi ≤ w.heap.size) :
    Calls Try.prog 45 #[.slice a xs.length cap] w fun e w' => e = .returned (.slice (some ⟨w.heap.size, 0, none⟩) xs.length xs.length) ∧ Els 3 rTable w' w.heap.size w'.heap.size (some ⟨w.heap.size, 0, none⟩) xs ∧ BF w.heap.size w w' := by
  have hn1 : xs.length ≤ 1048576 := by have := tots_len szT xs; omega
  obtain ⟨i0, hi0, hz0, hz1, hz2⟩ := info_parts infoTable
  have hmk := make_k (P := Try.prog) w 46 67 i0 _ 3 48 Try.underlying46 hi0 hz0 hz1 hz2 (by omega) xs.length hn1
  have hat0 := hid (own_k w 67 (Value.cells (.agg #[.string ⟨#[]⟩, .int .i64 0, .slice none 0 0])) 3 xs.length hn1)
  go_enter Try.func45, Try.ntmps45
  go_wp2
  go_loopw [4] (fun i wr => ∃ (j : Nat) (cs : List Value), j ≤ xs.length ∧ i = .int .i64 j ∧ Hid (wr.ownsRow w.heap.size 67 3 (.slice (some ⟨w.heap.size, 0, none⟩) xs.length xs.length) xs.length cs) ∧ Hid (Fil 3 rTable wr (w.heap.size + 1) wr.heap.size cs xs j) ∧ Hid (BF w.heap.size w wr) ∧ w.heap.size < wr.heap.size) (fun i _ => xs.length - (intOf i).toNat)
  case atStart => exact ⟨0, _, Nat.zero_le _, rfl, hat0, hid Fil.zero, hid ((BF.refl _ _).alloc (Nat.le_refl _) _), by simp⟩
  case round =>
    obtain ⟨j, cs, hj, rfl, hown, hfil, hb, hsz⟩ := hrel
    clear hmk
    by_cases hlt : j < xs.length
    · obtain ⟨b, off, aj, capj, rfl, _, hbB, c0, c1, c2, rx⟩ := tables_at (h.grow good_table hb.out.toBelow hh) j hlt
      have hrow : szT xs[j] ≤ 1048576 := by have := elem_le szT xs j hlt; omega
      have T := hid (to_tableF _ xs[j] lo hi wr hrow rx (by omega))
      have hlt' : (j : Int) < (xs.length : Int) := by omega
      have h0' : (0 : Int) ≤ (j : Int) := by omega
      clear h rx
      go_wp2_with fail
      refine T.out.mono ?_
      rintro e w1 ⟨ds, rfl, rd, hb1⟩
      obtain ⟨aD, capD, hds, _⟩ := table_open rd
      subst hds
      have O1 := ownk_below hown.out hb1.toBelow (fun q hq => by simp [Value.ownBlock] at hq; omega)
      have HF := hid (hfil.out.keep good_table (sm_below hb1.toBelow (Nat.le_refl _)) hb1.size)
      have HD := hid ((good_table).up rd (show w.heap.size + 1 ≤ wr.heap.size by omega) (Nat.le_refl _))
      have hsz1 := hb1.size

      obtain ⟨u0, e0⟩ := ownk_cell O1 j 0 hlt (by omega)
      rw [Nat.add_zero] at e0
      obtain ⟨u1, e1⟩ := ownk_cell O1 j 1 hlt (by omega)
      obtain ⟨u2, e2⟩ := ownk_cell O1 j 2 hlt (by omega)
      have f0 := World.ownsRow.frozenAt O1 (j * 3)
      have f1 := World.ownsRow.frozenAt O1 (j * 3 + 1)
      have f2 := World.ownsRow.frozenAt O1 (j * 3 + 2)
      have O2 := (World.ownsRow.stored O1 (j * 3) (.string xs[j].1)).1
      have O3 := (World.ownsRow.stored O2 (j * 3 + 1) (.int .i64 xs[j].2.1)).1
      have O4 := (World.ownsRow.stored O3 (j * 3 + 2) (.slice aD xs[j].2.2.length capD)).1
      have HO := hid O4
      have HS := hid (show Sm (w.heap.size + 1) w1.heap.size w1 (((w1.setCell ⟨w.heap.size, j * 3, none⟩ (.string xs[j].1)).setCell ⟨w.heap.size, j * 3 + 1, none⟩ (.int .i64 xs[j].2.1)).setCell ⟨w.heap.size, j * 3 + 2, none⟩ (.slice aD xs[j].2.2.length capD)) from sm_trans (sm_trans (sm_set _ (.inl (Nat.lt_succ_self _))) (sm_set _ (.inl (Nat.lt_succ_self _)))) (sm_set _ (.inl (Nat.lt_succ_self _))))
      have hwz : w1.heap.size ≤ (((w1.setCell ⟨w.heap.size, j * 3, none⟩ (.string xs[j].1)).setCell ⟨w.heap.size, j * 3 + 1, none⟩ (.int .i64 xs[j].2.1)).setCell ⟨w.heap.size, j * 3 + 2, none⟩ (.slice aD xs[j].2.2.length capD)).heap.size := by simp
      have HF2 := hid ((HF.out.keep good_table HS.out hwz).step hlt rfl hown.out.1 (good_table.up (good_table.keep HD.out HS.out) (Nat.le_refl _) hwz))
      have HB := hid ((((hb.out.trans (hb1.mono (Nat.le_of_lt hsz))).setCell (p := ⟨w.heap.size, j * 3, none⟩) (Nat.le_refl _) (.string xs[j].1)).setCell (p := ⟨w.heap.size, j * 3 + 1, none⟩) (Nat.le_refl _) (.int .i64 xs[j].2.1)).setCell (p := ⟨w.heap.size, j * 3 + 2, none⟩) (Nat.le_refl _) (.slice aD xs[j].2.2.length capD))
      have hwl : w.heap.size < (((w1.setCell ⟨w.heap.size, j * 3, none⟩ (.string xs[j].1)).setCell ⟨w.heap.size, j * 3 + 1, none⟩ (.int .i64 xs[j].2.1)).setCell ⟨w.heap.size, j * 3 + 2, none⟩ (.slice aD xs[j].2.2.length capD)).heap.size := by omega
      clear O1 O2 O3 O4 HF HD HS hb1 rd hwz T
      go_wp2_with fail
      go_roundw
      case rel => exact ⟨j + 1, _, by omega, by go_num, HO, HF2, HB, hwl⟩
      case measure => simp [intOf]; omega
    · have e : j = xs.length := by omega
      subst e
      have HE := hid (hfil.out.done good_table hown.out rfl (show w.heap.size ≤ w.heap.size + 1 by omega) (Nat.le_refl _) (Nat.le_refl _) hsz)
      clear h hown hfil
      go_wp2
      go_ret
      exact ⟨rfl, HE.out, hb.out⟩

theorem to_dbF (cs : List Value) (x : List TableD) (lo hi : Nat) (w : World) (hs : szD x ≤ 1048576) (h : rDb w lo hi cs x) (hh : hi ≤ w.heap.size) :
    Calls Try.prog 20 #[.agg cs.toArray] w fun e w' => ∃ ds : List Value, e = .returned (.agg ds.toArray) ∧ rDb w' w.heap.size w'.heap.size ds x ∧ BF w.heap.size w w' := by
  obtain ⟨a, cap, rfl, hz1, hels⟩ := db_open h
  have K1 := hid ((hasl_new (w.alloc (.cells #[.slice a x.length cap] 44)) [.slice none 0 0] 48).alloc (.cells #[.slice none 0 0] 48))
  have K2 := hid (hasl_new ((w.alloc (.cells #[.slice a x.length cap] 44)).alloc (.cells #[.slice none 0 0] 48)) [.slice none 0 0] 48)
  have B3 := hid ((((BF.refl w.heap.size w).alloc (Nat.le_refl _) (.cells #[.slice a x.length cap] 44)).alloc (by simp) (.cells #[.slice none 0 0] 48)).alloc (by simp; omega) (.cells #[.slice none 0 0] 48))
  have T := hid (to_tableSF a cap x lo hi _ hs (hels.keep good_table (sm_below B3.out.toBelow hh)) (by simp; omega))
  simp only [World.size_alloc] at K1 K2
  clear h hels
  go_enter Try.func20, Try.ntmps20
  go_wp2_with fail
  refine T.out.mono ?_
  rintro e w1 ⟨rfl, hel, hb⟩
  have hs1 := hb.size
  simp only [World.size_alloc] at hs1 hel hb ⊢
  have P1 := K1.out.below (hb.mono (by first | exact Nat.le_refl _ | simp)).toBelow
  have P2 := K2.out.below (hb.mono (by first | exact Nat.le_refl _ | simp)).toBelow
  have HA := hid hel
  have HB := hid (B3.out.trans (hb.mono (by omega)))
  have HR := hid ((P1.far (c := w.heap.size + 1 + 1) (o := 0) (by omega) (.slice (some ⟨w.heap.size + 1 + 1 + 1, 0, none⟩) x.length x.length)).put 0 (.slice (some ⟨w.heap.size + 1 + 1 + 1, 0, none⟩) x.length x.length))
  obtain ⟨p0, p1, p2⟩ := P1.one
  obtain ⟨q0, q1, q2⟩ := P2.one
  obtain ⟨r0, _, _⟩ := HasL.one HR.out
  clear hel hb P1 P2 K1 K2 T
  go_wp2
  refine bodyPost_ret (v := .agg #[.slice (some ⟨w.heap.size + 1 + 1 + 1, 0, none⟩) x.length x.length]) (by simp [results, Try.results20, go_sem, r0]) rfl ⟨[.slice (some ⟨w.heap.size + 1 + 1 + 1, 0, none⟩) x.length x.length], rfl, ?_, ?_⟩
  · exact db_mk hz1 (((HA.out.keep good_table (sm_set _ (.inl (by omega)))).keep good_table (sm_set _ (.inl (by omega)))).up good_table (by omega) (by simp))
  · exact (HB.out.setCell (by simp; omega) _).setCell (by simp) _
end Go.Proofs.Ytffhfnkcbgbliaa.ToF
