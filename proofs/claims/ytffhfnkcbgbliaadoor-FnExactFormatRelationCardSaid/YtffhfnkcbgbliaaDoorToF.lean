/- The laws' own copies of their arguments, and that nothing has been frozen in them. -/
import Derived.Test.YtffhfnkcbgbliaaDoorThaw
import Derived.Test.YtffhfnkcbgbliaaDoorQueryLaw
import Derived.Test.YtffhfnkcbgbliaaDoorTableLaw
namespace Go.Proofs.YtffhfnkcbgbliaaDoor.ToF
open Go.RowKit
open Go.Proofs.YtffhfnkcbgbliaaDoor.Num Go.Proofs.YtffhfnkcbgbliaaDoor.IntRow Go.Proofs.YtffhfnkcbgbliaaDoor.IntLaw Go.Proofs.YtffhfnkcbgbliaaDoor.Grid Go.Proofs.YtffhfnkcbgbliaaDoor.GridMore Go.Proofs.YtffhfnkcbgbliaaDoor.GridLaw Go.Proofs.YtffhfnkcbgbliaaDoor.GridLaw2 Go.Proofs.YtffhfnkcbgbliaaDoor.RelLaw Go.Proofs.YtffhfnkcbgbliaaDoor.RelKit Go.Proofs.YtffhfnkcbgbliaaDoor.Rdr Go.Proofs.YtffhfnkcbgbliaaDoor.Dat Go.Proofs.YtffhfnkcbgbliaaDoor.HasL Go.Proofs.YtffhfnkcbgbliaaDoor.AtomLaw Go.Proofs.YtffhfnkcbgbliaaDoor.QueryLaw Go.Proofs.YtffhfnkcbgbliaaDoor.TableLaw Go.Proofs.YtffhfnkcbgbliaaDoor.Keep Go.Proofs.YtffhfnkcbgbliaaDoor.Kept Go.Proofs.YtffhfnkcbgbliaaDoor.Cells Go.Proofs.YtffhfnkcbgbliaaDoor.Thaw
set_option linter.unusedVariables false

theorem to_intsF (a : Option Addr) (cap B : Nat) (xs : List Int) (w : World) (hn : xs.length ≤ 1048576) (h : Rd w B a xs) (hB : B ≤ w.heap.size) :
    Calls Tryd.prog 28 #[.slice a xs.length cap] w fun e w' => e = .returned (.slice (some ⟨w.heap.size, 0, none⟩) xs.length xs.length) ∧ At w' w.heap.size 3 xs.length xs ∧ BF w.heap.size w w' := by
  obtain ⟨i0, hi, hz0, hz1, hz2⟩ := info_parts IntLaw.info
  have hmk := make_ints (P := Tryd.prog) w 22 3 i0 Tryd.underlying22 hi hz0 hz1 hz2 xs.length (by omega)
  have hat0 := hid (at_made w 3 xs.length (by omega))
  go_enter Tryd.func28, Tryd.ntmps28
  go_wp2
  go_loopw [4] (fun i wr => ∃ k : Nat, k ≤ xs.length ∧ i = .int .i64 k ∧ At wr w.heap.size 3 xs.length (filled xs k) ∧ BF w.heap.size w wr) (fun i _ => xs.length - (intOf i).toNat)
  case atStart => exact ⟨0, Nat.zero_le _, rfl, by rw [filled_zero]; exact hat0.out, (BF.refl _ _).alloc (Nat.le_refl _) _⟩
  case round =>
    obtain ⟨k, hk, rfl, hat, hb⟩ := hrel
    have hfl := filled_length xs k hk
    by_cases hlt : k < xs.length
    · obtain ⟨b, off, rfl, hbB, hc⟩ := (h.below (hb.mono hB).toBelow) (by omega)
      have g := hc k hlt
      obtain ⟨u, c1⟩ : ∃ u, wr.cell? ⟨w.heap.size, k, none⟩ = some u := ⟨_, hat.cell k (by omega)⟩
      have c2 := hat.free k
      have hset := hid (hat.set k xs[k])
      rw [filled_step xs k hlt] at hset
      clear hat hfl hc h hmk
      go_wp2
      go_roundw
      case rel => exact ⟨k + 1, by omega, by go_num, hset.out, hb.setCell (Nat.le_refl _) _⟩
      case measure => simp [intOf]; omega
    · have e : k = xs.length := by omega
      subst e
      rw [filled_all] at hat
      clear hmk
      go_wp2
      go_ret
      exact ⟨rfl, hat, hb⟩

theorem to_ssF (a : Option Addr) (cap B : Nat) (xss : List (List Int)) (w : World) (hn : tot xss ≤ 1048576) (h : GRd w B a xss) (hB : B ≤ w.heap.size) :
    Calls Tryd.prog 37 #[.slice a xss.length cap] w fun e w' => ∃ vs, e = .returned (.slice (some ⟨w.heap.size, 0, none⟩) xss.length xss.length) ∧ GOwn w' w.heap.size eR eI (.slice (some ⟨w.heap.size, 0, none⟩) xss.length xss.length) vs xss ∧ BF w.heap.size w w' := by
  have hn1 : xss.length ≤ 1048576 := by have := tot_len xss; omega
  obtain ⟨i0, hi, hz0, hz1, hz2⟩ := info_parts GridLaw.info
  have hmk := make_rows (P := Tryd.prog) w 23 22 i0 Tryd.underlying23 hi hz0 hz1 hz2 xss.length (by omega)
  have hat0 := hid (rows_made w 22 3 xss.length (by omega))
  go_enter Tryd.func37, Tryd.ntmps37
  go_wp2
  go_loopw [4] (fun i wr => ∃ (k : Nat) (vs : List Value), k ≤ xss.length ∧ i = .int .i64 k ∧ Hid (GOwn wr w.heap.size eR eI (.slice (some ⟨w.heap.size, 0, none⟩) xss.length xss.length) vs (filledS xss k)) ∧ Hid (BF w.heap.size w wr)) (fun i _ => xss.length - (intOf i).toNat)
  case atStart => exact ⟨0, _, Nat.zero_le _, rfl, hid (by rw [filledS_zero]; exact hat0.out), hid ((BF.refl _ _).alloc (Nat.le_refl _) _)⟩
  case round =>
    obtain ⟨k, vs, hk, rfl, hown, hb⟩ := hrel
    have hfl := filledS_length xss k hk
    clear hmk
    by_cases hlt : k < xss.length
    · obtain ⟨b, off, rfl, hbB, hc⟩ := (h.below (hb.out.mono hB).toBelow) (by omega)
      obtain ⟨aj, capj, g, r⟩ := hc k hlt
      have hrow : xss[k].length ≤ 1048576 := by have := row_le xss k hlt; omega
      have hsz := hb.out.size
      have T := hid (to_intsF aj capj B xss[k] wr hrow r (by omega))
      clear hc h r
      go_wp2_with fail
      refine T.out.mono ?_
      rintro e w1 ⟨rfl, hat, hb1⟩
      have O1 := hown.out.below' hb1.toBelow
      have hlt1 := hown.out.lt w.heap.size rfl
      have U := hat.own (Nat.le_refl _)
      have hst := hid (gown_store O1 hfl.symm eRI k (by omega) (U.mono hsz) (fun i u' m hne hu hm hm' => by
        have h1 := (hown.out.lt_row hu m hm').2
        simp [Value.ownBlock] at hm
        omega))
      rw [filledS_step xss k hlt] at hst
      obtain ⟨u, c1⟩ : ∃ u, w1.cell? ⟨w.heap.size, k, none⟩ = some u := by
        have hjv : k < vs.length := by rw [hown.out.len, filledS_length xss k hk]; exact hlt
        have hca := O1.cellAt k (by rw [filledS_length xss k hk]; exact hlt)
        rw [Nat.zero_add, List.getElem?_eq_getElem hjv] at hca
        exact ⟨_, hca⟩
      have c2 := O1.free k
      rw [Nat.zero_add] at c2
      have HB := hid ((hb.out.trans (hb1.mono hsz)).setCell (p := ⟨w.heap.size, k, none⟩) (Nat.le_refl _) (.slice (some ⟨wr.heap.size, 0, none⟩) xss[k].length xss[k].length))
      clear O1 U hat hb1 hfl
      go_wp2_with fail
      go_roundw
      case rel => exact ⟨k + 1, _, by omega, by go_num, hst, HB⟩
      case measure => simp [intOf]; omega
    · have e : k = xss.length := by omega
      subst e
      have HO := hown.out
      rw [filledS_all] at HO
      have HO2 := hid HO
      clear h HO hfl hown
      go_wp2
      go_ret
      exact ⟨vs, rfl, HO2.out, hb.out⟩

theorem to_relF (n : Int) (a : Option Addr) (cap B : Nat) (xss : List (List Int)) (w : World) (hn : tot xss ≤ 1048576) (h : GRd w B a xss) (hB : B ≤ w.heap.size) :
    Calls Tryd.prog 13 #[.agg #[.int .i64 n, .slice a xss.length cap]] w fun e w' => ∃ vs g, e = .returned (.agg #[.int .i64 n, .slice (some ⟨g, 0, none⟩) xss.length xss.length]) ∧ w.heap.size ≤ g ∧ GOwn w' g eR eI (.slice (some ⟨g, 0, none⟩) xss.length xss.length) vs xss ∧ BF w.heap.size w w' := by
  have K1 := hid (has2_new (w.alloc (.cells #[.int .i64 n, .slice a xss.length cap] 25)) (.int .i64 0) (.slice none 0 0) 30)
  have K2 := hid (has2_new ((w.alloc (.cells #[.int .i64 n, .slice a xss.length cap] 25)).alloc (.cells #[.int .i64 0, .slice none 0 0] 30)) (.int .i64 n) (.slice none 0 0) 30)
  have B3 := hid ((((BF.refl w.heap.size w).alloc (Nat.le_refl _) (.cells #[.int .i64 n, .slice a xss.length cap] 25)).alloc (by simp) (.cells #[.int .i64 0, .slice none 0 0] 30)).alloc (by simp; omega) (.cells #[.int .i64 n, .slice none 0 0] 30))
  have K1s := hid (K1.out.alloc (.cells #[.int .i64 n, .slice none 0 0] 30))
  have T := hid (to_ssF a cap B xss _ hn (h.below (B3.out.mono hB).toBelow) (by simp; omega))
  simp only [World.size_alloc] at K1s K2
  clear h K1
  go_enter Tryd.func13, Tryd.ntmps13
  go_wp2_with fail
  refine T.out.mono ?_
  rintro e w1 ⟨vs, rfl, hown, hb⟩
  have hs1 := hb.size
  simp only [World.size_alloc] at hs1 hown hb ⊢
  obtain ⟨p0, p1, p2, p3, p4⟩ := K1s.out.below (hb.mono (by first | exact Nat.le_refl _ | simp)).toBelow
  obtain ⟨q0, q1, q2, q3, q4⟩ := K2.out.below (hb.mono (by first | exact Nat.le_refl _ | simp)).toBelow
  have HO := hid hown
  have HB := hid (B3.out.trans (hb.mono (by omega)))
  have hr0 : (((w1.setCell ⟨w.heap.size + 1 + 1, 1, none⟩ (.slice (some ⟨w.heap.size + 1 + 1 + 1, 0, none⟩) xss.length xss.length)).setCell ⟨w.heap.size + 1, 0, none⟩ (.int .i64 n)).setCell ⟨w.heap.size + 1, 1, none⟩ (.slice (some ⟨w.heap.size + 1 + 1 + 1, 0, none⟩) xss.length xss.length)).cell? ⟨w.heap.size + 1, 0, none⟩ = some (.int .i64 n) := by
    rw [World.cell?_setCell_other _ _ _ _ (by simp)]
    refine World.cell?_setCell_same _ _ _ (u := .int .i64 0) ?_
    rw [World.cell?_setCell_other _ _ _ _ (by simp)]
    exact p0
  have hr1 : (((w1.setCell ⟨w.heap.size + 1 + 1, 1, none⟩ (.slice (some ⟨w.heap.size + 1 + 1 + 1, 0, none⟩) xss.length xss.length)).setCell ⟨w.heap.size + 1, 0, none⟩ (.int .i64 n)).setCell ⟨w.heap.size + 1, 1, none⟩ (.slice (some ⟨w.heap.size + 1 + 1 + 1, 0, none⟩) xss.length xss.length)).cell? ⟨w.heap.size + 1, 1, none⟩ = some (.slice (some ⟨w.heap.size + 1 + 1 + 1, 0, none⟩) xss.length xss.length) := by
    refine World.cell?_setCell_same _ _ _ (u := .slice none 0 0) ?_
    rw [World.cell?_setCell_other _ _ _ _ (by simp), World.cell?_setCell_other _ _ _ _ (by simp)]
    exact p1
  clear hown hb
  go_wp2
  refine bodyPost_ret (v := .agg #[.int .i64 n, .slice (some ⟨w.heap.size + 1 + 1 + 1, 0, none⟩) xss.length xss.length]) (by simp [results, Tryd.results13, go_sem, hr0, hr1]) rfl ⟨vs, _, rfl, by omega, ?_, ?_⟩
  · exact gown_turned (lo := w.heap.size) (hi := w.heap.size + 1 + 1 + 1) HO.out ⟨rfl, rfl, rfl, by simp, fun k hk hkk => by
      rw [Below.heap_setCell _ _ _ _ (by simp; omega), Below.heap_setCell _ _ _ _ (by simp; omega), Below.heap_setCell _ _ _ _ (by simp; omega)]⟩ (.inl (Nat.le_refl _))
  · exact ((HB.out.setCell (by simp; omega) _).setCell (by simp) _).setCell (by simp) _

theorem to_atomF (cs : List Value) (x : AtomD) (lo hi : Nat) (w : World) (hs : szA x ≤ 1048576) (h : rAtom w lo hi cs x) (hh : hi ≤ w.heap.size) :
    Calls Tryd.prog 67 #[.agg cs.toArray] w fun e w' => ∃ ds : List Value, e = .returned (.agg ds.toArray) ∧ rAtom w' w.heap.size w'.heap.size ds x ∧ BF w.heap.size w w' := by
  obtain ⟨a, cap, rfl, hz1, hz2, hr⟩ := atom_open h
  have hrd := rd_of hr
  have hn : x.2.length ≤ 1048576 := by unfold szA at hs; omega
  have K1 := hid ((hasl_new (w.alloc (.cells #[.string x.1, .slice a x.2.length cap] 95)) [.string ⟨#[]⟩, .slice none 0 0] 97).alloc (.cells #[.string x.1, .slice none 0 0] 97))
  have K2 := hid (hasl_new ((w.alloc (.cells #[.string x.1, .slice a x.2.length cap] 95)).alloc (.cells #[.string ⟨#[]⟩, .slice none 0 0] 97)) [.string x.1, .slice none 0 0] 97)
  have B3 := hid ((((BF.refl w.heap.size w).alloc (Nat.le_refl _) (.cells #[.string x.1, .slice a x.2.length cap] 95)).alloc (by simp) (.cells #[.string ⟨#[]⟩, .slice none 0 0] 97)).alloc (by simp; omega) (.cells #[.string x.1, .slice none 0 0] 97))
  have T := hid (to_intsF a cap hi x.2 _ hn (hrd.below (B3.out.mono hh).toBelow) (by simp; omega))
  simp only [World.size_alloc] at K1 K2
  clear h hr hrd
  go_enter Tryd.func67, Tryd.ntmps67
  go_wp2_with fail
  refine T.out.mono ?_
  rintro e w1 ⟨rfl, hat, hb⟩
  have hs1 := hb.size
  simp only [World.size_alloc] at hs1 hat hb ⊢
  have P1 := K1.out.below (hb.mono (by first | exact Nat.le_refl _ | simp)).toBelow
  have P2 := K2.out.below (hb.mono (by first | exact Nat.le_refl _ | simp)).toBelow
  have HA := hid hat
  have HB := hid (B3.out.trans (hb.mono (by omega)))
  have HR := hid (((P1.far (c := w.heap.size + 1 + 1) (o := 1) (by omega) (.slice (some ⟨w.heap.size + 1 + 1 + 1, 0, none⟩) x.2.length x.2.length)).put 0 (.string x.1)).put 1 (.slice (some ⟨w.heap.size + 1 + 1 + 1, 0, none⟩) x.2.length x.2.length))
  obtain ⟨p0, p1, p2, p3, p4⟩ := P1.two
  obtain ⟨q0, q1, q2, q3, q4⟩ := P2.two
  obtain ⟨r0, r1, _, _, _⟩ := HasL.two HR.out
  clear hat hb P1 P2 K1 K2 T
  go_wp2
  refine bodyPost_ret (v := .agg #[.string x.1, .slice (some ⟨w.heap.size + 1 + 1 + 1, 0, none⟩) x.2.length x.2.length]) (by simp [results, Tryd.results67, go_sem, r0, r1]) rfl ⟨[.string x.1, .slice (some ⟨w.heap.size + 1 + 1 + 1, 0, none⟩) x.2.length x.2.length], rfl, ?_, ?_⟩
  · have hl := HA.out.lt
    exact atom_mk hz1 hz2 (((((of_at (lo := w.heap.size + 1 + 1 + 1) (hi := w.heap.size + 1 + 1 + 1 + 1) HA.out (Nat.le_refl _) (by omega)).keep good_int (sm_set _ (.inl (by omega)))).keep good_int (sm_set _ (.inl (by omega)))).keep good_int (sm_set _ (.inl (by omega)))).up good_int (by omega) (by simp; omega))
  · exact ((HB.out.setCell (by simp; omega) _).setCell (by simp) _).setCell (by simp) _

set_option maxRecDepth 100000 in
theorem to_atomSF (a : Option Addr) (cap : Nat) (xs : List AtomD) (lo hi : Nat) (w : World) (hn : tots szA xs ≤ 1048576) (h : Els 2 rAtom w lo hi a xs) (hh : hi ≤ w.heap.size) :
    Calls Tryd.prog 44 #[.slice a xs.length cap] w fun e w' => e = .returned (.slice (some ⟨w.heap.size, 0, none⟩) xs.length xs.length) ∧ Els 2 rAtom w' w.heap.size w'.heap.size (some ⟨w.heap.size, 0, none⟩) xs ∧ BF w.heap.size w w' := by
  have hn1 : xs.length ≤ 1048576 := by have := tots_len szA xs; omega
  obtain ⟨i0, hi0, hz0, hz1, hz2⟩ := info_parts infoAtom
  have hmk := make_k (P := Tryd.prog) w 46 97 i0 _ 2 40 Tryd.underlying46 hi0 hz0 hz1 hz2 (by omega) xs.length hn1
  have hat0 := hid (own_k w 97 (Value.cells (.agg #[.string ⟨#[]⟩, .slice none 0 0])) 2 xs.length hn1)
  go_enter Tryd.func44, Tryd.ntmps44
  go_wp2
  go_loopw [4] (fun i wr => ∃ (j : Nat) (cs : List Value), j ≤ xs.length ∧ i = .int .i64 j ∧ Hid (wr.ownsRow w.heap.size 97 2 (.slice (some ⟨w.heap.size, 0, none⟩) xs.length xs.length) xs.length cs) ∧ Hid (Fil 2 rAtom wr (w.heap.size + 1) wr.heap.size cs xs j) ∧ Hid (BF w.heap.size w wr) ∧ w.heap.size < wr.heap.size) (fun i _ => xs.length - (intOf i).toNat)
  case atStart => exact ⟨0, _, Nat.zero_le _, rfl, hat0, hid Fil.zero, hid ((BF.refl _ _).alloc (Nat.le_refl _) _), by simp⟩
  case round =>
    obtain ⟨j, cs, hj, rfl, hown, hfil, hb, hsz⟩ := hrel
    clear hmk
    by_cases hlt : j < xs.length
    · obtain ⟨b, off, aj, capj, rfl, _, hbB, c0, c1, rx⟩ := atoms_at (h.grow good_atom hb.out.toBelow hh) j hlt
      have hrow : szA xs[j] ≤ 1048576 := by have := elem_le szA xs j hlt; omega
      have T := hid (to_atomF _ xs[j] lo hi wr hrow rx (by omega))
      have hlt' : (j : Int) < (xs.length : Int) := by omega
      have h0' : (0 : Int) ≤ (j : Int) := by omega
      clear h rx
      go_wp2_with fail
      refine T.out.mono ?_
      rintro e w1 ⟨ds, rfl, rd, hb1⟩
      obtain ⟨aD, capD, hds, _⟩ := atom_open rd
      subst hds
      have O1 := ownk_below hown.out hb1.toBelow (fun q hq => by simp [Value.ownBlock] at hq; omega)
      have HF := hid (hfil.out.keep good_atom (sm_below hb1.toBelow (Nat.le_refl _)) hb1.size)
      have HD := hid ((good_atom).up rd (show w.heap.size + 1 ≤ wr.heap.size by omega) (Nat.le_refl _))
      have hsz1 := hb1.size

      obtain ⟨u0, e0⟩ := ownk_cell O1 j 0 hlt (by omega)
      rw [Nat.add_zero] at e0
      obtain ⟨u1, e1⟩ := ownk_cell O1 j 1 hlt (by omega)
      have f0 := World.ownsRow.frozenAt O1 (j * 2)
      have f1 := World.ownsRow.frozenAt O1 (j * 2 + 1)
      have O2 := (World.ownsRow.stored O1 (j * 2) (.string xs[j].1)).1
      have O3 := (World.ownsRow.stored O2 (j * 2 + 1) (.slice aD xs[j].2.length capD)).1
      have HO := hid O3
      have HS := hid (show Sm (w.heap.size + 1) w1.heap.size w1 ((w1.setCell ⟨w.heap.size, j * 2, none⟩ (.string xs[j].1)).setCell ⟨w.heap.size, j * 2 + 1, none⟩ (.slice aD xs[j].2.length capD)) from sm_trans (sm_set _ (.inl (Nat.lt_succ_self _))) (sm_set _ (.inl (Nat.lt_succ_self _))))
      have hwz : w1.heap.size ≤ ((w1.setCell ⟨w.heap.size, j * 2, none⟩ (.string xs[j].1)).setCell ⟨w.heap.size, j * 2 + 1, none⟩ (.slice aD xs[j].2.length capD)).heap.size := by simp
      have HF2 := hid ((HF.out.keep good_atom HS.out hwz).step hlt rfl hown.out.1 (good_atom.up (good_atom.keep HD.out HS.out) (Nat.le_refl _) hwz))
      have HB := hid (((hb.out.trans (hb1.mono (Nat.le_of_lt hsz))).setCell (p := ⟨w.heap.size, j * 2, none⟩) (Nat.le_refl _) (.string xs[j].1)).setCell (p := ⟨w.heap.size, j * 2 + 1, none⟩) (Nat.le_refl _) (.slice aD xs[j].2.length capD))
      have hwl : w.heap.size < ((w1.setCell ⟨w.heap.size, j * 2, none⟩ (.string xs[j].1)).setCell ⟨w.heap.size, j * 2 + 1, none⟩ (.slice aD xs[j].2.length capD)).heap.size := by omega
      clear O1 O2 O3 HF HD HS hb1 rd hwz T
      go_wp2_with fail
      go_roundw
      case rel => exact ⟨j + 1, _, by omega, by go_num, HO, HF2, HB, hwl⟩
      case measure => simp [intOf]; omega
    · have e : j = xs.length := by omega
      subst e
      have HE := hid (hfil.out.done good_atom hown.out rfl (show w.heap.size ≤ w.heap.size + 1 by omega) (Nat.le_refl _) (Nat.le_refl _) hsz)
      clear h hown hfil
      go_wp2
      go_ret
      exact ⟨rfl, HE.out, hb.out⟩

set_option maxRecDepth 100000 in
theorem to_queryF (cs : List Value) (x : QueryD) (lo hi : Nat) (w : World) (hs : szQ x ≤ 1048576) (h : rQuery w lo hi cs x) (hh : hi ≤ w.heap.size) :
    Calls Tryd.prog 18 #[.agg cs.toArray] w fun e w' => ∃ ds : List Value, e = .returned (.agg ds.toArray) ∧ rQuery w' w.heap.size w'.heap.size ds x ∧ BF w.heap.size w w' := by
  obtain ⟨a, cap, o, capo, rfl, hz1, hz2, ha, ho⟩ := query_open h
  have hq : szQ x = tots szA x.2.1 + x.2.2.length := rfl
  have hn : tots szA x.2.1 ≤ 1048576 := by omega
  have hn2 : x.2.2.length ≤ 1048576 := by omega
  have hrd := rd_of ho
  have K0 := hid (((hasl_new w [.int .i64 x.1, .slice a x.2.1.length cap, .slice o x.2.2.length capo] 43).alloc (.cells #[.int .i64 0, .slice none 0 0, .slice none 0 0] 48)).alloc (.cells #[.int .i64 x.1, .slice none 0 0, .slice none 0 0] 48))
  have K1 := hid ((hasl_new (w.alloc (.cells #[.int .i64 x.1, .slice a x.2.1.length cap, .slice o x.2.2.length capo] 43)) [.int .i64 0, .slice none 0 0, .slice none 0 0] 48).alloc (.cells #[.int .i64 x.1, .slice none 0 0, .slice none 0 0] 48))
  have K2 := hid (hasl_new ((w.alloc (.cells #[.int .i64 x.1, .slice a x.2.1.length cap, .slice o x.2.2.length capo] 43)).alloc (.cells #[.int .i64 0, .slice none 0 0, .slice none 0 0] 48)) [.int .i64 x.1, .slice none 0 0, .slice none 0 0] 48)
  have B3 := hid ((((BF.refl w.heap.size w).alloc (Nat.le_refl _) (.cells #[.int .i64 x.1, .slice a x.2.1.length cap, .slice o x.2.2.length capo] 43)).alloc (by simp) (.cells #[.int .i64 0, .slice none 0 0, .slice none 0 0] 48)).alloc (by simp; omega) (.cells #[.int .i64 x.1, .slice none 0 0, .slice none 0 0] 48))
  have T := hid (to_atomSF a cap x.2.1 lo hi _ hn (ha.keep good_atom (sm_below B3.out.toBelow hh)) (by simp; omega))
  have T2 := hid (fun W (hW : BF w.heap.size w W) => to_intsF o capo hi x.2.2 W hn2 (hrd.below (hW.mono hh).toBelow) (Nat.le_trans hh hW.size))
  simp only [World.size_alloc] at K1 K2
  clear h ha ho hrd
  go_enter Tryd.func18, Tryd.ntmps18
  go_wp2_with fail
  refine T.out.mono ?_
  rintro e w1 ⟨rfl, hel, hb⟩
  have hs1 := hb.size
  simp only [World.size_alloc] at hs1 hel hb ⊢
  obtain ⟨S1, hS1⟩ : ∃ v : Value, v = .slice (some ⟨w.heap.size + 1 + 1 + 1, 0, none⟩) x.2.1.length x.2.1.length := ⟨_, rfl⟩
  have P0 := hid (K0.out.below (hb.mono (by first | exact Nat.le_refl _ | simp)).toBelow)
  have P1 := hid (K1.out.below (hb.mono (by first | exact Nat.le_refl _ | simp)).toBelow)
  have P2 := hid (K2.out.below (hb.mono (by first | exact Nat.le_refl _ | simp)).toBelow)
  have HA := hid hel
  have HB := hid (B3.out.trans (hb.mono (by omega)))
  obtain ⟨a0, a1, a2, a3, a4, a5, a6⟩ := P0.out.three
  obtain ⟨q0, q1, q2, q3, q4, q5, q6⟩ := P2.out.three
  have HS1 := hid hS1
  clear hel hb K0 K1 K2 T hS1 a3 a4 a5 a6
  go_wp2_with fail
  refine (T2.out _ (HB.out.setCell (by simp; omega) _)).mono ?_
  rintro e w2 ⟨rfl, hat, hb⟩
  have hs2 := hb.size
  simp only [World.size_setCell] at hs2 hat hb ⊢
  have HB2 := hid ((HB.out.setCell (p := ⟨w.heap.size + 1 + 1, 1, none⟩) (by simp; omega) (.slice (some ⟨w.heap.size + 1 + 1 + 1, 0, none⟩) x.2.1.length x.2.1.length)).trans (hb.mono (by omega)))
  have R1 := hid ((P1.out.far (c := w.heap.size + 1 + 1) (o := 1) (by omega) (.slice (some ⟨w.heap.size + 1 + 1 + 1, 0, none⟩) x.2.1.length x.2.1.length)).below (by simp only [World.size_setCell]; exact hb.toBelow))
  have R2 := hid ((P2.out.put 1 (.slice (some ⟨w.heap.size + 1 + 1 + 1, 0, none⟩) x.2.1.length x.2.1.length)).below (by simp only [World.size_setCell]; exact hb.toBelow))
  have HA2 := hid (((HA.out.keep good_atom (sm_set (g := w.heap.size + 1 + 1) (o := 1) (.slice (some ⟨w.heap.size + 1 + 1 + 1, 0, none⟩) x.2.1.length x.2.1.length) (.inl (by omega)))).keep good_atom (sm_below hb.toBelow (Nat.le_refl _))))
  have HT := hid hat
  have HR := hid ((((R1.out.far (c := w.heap.size + 1 + 1) (o := 2) (by omega) (.slice (some ⟨w1.heap.size, 0, none⟩) x.2.2.length x.2.2.length)).put 0 (.int .i64 x.1)).put 1 (.slice (some ⟨w.heap.size + 1 + 1 + 1, 0, none⟩) x.2.1.length x.2.1.length)).put 2 (.slice (some ⟨w1.heap.size, 0, none⟩) x.2.2.length x.2.2.length))
  obtain ⟨d0, d1, d2, d3, d4, d5, d6⟩ := R1.out.three
  obtain ⟨q0', q1', q2', q3', q4', q5', q6'⟩ := HasL.three R2.out
  obtain ⟨r0, r1, r2, _, _, _, _⟩ := HasL.three HR.out
  clear hat hb P0 P1 P2 HA HB q0 q1 q2 q3 q4 q5 q6 a0 a1 a2 R1 R2 T2
  go_wp2
  refine bodyPost_ret (v := .agg #[.int .i64 x.1, .slice (some ⟨w.heap.size + 1 + 1 + 1, 0, none⟩) x.2.1.length x.2.1.length, .slice (some ⟨w1.heap.size, 0, none⟩) x.2.2.length x.2.2.length]) (by simp [results, Tryd.results18, go_sem, r0, r1, r2]) rfl ⟨[.int .i64 x.1, .slice (some ⟨w.heap.size + 1 + 1 + 1, 0, none⟩) x.2.1.length x.2.1.length, .slice (some ⟨w1.heap.size, 0, none⟩) x.2.2.length x.2.2.length], rfl, ?_, ?_⟩
  · have hl := HT.out.lt
    refine query_mk hz1 hz2 ?_ ?_
    · exact (((((HA2.out.keep good_atom (sm_set _ (.inl (by omega)))).keep good_atom (sm_set _ (.inl (by omega)))).keep good_atom (sm_set _ (.inl (by omega)))).keep good_atom (sm_set _ (.inl (by omega)))).up good_atom (by omega) (by simp; omega))
    · exact ((((((of_at (lo := w1.heap.size) (hi := w1.heap.size + 1) HT.out (Nat.le_refl _) (by omega)).keep good_int (sm_set _ (.inl (by omega)))).keep good_int (sm_set _ (.inl (by omega)))).keep good_int (sm_set _ (.inl (by omega)))).keep good_int (sm_set _ (.inl (by omega)))).up good_int (by omega) (by simp; omega))
  · exact (((HB2.out.setCell (by simp; omega) _).setCell (by simp) _).setCell (by simp) _).setCell (by simp) _

end Go.Proofs.YtffhfnkcbgbliaaDoor.ToF
