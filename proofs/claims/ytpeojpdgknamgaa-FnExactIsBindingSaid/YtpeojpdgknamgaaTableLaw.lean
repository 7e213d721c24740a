/- Contracts of the laws' own helpers on tables and databases. -/
import Derived.Test.YtpeojpdgknamgaaRelLaw
import Derived.Test.YtpeojpdgknamgaaRelKit
import Derived.Test.YtpeojpdgknamgaaHasL
import Derived.Test.YtpeojpdgknamgaaDat
import Derived.Deep.RegionHeld3
import Derived.Deep.DeepCutAuto
namespace Go.Proofs.Ytpeojpdgknamgaa.TableLaw
open Go.RowKit
open Go.Proofs.Ytpeojpdgknamgaa.Num Go.Proofs.Ytpeojpdgknamgaa.IntRow Go.Proofs.Ytpeojpdgknamgaa.IntLaw Go.Proofs.Ytpeojpdgknamgaa.GridLaw Go.Proofs.Ytpeojpdgknamgaa.GridLaw2 Go.Proofs.Ytpeojpdgknamgaa.RelLaw Go.Proofs.Ytpeojpdgknamgaa.RelKit Go.Proofs.Ytpeojpdgknamgaa.Rdr Go.Proofs.Ytpeojpdgknamgaa.Dat Go.Proofs.Ytpeojpdgknamgaa.HasL Go.Proofs.Ytpeojpdgknamgaa.Keep Go.Proofs.Ytpeojpdgknamgaa.Kept
set_option linter.unusedVariables false

theorem szG_tot (xss : List (List Int)) : szG xss = tot xss := by simp [szG, tots, sumf, tot]

theorem sz_table (cs : List Value) (x : TableD) (lo hi : Nat) (k r : Int) (w : World) (h0 : 0 ≤ k) (hk : k ≤ 1048576) (h : rTable w lo hi cs x) (hh : hi ≤ w.heap.size)
    (hr : RowKit.Hid ((k < (szT x : Nat) ∧ r = -1) ∨ ((szT x : Nat) ≤ k ∧ r = k - (szT x : Nat)))) :
    Calls Try.prog 71 #[.agg cs.toArray, .int .i64 k] w fun e w' => e = .returned (.int .i64 r) ∧ Below w.heap.size w w' := by
  obtain ⟨a, cap, rfl, hs, hl, hels⟩ := table_open h
  have he : szT x = x.1.size + tot x.2.2 := by rw [← szG_tot]; rfl
  have hrr := hr.out
  rw [he] at hrr
  have B1 := hid ((Below.refl w.heap.size w).alloc (Nat.le_refl _) (.cells #[.string x.1, .int .i64 x.2.1, .slice a x.2.2.length cap] 95))
  have hx := len_of hels
  have G1 := hid ((grd_of hels).below (B1.out.mono hh))
  have hsz1 := B1.out.size
  clear h hr he hels
  by_cases h1 : k < (x.1.size : Int)
  · have t1 : k - (x.1.size : Int) < 0 := by omega
    obtain rfl : r = -1 := by omega
    clear hrr hx
    go_enter Try.func71, Try.ntmps71
    go_wp2
    go_ret
    exact ⟨rfl, B1.out⟩
  · have t1 : ¬ (k - (x.1.size : Int) < 0) := by omega
    by_cases h2 : k - (x.1.size : Int) < (tot x.2.2 : Nat)
    · obtain rfl : r = -1 := by omega
      have S := hid (sz_rel x.2.1 a cap hi x.2.2 (k - (x.1.size : Int)) (-1) _ (by omega) (by omega) hl hx G1.out (by omega) (hid (.inl ⟨h2, rfl⟩)))
      clear hrr h2 hx
      go_enter Try.func71, Try.ntmps71
      go_wp2_with fail
      refine S.out.mono ?_
      rintro e w1 ⟨rfl, hb⟩
      have HB := hid (B1.out.trans (hb.mono hsz1))
      clear hb
      go_wp2
      go_ret
      exact ⟨rfl, HB.out⟩
    · have hre : r = k - (x.1.size : Int) - (tot x.2.2 : Nat) := by omega
      subst hre
      have S := hid (sz_rel x.2.1 a cap hi x.2.2 (k - (x.1.size : Int)) (k - (x.1.size : Int) - (tot x.2.2 : Nat)) _ (by omega) (by omega) hl hx G1.out (by omega) (hid (.inr ⟨by omega, rfl⟩)))
      have t2 : ¬ (k - (x.1.size : Int) - (tot x.2.2 : Nat) < 0) := by omega
      clear hrr h2 hx
      go_enter Try.func71, Try.ntmps71
      go_wp2_with fail
      refine S.out.mono ?_
      rintro e w1 ⟨rfl, hb⟩
      have HB := hid (B1.out.trans (hb.mono hsz1))
      clear hb
      go_wp2
      go_ret
      exact ⟨rfl, HB.out⟩

set_option maxRecDepth 100000 in
theorem to_table (cs : List Value) (x : TableD) (lo hi : Nat) (w : World) (hs : szT x ≤ 1048576) (h : rTable w lo hi cs x) (hh : hi ≤ w.heap.size) :
    Calls Try.prog 73 #[.agg cs.toArray] w fun e w' => ∃ ds : List Value, e = .returned (.agg ds.toArray) ∧ rTable w' w.heap.size w'.heap.size ds x ∧ Below w.heap.size w w' := by
  obtain ⟨a, cap, rfl, hz1, hz2, hels⟩ := table_open h
  have hx := hid (len_of hels)
  have hrd := grd_of hels
  have hn : tot x.2.2 ≤ 1048576 := by rw [← szG_tot]; unfold szT at hs; omega
  have K1 := hid ((hasl_new (w.alloc (.cells #[.string x.1, .int .i64 x.2.1, .slice a x.2.2.length cap] 95)) [.string ⟨#[]⟩, .int .i64 0, .slice none 0 0] 73).alloc (.cells #[.string x.1, .int .i64 0, .slice none 0 0] 73))
  have K2 := hid (hasl_new ((w.alloc (.cells #[.string x.1, .int .i64 x.2.1, .slice a x.2.2.length cap] 95)).alloc (.cells #[.string ⟨#[]⟩, .int .i64 0, .slice none 0 0] 73)) [.string x.1, .int .i64 0, .slice none 0 0] 73)
  have B3 := hid ((((Below.refl w.heap.size w).alloc (Nat.le_refl _) (.cells #[.string x.1, .int .i64 x.2.1, .slice a x.2.2.length cap] 95)).alloc (by simp) (.cells #[.string ⟨#[]⟩, .int .i64 0, .slice none 0 0] 73)).alloc (by simp; omega) (.cells #[.string x.1, .int .i64 0, .slice none 0 0] 73))
  have T := hid (to_rel x.2.1 a cap hi x.2.2 _ hn (hrd.below (B3.out.mono hh)) (by simp; omega))
  simp only [World.size_alloc] at K1 K2
  clear h hels hrd
  go_enter Try.func73, Try.ntmps73
  go_wp2_with fail
  refine T.out.mono ?_
  rintro e w1 ⟨vs, g, rfl, hg, hown, hb⟩
  have hs1 := hb.size
  simp only [World.size_alloc] at hs1 hg hown hb ⊢
  have P1 := K1.out.below (hb.mono (by first | exact Nat.le_refl _ | simp))
  have P2 := K2.out.below (hb.mono (by first | exact Nat.le_refl _ | simp))
  have HA := hid (of_gown (hi := w1.heap.size) hx.out hown (Nat.le_refl _))
  have HB := hid (B3.out.trans (hb.mono (by omega)))
  have HR := hid (((((P1.far (c := w.heap.size + 1 + 1) (o := 1) (by omega) (.int .i64 x.2.1)).far (c := w.heap.size + 1 + 1) (o := 2) (by omega) (.slice (some ⟨g, 0, none⟩) x.2.2.length x.2.2.length)).put 0 (.string x.1)).put 1 (.int .i64 x.2.1)).put 2 (.slice (some ⟨g, 0, none⟩) x.2.2.length x.2.2.length))
  obtain ⟨p0, p1, p2, p3, p4, p5, p6⟩ := P1.three
  obtain ⟨q0, q1, q2, q3, q4, q5, q6⟩ := P2.three
  obtain ⟨r0, r1, r2, _, _, _, _⟩ := HasL.three HR.out
  clear hown hb P1 P2 K1 K2 T
  go_wp2
  refine bodyPost_ret (v := .agg #[.string x.1, .int .i64 x.2.1, .slice (some ⟨g, 0, none⟩) x.2.2.length x.2.2.length]) (by simp [results, Try.results73, go_sem, r0, r1, r2]) rfl ⟨[.string x.1, .int .i64 x.2.1, .slice (some ⟨g, 0, none⟩) x.2.2.length x.2.2.length], rfl, ?_, ?_⟩
  · exact table_mk hz1 hz2 (((((((HA.out.keep (good_sl good_int) (sm_set _ (.inl (by omega)))).keep (good_sl good_int) (sm_set _ (.inl (by omega)))).keep (good_sl good_int) (sm_set _ (.inl (by omega)))).keep (good_sl good_int) (sm_set _ (.inl (by omega)))).keep (good_sl good_int) (sm_set _ (.inl (by omega)))).up (good_sl good_int) (by omega) (by simp)))
  · exact ((((HB.out.setCell (by simp; omega) _).setCell (by simp; omega) _).setCell (by simp) _).setCell (by simp) _).setCell (by simp) _

theorem eq_table (cs ds : List Value) (x : TableD) (lo hi lo' hi' : Nat) (w : World) (hs : szT x ≤ 1048576) (h : rTable w lo hi cs x) (h' : rTable w lo' hi' ds x) (hh : hi ≤ w.heap.size) (hh' : hi' ≤ w.heap.size) :
    Calls Try.prog 78 #[.agg cs.toArray, .agg ds.toArray] w fun e w' => e = .returned (.bool true) ∧ Below w.heap.size w w' := by
  obtain ⟨a, cap, rfl, hz1, hz2, hels⟩ := table_open h
  obtain ⟨a', cap', rfl, _, _, hels'⟩ := table_open h'
  have hn : tot x.2.2 ≤ 1048576 := by rw [← szG_tot]; unfold szT at hs; omega
  have hB1 := hid (((Below.refl w.heap.size w).alloc (Nat.le_refl _) (.cells #[.string x.1, .int .i64 x.2.1, .slice a x.2.2.length cap] 73)).alloc (by simp) (.cells #[.string x.1, .int .i64 x.2.1, .slice a' x.2.2.length cap'] 73))
  have E := hid (eq_rel x.2.1 a a' cap cap' x.2.2 hi hi' _ hn ((grd_of hels).below (hB1.out.mono hh)) ((grd_of hels').below (hB1.out.mono hh')) (by simp; omega) (by simp; omega))
  clear h h' hels hels'
  go_enter Try.func78, Try.ntmps78
  go_wp2_with fail
  refine E.out.mono ?_
  rintro e w' ⟨rfl, hb⟩
  have HB := hid (hB1.out.trans (hb.mono (by simp; omega)))
  clear hb
  go_wp2
  go_ret
  exact ⟨rfl, HB.out⟩

theorem sz_tableS (a : Option Addr) (cap : Nat) (xs : List TableD) (lo hi : Nat) (k r : Int) (w : World) (h0 : 0 ≤ k) (hk : k ≤ 1048576) (hn : xs.length ≤ 9223372036854775807) (h : Els 3 rTable w lo hi a xs) (hh : hi ≤ w.heap.size)
    (hr : RowKit.Hid ((k < (tots szT xs : Nat) ∧ r = -1) ∨ ((tots szT xs : Nat) ≤ k ∧ r = k - (tots szT xs : Nat)))) :
    Calls Try.prog 43 #[.slice a xs.length cap, .int .i64 k] w fun e w' => e = .returned (.int .i64 r) ∧ Below w.heap.size w w' := by
  have htl := tots_len szT xs
  by_cases hlen : k < (xs.length : Int)
  · have h1 : k - (xs.length : Int) < 0 := by omega
    have hre : r = -1 := by rcases hr.out with h | h <;> omega
    subst hre
    clear h hr htl
    go_enter Try.func43, Try.ntmps43
    go_wp2
    go_ret
    exact ⟨rfl, Below.refl _ _⟩
  · have h1 : ¬ (k - (xs.length : Int) < 0) := by omega
    go_enter Try.func43, Try.ntmps43
    go_wp2
    go_loopw [1, 5] (fun l i wr => ∃ (j : Nat) (z : Int), j ≤ xs.length ∧ i = .int .i64 j ∧ l = .int .i64 z ∧ 0 ≤ z ∧ z ≤ 1048576 ∧ Hid (z = k - xs.length - (sumf szT xs j : Nat)) ∧ Hid (Below w.heap.size w wr)) (fun _ i _ => xs.length - (intOf i).toNat)
    case atStart => exact ⟨0, _, Nat.zero_le _, rfl, rfl, by omega, by omega, hid (by rw [sumf_zero]; simp), hid (Below.refl _ _)⟩
    case round =>
      obtain ⟨j, z, hj, rfl, rfl, hz0, hz1, hz, hb⟩ := hrel
      clear h1 hlen
      by_cases hlt : j < xs.length
      · obtain ⟨b, off, aj, capj, rfl, _, hbB, c0, c1, c2, rx⟩ := tables_at (h.grow good_table hb.out hh) j hlt
        have hst := sumf_step szT xs j hlt
        have hmono := sumf_mono szT xs (show j + 1 ≤ xs.length by omega) (Nat.le_refl _)
        have hzz := hz.out
        have hrr := hr.out
        have ht : (tots szT xs : Int) = xs.length + (sumf szT xs xs.length : Nat) := by unfold tots; omega
        have hsz := hb.out.size
        by_cases hover : z < (szT xs[j] : Nat)
        · have hre : r = -1 := by rcases hrr with h | h <;> omega
          subst hre
          have S := hid (sz_table _ xs[j] lo hi z (-1) wr hz0 hz1 rx (by omega) (hid (.inl ⟨hover, rfl⟩)))
          clear h hst hmono hzz hrr ht hover htl rx
          go_wp2_with fail
          refine S.out.mono ?_
          rintro e w2 ⟨rfl, hb2⟩
          have HB := hid (hb.out.trans (hb2.mono hsz))
          clear hb2
          go_wp2
          go_ret
          exact ⟨rfl, HB.out⟩
        · have S := hid (sz_table _ xs[j] lo hi z (z - (szT xs[j] : Nat)) wr hz0 hz1 rx (by omega) (hid (.inr ⟨by omega, rfl⟩)))
          have h2 : ¬ (z - (szT xs[j] : Nat) < 0) := by omega
          have h3 : 0 ≤ z - (szT xs[j] : Nat) := by omega
          have hz2 := hid (show z - (szT xs[j] : Nat) = k - xs.length - (sumf szT xs (j + 1) : Nat) by omega)
          clear h hst hmono hzz hrr ht hover htl rx
          go_wp2_with fail
          refine S.out.mono ?_
          rintro e w2 ⟨rfl, hb2⟩
          have HB := hid (hb.out.trans (hb2.mono hsz))
          clear hb2
          go_wp2
          go_roundw
          case rel => exact ⟨j + 1, _, by omega, by go_num, rfl, by omega, by omega, hz2, HB⟩
          case measure => simp [intOf]; omega
      · have e : j = xs.length := by omega
        subst e
        have hre := hid (show z = r by
          have hzz := hz.out
          have ht : (tots szT xs : Int) = xs.length + (sumf szT xs xs.length : Nat) := by unfold tots; omega
          rcases hr.out with h | h <;> omega)
        clear h htl
        go_wp2
        go_ret
        exact ⟨by rw [hre.out]; rfl, hb.out⟩

theorem infoTable : (Try.prog.info? 73).map (fun i => (i.zero, i.size, i.bytes)) = some (some (.agg #[.string ⟨#[]⟩, .int .i64 0, .slice none 0 0]), 3, 48) := by kernel_rfl

set_option maxRecDepth 100000 in
/-- A copy of a slice: a slice of the call's own. -/
theorem to_tableS (a : Option Addr) (cap : Nat) (xs : List TableD) (lo hi : Nat) (w : World) (hn : tots szT xs ≤ 1048576) (h : Els 3 rTable w lo hi a xs) (hh : hi ≤ w.heap.size) :
    Calls Try.prog 46 #[.slice a xs.length cap] w fun e w' => e = .returned (.slice (some ⟨w.heap.size, 0, none⟩) xs.length xs.length) ∧ Els 3 rTable w' w.heap.size w'.heap.size (some ⟨w.heap.size, 0, none⟩) xs ∧ Below w.heap.size w w' := by
  have hn1 : xs.length ≤ 1048576 := by have := tots_len szT xs; omega
  obtain ⟨i0, hi0, hz0, hz1, hz2⟩ := info_parts infoTable
  have hmk := make_k (P := Try.prog) w 42 73 i0 _ 3 48 Try.underlying42 hi0 hz0 hz1 hz2 (by omega) xs.length hn1
  have hat0 := hid (own_k w 73 (Value.cells (.agg #[.string ⟨#[]⟩, .int .i64 0, .slice none 0 0])) 3 xs.length hn1)
  go_enter Try.func46, Try.ntmps46
  go_wp2
  go_loopw [4] (fun i wr => ∃ (j : Nat) (cs : List Value), j ≤ xs.length ∧ i = .int .i64 j ∧ Hid (wr.ownsRow w.heap.size 73 3 (.slice (some ⟨w.heap.size, 0, none⟩) xs.length xs.length) xs.length cs) ∧ Hid (Fil 3 rTable wr (w.heap.size + 1) wr.heap.size cs xs j) ∧ Hid (Below w.heap.size w wr) ∧ w.heap.size < wr.heap.size) (fun i _ => xs.length - (intOf i).toNat)
  case atStart => exact ⟨0, _, Nat.zero_le _, rfl, hat0, hid Fil.zero, hid ((Below.refl _ _).alloc (Nat.le_refl _) _), by simp⟩
  case round =>
    obtain ⟨j, cs, hj, rfl, hown, hfil, hb, hsz⟩ := hrel
    clear hmk
    by_cases hlt : j < xs.length
    · obtain ⟨b, off, aj, capj, rfl, _, hbB, c0, c1, c2, rx⟩ := tables_at (h.grow good_table hb.out hh) j hlt
      have hrow : szT xs[j] ≤ 1048576 := by have := elem_le szT xs j hlt; omega
      have T := hid (to_table _ xs[j] lo hi wr hrow rx (by omega))
      have hlt' : (j : Int) < (xs.length : Int) := by omega
      have h0' : (0 : Int) ≤ (j : Int) := by omega
      clear h rx
      go_wp2_with fail
      refine T.out.mono ?_
      rintro e w1 ⟨ds, rfl, rd, hb1⟩
      obtain ⟨aD, capD, hds, _⟩ := table_open rd
      subst hds
      have O1 := ownk_below hown.out hb1 (fun q hq => by simp [Value.ownBlock] at hq; omega)
      have HF := hid (hfil.out.keep good_table (sm_below hb1 (Nat.le_refl _)) hb1.size)
      have HD := hid ((good_table).up rd (show w.heap.size + 1 ≤ wr.heap.size by omega) (Nat.le_refl _))
      have hsz1 := hb1.size

      obtain ⟨u0, e0⟩ := ownk_cell O1 j 0 hlt (by omega)
      rw [Nat.add_zero] at e0
      obtain ⟨u1, e1⟩ := ownk_cell O1 j 1 hlt (by omega)
      obtain ⟨u2, e2⟩ := ownk_cell O1 j 2 hlt (by omega)
      have f0 := World.ownsRow.frozenAt O1 (j * 3)
      have f1 := World.ownsRow.frozenAt O1 (j * 3 + 1)
      have f2 := World.ownsRow.frozenAt O1 (j * 3 + 2)
      have O2 := (World.ownsRow.stored O1 (j * 3) (.string xs[j].1)).1
      have O3 := (World.ownsRow.stored O2 (j * 3 + 1) (.int .i64 xs[j].2.1)).1
      have O4 := (World.ownsRow.stored O3 (j * 3 + 2) (.slice aD xs[j].2.2.length capD)).1
      have HO := hid O4
      have HS := hid (show Sm (w.heap.size + 1) w1.heap.size w1 (((w1.setCell ⟨w.heap.size, j * 3, none⟩ (.string xs[j].1)).setCell ⟨w.heap.size, j * 3 + 1, none⟩ (.int .i64 xs[j].2.1)).setCell ⟨w.heap.size, j * 3 + 2, none⟩ (.slice aD xs[j].2.2.length capD)) from sm_trans (sm_trans (sm_set _ (.inl (Nat.lt_succ_self _))) (sm_set _ (.inl (Nat.lt_succ_self _)))) (sm_set _ (.inl (Nat.lt_succ_self _))))
      have hwz : w1.heap.size ≤ (((w1.setCell ⟨w.heap.size, j * 3, none⟩ (.string xs[j].1)).setCell ⟨w.heap.size, j * 3 + 1, none⟩ (.int .i64 xs[j].2.1)).setCell ⟨w.heap.size, j * 3 + 2, none⟩ (.slice aD xs[j].2.2.length capD)).heap.size := by simp
      have HF2 := hid ((HF.out.keep good_table HS.out hwz).step hlt rfl hown.out.1 (good_table.up (good_table.keep HD.out HS.out) (Nat.le_refl _) hwz))
      have HB := hid ((((hb.out.trans (hb1.mono (Nat.le_of_lt hsz))).setCell (p := ⟨w.heap.size, j * 3, none⟩) (Nat.le_refl _) (.string xs[j].1)).setCell (p := ⟨w.heap.size, j * 3 + 1, none⟩) (Nat.le_refl _) (.int .i64 xs[j].2.1)).setCell (p := ⟨w.heap.size, j * 3 + 2, none⟩) (Nat.le_refl _) (.slice aD xs[j].2.2.length capD))
      have hwl : w.heap.size < (((w1.setCell ⟨w.heap.size, j * 3, none⟩ (.string xs[j].1)).setCell ⟨w.heap.size, j * 3 + 1, none⟩ (.int .i64 xs[j].2.1)).setCell ⟨w.heap.size, j * 3 + 2, none⟩ (.slice aD xs[j].2.2.length capD)).heap.size := by omega
      clear O1 O2 O3 O4 HF HD HS hb1 rd hwz T
      go_wp2_with fail
      go_roundw
      case rel => exact ⟨j + 1, _, by omega, by go_num, HO, HF2, HB, hwl⟩
      case measure => simp [intOf]; omega
    · have e : j = xs.length := by omega
      subst e
      have HE := hid (hfil.out.done good_table hown.out rfl (show w.heap.size ≤ w.heap.size + 1 by omega) (Nat.le_refl _) (Nat.le_refl _) hsz)
      clear h hown hfil
      go_wp2
      go_ret
      exact ⟨rfl, HE.out, hb.out⟩

set_option maxRecDepth 100000 in
/-- Two readings of one slice are the same. -/
theorem eq_tableS (a a' : Option Addr) (cap cap' : Nat) (xs : List TableD) (lo hi lo' hi' : Nat) (w : World) (hn : tots szT xs ≤ 1048576) (h : Els 3 rTable w lo hi a xs) (h' : Els 3 rTable w lo' hi' a' xs) (hh : hi ≤ w.heap.size) (hh' : hi' ≤ w.heap.size) :
    Calls Try.prog 50 #[.slice a xs.length cap, .slice a' xs.length cap'] w fun e w' => e = .returned (.bool true) ∧ Below w.heap.size w w' := by
  have hn1 : xs.length ≤ 1048576 := by have := tots_len szT xs; omega
  have hnl : ((xs.length : Int) != (xs.length : Int)) = false := by simp
  go_enter Try.func50, Try.ntmps50
  go_wp2
  go_loopw [5] (fun i wr => ∃ j : Nat, j ≤ xs.length ∧ i = .int .i64 j ∧ Hid (Below w.heap.size w wr)) (fun i _ => xs.length - (intOf i).toNat)
  case atStart => exact ⟨0, Nat.zero_le _, rfl, hid (Below.refl _ _)⟩
  case round =>
    obtain ⟨j, hj, rfl, hb⟩ := hrel
    by_cases hlt : j < xs.length
    · obtain ⟨b, off, aj, capj, rfl, _, hbB, c0, c1, c2, rx⟩ := tables_at (h.grow good_table hb.out hh) j hlt
      obtain ⟨b', off', aj', capj', rfl, _, hbB', c0', c1', c2', rx'⟩ := tables_at (h'.grow good_table hb.out hh') j hlt
      have hrow : szT xs[j] ≤ 1048576 := by have := elem_le szT xs j hlt; omega
      have hsz := hb.out.size
      have E := hid (fun W (hW : Below wr.heap.size wr W) => eq_table _ _ xs[j] lo hi lo' hi' W hrow (good_table.grow rx hW (by omega)) (good_table.grow rx' hW (by omega)) (by have := hW.size; omega) (by have := hW.size; omega))
      clear h h' rx rx'
      have hlt' : (j : Int) < (xs.length : Int) := by omega
      have h0' : (0 : Int) ≤ (j : Int) := by omega
      have hk0 := kp_refl wr
      go_upto_region 6 with fail
      go_cut [26] (fun s wx => s = .bool false ∧ Kp wr 0 wx)
      case first =>
        go_region_held3 (fun w' => w'.cell? ⟨b, off + j * 3, none⟩ = some (.string xs[j].1) ∧ w'.cell? ⟨b, off + j * 3 + 1, none⟩ = some (.int .i64 xs[j].2.1) ∧ w'.cell? ⟨b, off + j * 3 + 2, none⟩ = some (.slice aj xs[j].2.2.length capj) ∧ w'.cell? ⟨b', off' + j * 3, none⟩ = some (.string xs[j].1) ∧ w'.cell? ⟨b', off' + j * 3 + 1, none⟩ = some (.int .i64 xs[j].2.1) ∧ w'.cell? ⟨b', off' + j * 3 + 2, none⟩ = some (.slice aj' xs[j].2.2.length capj') ∧ Kp wr 0 w')
          (first
            | (go_split_ands
               repeat' apply And.intro
               all_goals (first | (with_reducible assumption) | (with_reducible exact cell_drew (by assumption)) | (with_reducible exact Kp.drew (by assumption)) | (with_reducible exact Kp.cell (by assumption) hb1 (by omega) (by assumption)) | (with_reducible exact Kp.call (by assumption) hb1))))
          (first
            | (go_split_ands; go_at_call 78; (with_reducible refine (E.out _ (Kp.bel (n := 0) (by with_reducible assumption))).mono ?_); rintro e wU ⟨rfl, hb1⟩))
        all_goals
          go_wp2_with fail
          go_meet
          go_split_ands
          exact ⟨rfl, by with_reducible assumption⟩
      case rest =>
        obtain ⟨rfl, hkp⟩ := hcut
        have HB := hid (hb.out.trans (hkp.bel.mono hsz))
        clear hkp hk0
        go_wp2
        go_roundw
        case rel => exact ⟨j + 1, by omega, by go_num, HB⟩
        case measure => simp [intOf]; omega
    · clear h h'
      go_wp2
      go_ret
      exact ⟨rfl, hb.out⟩


theorem sz_db (cs : List Value) (x : List TableD) (lo hi : Nat) (k r : Int) (w : World) (h0 : 0 ≤ k) (hk : k ≤ 1048576) (h : rDb w lo hi cs x) (hh : hi ≤ w.heap.size)
    (hr : RowKit.Hid ((k < (szD x : Nat) ∧ r = -1) ∨ ((szD x : Nat) ≤ k ∧ r = k - (szD x : Nat)))) :
    Calls Try.prog 17 #[.agg cs.toArray, .int .i64 k] w fun e w' => e = .returned (.int .i64 r) ∧ Below w.heap.size w w' := by
  obtain ⟨a, cap, rfl, hl, hels⟩ := db_open h
  have B1 := hid ((Below.refl w.heap.size w).alloc (Nat.le_refl _) (.cells #[.slice a x.length cap] 39))
  have hsz1 := B1.out.size
  have S := hid (sz_tableS a cap x lo hi k r _ h0 hk hl (hels.keep good_table (sm_below B1.out hh)) (by omega) hr)
  clear h hels
  rcases (by rcases hr.out with h | h <;> omega : r = -1 ∨ ¬ r < 0) with rfl | h3
  · clear hr
    go_enter Try.func17, Try.ntmps17
    go_wp2_with fail
    refine S.out.mono ?_
    rintro e w1 ⟨rfl, hb⟩
    have HB := hid (B1.out.trans (hb.mono hsz1))
    clear hb
    go_wp2
    go_ret
    exact ⟨rfl, HB.out⟩
  · clear hr
    go_enter Try.func17, Try.ntmps17
    go_wp2_with fail
    refine S.out.mono ?_
    rintro e w1 ⟨rfl, hb⟩
    have HB := hid (B1.out.trans (hb.mono hsz1))
    clear hb
    go_wp2
    go_ret
    exact ⟨rfl, HB.out⟩

theorem to_db (cs : List Value) (x : List TableD) (lo hi : Nat) (w : World) (hs : szD x ≤ 1048576) (h : rDb w lo hi cs x) (hh : hi ≤ w.heap.size) :
    Calls Try.prog 19 #[.agg cs.toArray] w fun e w' => ∃ ds : List Value, e = .returned (.agg ds.toArray) ∧ rDb w' w.heap.size w'.heap.size ds x ∧ Below w.heap.size w w' := by
  obtain ⟨a, cap, rfl, hz1, hels⟩ := db_open h
  have K1 := hid ((hasl_new (w.alloc (.cells #[.slice a x.length cap] 39)) [.slice none 0 0] 44).alloc (.cells #[.slice none 0 0] 44))
  have K2 := hid (hasl_new ((w.alloc (.cells #[.slice a x.length cap] 39)).alloc (.cells #[.slice none 0 0] 44)) [.slice none 0 0] 44)
  have B3 := hid ((((Below.refl w.heap.size w).alloc (Nat.le_refl _) (.cells #[.slice a x.length cap] 39)).alloc (by simp) (.cells #[.slice none 0 0] 44)).alloc (by simp; omega) (.cells #[.slice none 0 0] 44))
  have T := hid (to_tableS a cap x lo hi _ hs (hels.keep good_table (sm_below B3.out hh)) (by simp; omega))
  simp only [World.size_alloc] at K1 K2
  clear h hels
  go_enter Try.func19, Try.ntmps19
  go_wp2_with fail
  refine T.out.mono ?_
  rintro e w1 ⟨rfl, hel, hb⟩
  have hs1 := hb.size
  simp only [World.size_alloc] at hs1 hel hb ⊢
  have P1 := K1.out.below (hb.mono (by first | exact Nat.le_refl _ | simp))
  have P2 := K2.out.below (hb.mono (by first | exact Nat.le_refl _ | simp))
  have HA := hid hel
  have HB := hid (B3.out.trans (hb.mono (by omega)))
  have HR := hid ((P1.far (c := w.heap.size + 1 + 1) (o := 0) (by omega) (.slice (some ⟨w.heap.size + 1 + 1 + 1, 0, none⟩) x.length x.length)).put 0 (.slice (some ⟨w.heap.size + 1 + 1 + 1, 0, none⟩) x.length x.length))
  obtain ⟨p0, p1, p2⟩ := P1.one
  obtain ⟨q0, q1, q2⟩ := P2.one
  obtain ⟨r0, _, _⟩ := HasL.one HR.out
  clear hel hb P1 P2 K1 K2 T
  go_wp2
  refine bodyPost_ret (v := .agg #[.slice (some ⟨w.heap.size + 1 + 1 + 1, 0, none⟩) x.length x.length]) (by simp [results, Try.results19, go_sem, r0]) rfl ⟨[.slice (some ⟨w.heap.size + 1 + 1 + 1, 0, none⟩) x.length x.length], rfl, ?_, ?_⟩
  · exact db_mk hz1 (((HA.out.keep good_table (sm_set _ (.inl (by omega)))).keep good_table (sm_set _ (.inl (by omega)))).up good_table (by omega) (by simp))
  · exact (HB.out.setCell (by simp; omega) _).setCell (by simp) _

theorem eq_db (cs ds : List Value) (x : List TableD) (lo hi lo' hi' : Nat) (w : World) (hs : szD x ≤ 1048576) (h : rDb w lo hi cs x) (h' : rDb w lo' hi' ds x) (hh : hi ≤ w.heap.size) (hh' : hi' ≤ w.heap.size) :
    Calls Try.prog 21 #[.agg cs.toArray, .agg ds.toArray] w fun e w' => e = .returned (.bool true) ∧ Below w.heap.size w w' := by
  obtain ⟨a, cap, rfl, _, hels⟩ := db_open h
  obtain ⟨a', cap', rfl, _, hels'⟩ := db_open h'
  have hB1 := hid (((Below.refl w.heap.size w).alloc (Nat.le_refl _) (.cells #[.slice a x.length cap] 44)).alloc (by simp) (.cells #[.slice a' x.length cap'] 44))
  have E := hid (eq_tableS a a' cap cap' x lo hi lo' hi' _ hs (hels.keep good_table (sm_below hB1.out hh)) (hels'.keep good_table (sm_below hB1.out hh')) (by simp; omega) (by simp; omega))
  clear h h' hels hels'
  go_enter Try.func21, Try.ntmps21
  go_wp2_with fail
  refine E.out.mono ?_
  rintro e w' ⟨rfl, hb⟩
  have HB := hid (hB1.out.trans (hb.mono (by simp; omega)))
  clear hb
  go_wp2
  go_ret
  exact ⟨rfl, HB.out⟩
end Go.Proofs.Ytpeojpdgknamgaa.TableLaw
