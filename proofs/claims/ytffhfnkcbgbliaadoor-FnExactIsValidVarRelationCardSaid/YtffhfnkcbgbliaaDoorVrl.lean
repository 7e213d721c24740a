/- Relations whose columns are labeled by variables: read, opened; contracts of the laws' own helpers on them: sizes, copies, equality. -/
import Derived.Test.YtffhfnkcbgbliaaDoorToF
import Derived.Test.YtffhfnkcbgbliaaDoorDatArg
import Derived.Test.YtffhfnkcbgbliaaDoorRelLaw
namespace Go.Proofs.YtffhfnkcbgbliaaDoor.Vrl
open Go.RowKit
open Go.Proofs.YtffhfnkcbgbliaaDoor.Num Go.Proofs.YtffhfnkcbgbliaaDoor.IntRow Go.Proofs.YtffhfnkcbgbliaaDoor.IntLaw Go.Proofs.YtffhfnkcbgbliaaDoor.Grid Go.Proofs.YtffhfnkcbgbliaaDoor.GridMore Go.Proofs.YtffhfnkcbgbliaaDoor.GridLaw Go.Proofs.YtffhfnkcbgbliaaDoor.GridLaw2 Go.Proofs.YtffhfnkcbgbliaaDoor.RelLaw Go.Proofs.YtffhfnkcbgbliaaDoor.RelKit Go.Proofs.YtffhfnkcbgbliaaDoor.Rdr Go.Proofs.YtffhfnkcbgbliaaDoor.Dat Go.Proofs.YtffhfnkcbgbliaaDoor.HasL Go.Proofs.YtffhfnkcbgbliaaDoor.TableLaw Go.Proofs.YtffhfnkcbgbliaaDoor.Thaw Go.Proofs.YtffhfnkcbgbliaaDoor.ToF Go.Proofs.YtffhfnkcbgbliaaDoor.DatArg
set_option linter.unusedVariables false

abbrev VrelD := List Int × RelD
def rVrel : Reader VrelD := rTwo rRow rRel
theorem good_vrel : Gd rVrel := good_two Dat.good_row good_rel
theorem vrel_open {w : World} {lo hi : Nat} {cs : List Value} {x : VrelD} (h : rVrel w lo hi cs x) : ∃ a cap o capo, cs = [.slice a x.1.length cap, .int .i64 x.2.1, .slice o x.2.2.length capo] ∧ x.1.length ≤ 9223372036854775807 ∧ x.2.2.length ≤ 9223372036854775807 ∧ Els 1 rInt w lo hi a x.1 ∧ Els 1 (rSl 1 rInt) w lo hi o x.2.2 := by
  obtain ⟨c, d, rfl, ⟨h1, a, cap, rfl, _, h2⟩, hr⟩ := h
  obtain ⟨o, capo, rfl, h3, h4⟩ := rel_open hr
  exact ⟨a, cap, o, capo, rfl, h1, h3, h2, h4⟩
theorem vrel_mk {w : World} {lo hi : Nat} {a o : Option Addr} {cap capo : Nat} {x : VrelD} (h1 : x.1.length ≤ 9223372036854775807) (h3 : x.2.2.length ≤ 9223372036854775807) (h2 : Els 1 rInt w lo hi a x.1) (h4 : Els 1 (rSl 1 rInt) w lo hi o x.2.2) (hc : x.1.length ≤ cap := by first | exact Nat.le_refl _ | omega) (hc2 : x.2.2.length ≤ capo := by first | exact Nat.le_refl _ | omega) : rVrel w lo hi [.slice a x.1.length cap, .int .i64 x.2.1, .slice o x.2.2.length capo] x :=
  ⟨[_], [_, _], rfl, ⟨h1, a, cap, rfl, hc, h2⟩, rel_mk h3 h4 hc2⟩
def szV (x : VrelD) : Nat := x.1.length + szG x.2.2
theorem opn_vrel : Opn Tryd.prog 27 rVrel := opn_struct2 Tryd.underlying27 rfl (by kernel_rfl) (by kernel_rfl) opn_row opn_rel

theorem sz_vrel (cs : List Value) (x : VrelD) (lo hi : Nat) (k r : Int) (w : World) (h0 : 0 ≤ k) (hk : k ≤ 1048576) (h : rVrel w lo hi cs x) (hh : hi ≤ w.heap.size)
    (hr : RowKit.Hid ((k < (szV x : Nat) ∧ r = -1) ∨ ((szV x : Nat) ≤ k ∧ r = k - (szV x : Nat)))) :
    Calls Tryd.prog 6 #[.agg cs.toArray, .int .i64 k] w fun e w' => e = .returned (.int .i64 r) ∧ Below w.heap.size w w' := by
  obtain ⟨a, cap, o, capo, rfl, hl, hl2, hels, hels2⟩ := vrel_open h
  have he : szV x = x.1.length + tot x.2.2 := by rw [← szG_tot]; rfl
  have hrr := hr.out
  rw [he] at hrr
  have B1 := hid ((Below.refl w.heap.size w).alloc (Nat.le_refl _) (.cells #[.slice a x.1.length cap, .int .i64 x.2.1, .slice o x.2.2.length capo] 27))
  have hx := len_of hels2
  have G1 := hid ((grd_of hels2).below (B1.out.mono hh))
  have hsz1 := B1.out.size
  clear h hr he hels hels2
  by_cases h1 : k < (x.1.length : Int)
  · obtain rfl : r = -1 := by omega
    have S := hid (sz_int a x.1.length cap k (-1) (w.alloc (.cells #[.slice a x.1.length cap, .int .i64 x.2.1, .slice o x.2.2.length capo] 27)) h0 hk hl (.inl ⟨h1, rfl⟩))
    clear hrr hx h1
    go_enter Tryd.func6, Tryd.ntmps6
    go_wp2_with fail
    with_reducible refine S.out.mono ?_
    rintro e w1 ⟨rfl, rfl⟩
    go_wp2
    go_ret
    exact ⟨rfl, B1.out⟩
  · have S0 := hid (sz_int a x.1.length cap k (k - x.1.length) (w.alloc (.cells #[.slice a x.1.length cap, .int .i64 x.2.1, .slice o x.2.2.length capo] 27)) h0 hk hl (.inr ⟨by omega, rfl⟩))
    have t1 : ¬ (k - (x.1.length : Int) < 0) := by omega
    by_cases h2 : k - (x.1.length : Int) < (tot x.2.2 : Nat)
    · obtain rfl : r = -1 := by omega
      have S := hid (sz_rel x.2.1 o capo hi x.2.2 (k - (x.1.length : Int)) (-1) _ (by omega) (by omega) hl2 hx G1.out (by omega) (hid (.inl ⟨h2, rfl⟩)))
      clear hrr h2 hx h1
      go_enter Tryd.func6, Tryd.ntmps6
      go_wp2_with fail
      with_reducible refine S0.out.mono ?_
      rintro e w1 ⟨rfl, rfl⟩
      go_wp2_with fail
      refine S.out.mono ?_
      rintro e w1 ⟨rfl, hb⟩
      have HB := hid (B1.out.trans (hb.mono hsz1))
      clear hb
      go_wp2
      go_ret
      exact ⟨rfl, HB.out⟩
    · have hre : r = k - (x.1.length : Int) - (tot x.2.2 : Nat) := by omega
      subst hre
      have S := hid (sz_rel x.2.1 o capo hi x.2.2 (k - (x.1.length : Int)) (k - (x.1.length : Int) - (tot x.2.2 : Nat)) _ (by omega) (by omega) hl2 hx G1.out (by omega) (hid (.inr ⟨by omega, rfl⟩)))
      have t2 : ¬ (k - (x.1.length : Int) - (tot x.2.2 : Nat) < 0) := by omega
      clear hrr h2 hx h1
      go_enter Tryd.func6, Tryd.ntmps6
      go_wp2_with fail
      with_reducible refine S0.out.mono ?_
      rintro e w1 ⟨rfl, rfl⟩
      go_wp2_with fail
      refine S.out.mono ?_
      rintro e w1 ⟨rfl, hb⟩
      have HB := hid (B1.out.trans (hb.mono hsz1))
      clear hb
      go_wp2
      go_ret
      exact ⟨rfl, HB.out⟩

set_option maxRecDepth 100000 in
theorem to_vrelF (cs : List Value) (x : VrelD) (lo hi : Nat) (w : World) (hs : szV x ≤ 1048576) (h : rVrel w lo hi cs x) (hh : hi ≤ w.heap.size) :
    Calls Tryd.prog 8 #[.agg cs.toArray] w fun e w' => ∃ ds : List Value, e = .returned (.agg ds.toArray) ∧ rVrel w' w.heap.size w'.heap.size ds x ∧ BF w.heap.size w w' := by
  obtain ⟨a, cap, o, capo, rfl, hz1, hz2, hels, hels2⟩ := vrel_open h
  have hx := hid (len_of hels2)
  have hrd1 := rd_of hels
  have hrd := grd_of hels2
  have hn : tot x.2.2 ≤ 1048576 := by rw [← szG_tot]; unfold szV at hs; omega
  have hn1 : x.1.length ≤ 1048576 := by unfold szV at hs; omega
  have K0 := hid (((hasl_new w [.slice a x.1.length cap, .int .i64 x.2.1, .slice o x.2.2.length capo] 27).alloc (.cells #[.slice none 0 0, .int .i64 0, .slice none 0 0] 32)).alloc (.cells #[.slice none 0 0, .int .i64 0, .slice none 0 0] 32))
  have K1 := hid ((hasl_new (w.alloc (.cells #[.slice a x.1.length cap, .int .i64 x.2.1, .slice o x.2.2.length capo] 27)) [.slice none 0 0, .int .i64 0, .slice none 0 0] 32).alloc (.cells #[.slice none 0 0, .int .i64 0, .slice none 0 0] 32))
  have K2 := hid (hasl_new ((w.alloc (.cells #[.slice a x.1.length cap, .int .i64 x.2.1, .slice o x.2.2.length capo] 27)).alloc (.cells #[.slice none 0 0, .int .i64 0, .slice none 0 0] 32)) [.slice none 0 0, .int .i64 0, .slice none 0 0] 32)
  have B3 := hid ((((BF.refl w.heap.size w).alloc (Nat.le_refl _) (.cells #[.slice a x.1.length cap, .int .i64 x.2.1, .slice o x.2.2.length capo] 27)).alloc (by simp) (.cells #[.slice none 0 0, .int .i64 0, .slice none 0 0] 32)).alloc (by simp; omega) (.cells #[.slice none 0 0, .int .i64 0, .slice none 0 0] 32))
  have T := hid (to_intsF a cap hi x.1 _ hn1 (hrd1.below (B3.out.toBelow.mono hh)) (by simp; omega))
  simp only [World.size_alloc] at K1 K2
  clear h hels hels2
  have G := hid hrd
  clear hrd hrd1
  go_enter Tryd.func8, Tryd.ntmps8
  go_wp2_with fail
  with_reducible refine T.out.mono ?_
  rintro e w1 ⟨rfl, hel, hb⟩
  have hs1 := hb.size
  simp only [World.size_alloc] at hs1 hel hb ⊢
  obtain ⟨r0, r1, r2, _, _, _, r6⟩ := HasL.three (K0.out.below (hb.mono (by first | exact Nat.le_refl _ | simp)).toBelow)
  have P1 := hid (K1.out.below (hb.mono (by first | exact Nat.le_refl _ | simp)).toBelow)
  have P2 := hid (K2.out.below (hb.mono (by first | exact Nat.le_refl _ | simp)).toBelow)
  have HB := hid (B3.out.trans (hb.mono (by omega)))
  have HI := hid hel
  have hlt := hel.lt
  obtain ⟨q0, q1, q2, q3, q4, q5, q6⟩ := HasL.three P2.out
  have HB2 := hid (HB.out.setCell (p := ⟨w.heap.size + 1 + 1, 0, none⟩) (by simp; omega) (.slice (some ⟨w.heap.size + 1 + 1 + 1, 0, none⟩) x.1.length x.1.length))
  have T2 := hid (to_relF x.2.1 o capo hi x.2.2 (w1.setCell ⟨w.heap.size + 1 + 1, 0, none⟩ (.slice (some ⟨w.heap.size + 1 + 1 + 1, 0, none⟩) x.1.length x.1.length)) hn (G.out.below (HB2.out.toBelow.mono hh)) (by simp; omega))
  clear hel hb K0 K1 K2 T B3
  go_wp2_with fail
  with_reducible refine T2.out.mono ?_
  rintro e w2 ⟨vs, g, rfl, hg, hown, hb⟩
  have hs2 := hb.size
  simp only [World.size_setCell] at hs2 hg hown hb ⊢
  have HO := hid (of_gown (hi := w2.heap.size) hx.out hown (Nat.le_refl _))
  have Q1 := hid ((P1.out.far (c := w.heap.size + 1 + 1) (o := 0) (by omega) (.slice (some ⟨w.heap.size + 1 + 1 + 1, 0, none⟩) x.1.length x.1.length)).below (by simpa using hb.toBelow))
  have Q2 := hid ((P2.out.put 0 (.slice (some ⟨w.heap.size + 1 + 1 + 1, 0, none⟩) x.1.length x.1.length)).below (by simpa using hb.toBelow))
  have HI2 := hid ((of_at (HI.out.far (p := ⟨w.heap.size + 1 + 1, 0, none⟩) (by simp) (.slice (some ⟨w.heap.size + 1 + 1 + 1, 0, none⟩) x.1.length x.1.length)) (Nat.le_refl (w.heap.size + 1 + 1 + 1)) (show w.heap.size + 1 + 1 + 1 < w1.heap.size by omega)).keep good_int (sm_below hb.toBelow (Nat.le_refl _)))
  have HB3 := hid (HB2.out.trans (hb.mono (by omega)))
  obtain ⟨u0, u1, u2, u3, u4, u5, u6⟩ := HasL.three Q1.out
  obtain ⟨v0, v1, v2, v3, v4, v5, v6⟩ := HasL.three Q2.out
  clear hown hb P1 P2 T2 q0 q1 q2 q3 q4 q5 q6 r0 r1 r2 HB HB2 HI
  have HR := hid (((((((Q1.out.far (c := w.heap.size + 1 + 1) (o := 1) (by omega) (.int .i64 x.2.1)).far (c := w.heap.size + 1 + 1) (o := 2) (by omega) (.slice (some ⟨g, 0, none⟩) x.2.2.length x.2.2.length)).put 0 (.slice (some ⟨w.heap.size + 1 + 1 + 1, 0, none⟩) x.1.length x.1.length)).put 1 (.int .i64 x.2.1)).put 2 (.slice (some ⟨g, 0, none⟩) x.2.2.length x.2.2.length))))
  obtain ⟨z0, z1, z2, _, _, _, _⟩ := HasL.three HR.out
  clear Q1 Q2
  go_wp2
  refine bodyPost_ret (v := .agg #[.slice (some ⟨w.heap.size + 1 + 1 + 1, 0, none⟩) x.1.length x.1.length, .int .i64 x.2.1, .slice (some ⟨g, 0, none⟩) x.2.2.length x.2.2.length]) (by simp [results, Tryd.results8, go_sem, z0, z1, z2]) rfl ⟨[.slice (some ⟨w.heap.size + 1 + 1 + 1, 0, none⟩) x.1.length x.1.length, .int .i64 x.2.1, .slice (some ⟨g, 0, none⟩) x.2.2.length x.2.2.length], rfl, ?_, ?_⟩
  · refine vrel_mk hz1 hz2 ?_ ?_
    · exact (((((HI2.out.keep good_int (sm_set _ (.inl (by omega)))).keep good_int (sm_set _ (.inl (by omega)))).keep good_int (sm_set _ (.inl (by omega)))).keep good_int (sm_set _ (.inl (by omega)))).keep good_int (sm_set _ (.inl (by omega)))).up good_int (by omega) (by simp; omega)
    · exact (((((HO.out.keep (good_sl good_int) (sm_set _ (.inl (by omega)))).keep (good_sl good_int) (sm_set _ (.inl (by omega)))).keep (good_sl good_int) (sm_set _ (.inl (by omega)))).keep (good_sl good_int) (sm_set _ (.inl (by omega)))).keep (good_sl good_int) (sm_set _ (.inl (by omega)))).up (good_sl good_int) (by omega) (by simp)
  · exact ((((HB3.out.setCell (by simp; omega) _).setCell (by simp; omega) _).setCell (by simp) _).setCell (by simp) _).setCell (by simp) _

theorem to_vrel (cs : List Value) (x : VrelD) (lo hi : Nat) (w : World) (hs : szV x ≤ 1048576) (h : rVrel w lo hi cs x) (hh : hi ≤ w.heap.size) :
    Calls Tryd.prog 8 #[.agg cs.toArray] w fun e w' => ∃ ds : List Value, e = .returned (.agg ds.toArray) ∧ rVrel w' w.heap.size w'.heap.size ds x ∧ Below w.heap.size w w' :=
  (to_vrelF cs x lo hi w hs h hh).mono fun _ _ ⟨ds, he, hr, hb⟩ => ⟨ds, he, hr, hb.toBelow⟩

theorem eq_vrel (cs ds : List Value) (x : VrelD) (lo hi lo' hi' : Nat) (w : World) (hs : szV x ≤ 1048576) (h : rVrel w lo hi cs x) (h' : rVrel w lo' hi' ds x) (hh : hi ≤ w.heap.size) (hh' : hi' ≤ w.heap.size) :
    Calls Tryd.prog 10 #[.agg cs.toArray, .agg ds.toArray] w fun e w' => e = .returned (.bool true) ∧ Below w.heap.size w w' := by
  obtain ⟨a, cap, o, capo, rfl, hz1, hz2, hels, hels2⟩ := vrel_open h
  obtain ⟨a', cap', o', capo', rfl, _, _, hels', hels2'⟩ := vrel_open h'
  have hn : tot x.2.2 ≤ 1048576 := by rw [← szG_tot]; unfold szV at hs; omega
  have hn1 : x.1.length ≤ 1048576 := by unfold szV at hs; omega
  have hB1 := hid (((Below.refl w.heap.size w).alloc (Nat.le_refl _) (.cells #[.slice a x.1.length cap, .int .i64 x.2.1, .slice o x.2.2.length capo] 32)).alloc (by simp) (.cells #[.slice a' x.1.length cap', .int .i64 x.2.1, .slice o' x.2.2.length capo'] 32))
  have P0 := hid ((hasl_new w [.slice a x.1.length cap, .int .i64 x.2.1, .slice o x.2.2.length capo] 32).alloc (.cells #[.slice a' x.1.length cap', .int .i64 x.2.1, .slice o' x.2.2.length capo'] 32))
  have P1 := hid (hasl_new (w.alloc (.cells #[.slice a x.1.length cap, .int .i64 x.2.1, .slice o x.2.2.length capo] 32)) [.slice a' x.1.length cap', .int .i64 x.2.1, .slice o' x.2.2.length capo'] 32)
  simp only [World.size_alloc] at P1
  have E1 := hid (eq_ints a a' cap cap' x.1 hi hi' _ hn1 ((rd_of hels).below (hB1.out.mono hh)) ((rd_of hels').below (hB1.out.mono hh')) (by simp; omega) (by simp; omega))
  have G1 := hid (grd_of hels2)
  have G2 := hid (grd_of hels2')
  clear h h' hels hels' hels2 hels2'
  go_enter Tryd.func10, Tryd.ntmps10
  go_wp2_with fail
  refine E1.out.mono ?_
  rintro e w1 ⟨rfl, hb⟩
  have hs1 := hb.size
  simp only [World.size_alloc] at hs1
  obtain ⟨p0, p1, p2, _, _, _, _⟩ := HasL.three (P0.out.below hb)
  obtain ⟨q0, q1, q2, _, _, _, _⟩ := HasL.three (P1.out.below hb)
  have HB := hid (hB1.out.trans (hb.mono (by simp; omega)))
  clear hb P0 P1
  have E2 := hid (eq_rel x.2.1 o o' capo capo' x.2.2 hi hi' w1 hn (G1.out.below (HB.out.mono hh)) (G2.out.below (HB.out.mono hh')) (by omega) (by omega))
  go_wp2_with fail
  refine E2.out.mono ?_
  rintro e w2 ⟨rfl, hb⟩
  have HC := hid (HB.out.trans (hb.mono (by omega)))
  clear hb
  go_wp2
  go_ret
  exact ⟨rfl, HC.out⟩
end Go.Proofs.YtffhfnkcbgbliaaDoor.Vrl
