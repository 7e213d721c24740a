/- Linear programs: read, opened; contracts of the laws' own helpers on them: sizes, copies, equality, marks. -/
import Derived.Test.YtjnphlgmmjdeiaaRatsSS
namespace Go.Proofs.Ytjnphlgmmjdeiaa.Lp
open Go.RowKit
open Go.Proofs.Ytjnphlgmmjdeiaa.Num Go.Proofs.Ytjnphlgmmjdeiaa.IntRow Go.Proofs.Ytjnphlgmmjdeiaa.Grid Go.Proofs.Ytjnphlgmmjdeiaa.GridMore Go.Proofs.Ytjnphlgmmjdeiaa.Rdr Go.Proofs.Ytjnphlgmmjdeiaa.HasL Go.Proofs.Ytjnphlgmmjdeiaa.Rats Go.Proofs.Ytjnphlgmmjdeiaa.RatRow Go.Proofs.Ytjnphlgmmjdeiaa.RatOwn Go.Proofs.Ytjnphlgmmjdeiaa.GridQ Go.Proofs.Ytjnphlgmmjdeiaa.Keep Go.Proofs.Ytjnphlgmmjdeiaa.Kept Go.Proofs.Ytjnphlgmmjdeiaa.Thaw Go.Proofs.Ytjnphlgmmjdeiaa.RatsF Go.Proofs.Ytjnphlgmmjdeiaa.RatsSS
set_option linter.unusedVariables false

abbrev LpD := MatD × (List RatD × List RatD)
def rLp : Reader LpD := rTwo (rSl 1 rRow2) (rTwo rRow2 rRow2)
theorem good_lp : Gd rLp := good_two (good_sl good_row2) (good_two good_row2 good_row2)
theorem lp_open {w : World} {lo hi : Nat} {cs : List Value} {x : LpD} (h : rLp w lo hi cs x) : ∃ a cap b capb c capc, cs = [.slice a x.1.length cap, .slice b x.2.1.length capb, .slice c x.2.2.length capc] ∧ (x.1.length ≤ 9223372036854775807 ∧ x.1.length ≤ cap) ∧ (x.2.1.length ≤ 9223372036854775807 ∧ x.2.1.length ≤ capb) ∧ (x.2.2.length ≤ 9223372036854775807 ∧ x.2.2.length ≤ capc) ∧ Els 1 rRow2 w lo hi a x.1 ∧ Els 2 rRat w lo hi b x.2.1 ∧ Els 2 rRat w lo hi c x.2.2 := by
  obtain ⟨_, _, rfl, ⟨h1, a, cap, rfl, h2, h3⟩, _, _, rfl, ⟨h4, b, capb, rfl, h5, h6⟩, h7, c, capc, rfl, h8, h9⟩ := h
  exact ⟨a, cap, b, capb, c, capc, rfl, ⟨h1, h2⟩, ⟨h4, h5⟩, ⟨h7, h8⟩, h3, h6, h9⟩
theorem lp_mk {w : World} {lo hi : Nat} {a b c : Option Addr} {cap capb capc : Nat} {x : LpD} (h1 : x.1.length ≤ 9223372036854775807 ∧ x.1.length ≤ cap) (h2 : x.2.1.length ≤ 9223372036854775807 ∧ x.2.1.length ≤ capb) (h3 : x.2.2.length ≤ 9223372036854775807 ∧ x.2.2.length ≤ capc) (ha : Els 1 rRow2 w lo hi a x.1) (hb : Els 2 rRat w lo hi b x.2.1) (hc : Els 2 rRat w lo hi c x.2.2) : rLp w lo hi [.slice a x.1.length cap, .slice b x.2.1.length capb, .slice c x.2.2.length capc] x :=
  ⟨[_], [_, _], rfl, ⟨h1.1, a, cap, rfl, h1.2, ha⟩, [_], [_], rfl, ⟨h2.1, b, capb, rfl, h2.2, hb⟩, h3.1, c, capc, rfl, h3.2, hc⟩
def szLp (x : LpD) : Nat := szM x.1 + x.2.1.length + x.2.2.length
theorem opn_lp : Opn Try.prog 57 rLp := opn_struct3 Try.underlying57 rfl (by kernel_rfl) (by kernel_rfl) (by kernel_rfl) opn_mat opn_rats opn_rats

theorem sz_lp (cs : List Value) (x : LpD) (lo hi : Nat) (k r : Int) (w : World) (h0 : 0 ≤ k) (hk : k ≤ 1048576) (h : rLp w lo hi cs x) (hh : hi ≤ w.heap.size)
    (hr : RowKit.Hid ((k < (szLp x : Nat) ∧ r = -1) ∨ ((szLp x : Nat) ≤ k ∧ r = k - (szLp x : Nat)))) :
    Calls Try.prog 44 #[.agg cs.toArray, .int .i64 k] w fun e w' => e = .returned (.int .i64 r) ∧ Below w.heap.size w w' := by
  obtain ⟨a, cap, b, capb, c, capc, rfl, hz1, hz2, hz3, ha, hb, hc⟩ := lp_open h
  have hrr := hr.out
  unfold szLp at hrr
  have B1 := hid ((Below.refl w.heap.size w).alloc (Nat.le_refl _) (.cells #[.slice a x.1.length cap, .slice b x.2.1.length capb, .slice c x.2.2.length capc] 57))
  have G1 := hid (ha.keep good_row2 (sm_below B1.out hh))
  have hn1 := hz1.1
  have hn2 := hz2.1
  have hn3 := hz3.1
  clear h hr ha hb hc hz1 hz2 hz3
  by_cases h1 : k < (szM x.1 : Nat)
  · obtain rfl : r = -1 := by omega
    have S := hid (sz_ratss a cap x.1 lo hi k (-1) (w.alloc (.cells #[.slice a x.1.length cap, .slice b x.2.1.length capb, .slice c x.2.2.length capc] 57)) h0 hk hn1 G1.out (hid (.inl ⟨h1, rfl⟩)))
    clear hrr h1
    go_enter Try.func44, Try.ntmps44
    go_wp2_with fail
    with_reducible refine S.out.mono ?_
    rintro e w1 ⟨rfl, rfl⟩
    go_wp2
    go_ret
    exact ⟨rfl, B1.out⟩
  · have S := hid (sz_ratss a cap x.1 lo hi k (k - (szM x.1 : Nat)) (w.alloc (.cells #[.slice a x.1.length cap, .slice b x.2.1.length capb, .slice c x.2.2.length capc] 57)) h0 hk hn1 G1.out (hid (.inr ⟨by omega, rfl⟩)))
    have t1 : ¬ (k - (szM x.1 : Nat) < 0) := by omega
    by_cases h2 : k - (szM x.1 : Nat) < (x.2.1.length : Int)
    · obtain rfl : r = -1 := by omega
      have S2 := hid (fun W => sz_rats b capb x.2.1.length (k - (szM x.1 : Nat)) (-1) W (by omega) (by omega) hn2 (hid (.inl ⟨h2, rfl⟩)))
      clear hrr h2
      go_enter Try.func44, Try.ntmps44
      go_wp2_with fail
      with_reducible refine S.out.mono ?_
      rintro e w1 ⟨rfl, rfl⟩
      go_wp2_with fail
      with_reducible refine (S2.out _).mono ?_
      rintro e w1 ⟨rfl, rfl⟩
      go_wp2
      go_ret
      exact ⟨rfl, B1.out⟩
    · have S2 := hid (fun W => sz_rats b capb x.2.1.length (k - (szM x.1 : Nat)) (k - (szM x.1 : Nat) - (x.2.1.length : Int)) W (by omega) (by omega) hn2 (hid (.inr ⟨by omega, rfl⟩)))
      have t2 : ¬ (k - (szM x.1 : Nat) - (x.2.1.length : Int) < 0) := by omega
      by_cases h3 : k - (szM x.1 : Nat) - (x.2.1.length : Int) < (x.2.2.length : Int)
      · obtain rfl : r = -1 := by omega
        have S3 := hid (fun W => sz_rats c capc x.2.2.length (k - (szM x.1 : Nat) - (x.2.1.length : Int)) (-1) W (by omega) (by omega) hn3 (hid (.inl ⟨h3, rfl⟩)))
        clear hrr h3
        go_enter Try.func44, Try.ntmps44
        go_wp2_with fail
        with_reducible refine S.out.mono ?_
        rintro e w1 ⟨rfl, rfl⟩
        go_wp2_with fail
        with_reducible refine (S2.out _).mono ?_
        rintro e w1 ⟨rfl, rfl⟩
        go_wp2_with fail
        with_reducible refine (S3.out _).mono ?_
        rintro e w1 ⟨rfl, rfl⟩
        go_wp2
        go_ret
        exact ⟨rfl, B1.out⟩
      · have hre : r = k - (szM x.1 : Nat) - (x.2.1.length : Int) - (x.2.2.length : Int) := by omega
        subst hre
        have S3 := hid (fun W => sz_rats c capc x.2.2.length (k - (szM x.1 : Nat) - (x.2.1.length : Int)) (k - (szM x.1 : Nat) - (x.2.1.length : Int) - (x.2.2.length : Int)) W (by omega) (by omega) hn3 (hid (.inr ⟨by omega, rfl⟩)))
        have t3 : ¬ (k - (szM x.1 : Nat) - (x.2.1.length : Int) - (x.2.2.length : Int) < 0) := by omega
        clear hrr h3
        go_enter Try.func44, Try.ntmps44
        go_wp2_with fail
        with_reducible refine S.out.mono ?_
        rintro e w1 ⟨rfl, rfl⟩
        go_wp2_with fail
        with_reducible refine (S2.out _).mono ?_
        rintro e w1 ⟨rfl, rfl⟩
        go_wp2_with fail
        with_reducible refine (S3.out _).mono ?_
        rintro e w1 ⟨rfl, rfl⟩
        go_wp2
        go_ret
        exact ⟨rfl, B1.out⟩

set_option maxRecDepth 100000 in
set_option maxHeartbeats 1000000 in
theorem to_lpF (cs : List Value) (x : LpD) (lo hi : Nat) (w : World) (hs : szLp x ≤ 1048576) (h : rLp w lo hi cs x) (hh : hi ≤ w.heap.size) :
    Calls Try.prog 45 #[.agg cs.toArray] w fun e w' => ∃ ds : List Value, e = .returned (.agg ds.toArray) ∧ rLp w' w.heap.size w'.heap.size ds x ∧ BF w.heap.size w w' := by
  obtain ⟨a, cap, b, capb, c, capc, rfl, hz1, hz2, hz3, ha, hb, hc⟩ := lp_open h
  have hn1 : szM x.1 ≤ 1048576 := by unfold szLp at hs; omega
  have hn2 : x.2.1.length ≤ 1048576 := by unfold szLp at hs; omega
  have hn3 : x.2.2.length ≤ 1048576 := by unfold szLp at hs; omega
  have K0 := hid (((hasl_new w [.slice a x.1.length cap, .slice b x.2.1.length capb, .slice c x.2.2.length capc] 57).alloc (.cells #[.slice none 0 0, .slice none 0 0, .slice none 0 0] 32)).alloc (.cells #[.slice none 0 0, .slice none 0 0, .slice none 0 0] 32))
  have K1 := hid ((hasl_new (w.alloc (.cells #[.slice a x.1.length cap, .slice b x.2.1.length capb, .slice c x.2.2.length capc] 57)) [.slice none 0 0, .slice none 0 0, .slice none 0 0] 32).alloc (.cells #[.slice none 0 0, .slice none 0 0, .slice none 0 0] 32))
  have K2 := hid (hasl_new ((w.alloc (.cells #[.slice a x.1.length cap, .slice b x.2.1.length capb, .slice c x.2.2.length capc] 57)).alloc (.cells #[.slice none 0 0, .slice none 0 0, .slice none 0 0] 32)) [.slice none 0 0, .slice none 0 0, .slice none 0 0] 32)
  have B3 := hid ((((BF.refl w.heap.size w).alloc (Nat.le_refl _) (.cells #[.slice a x.1.length cap, .slice b x.2.1.length capb, .slice c x.2.2.length capc] 57)).alloc (by simp) (.cells #[.slice none 0 0, .slice none 0 0, .slice none 0 0] 32)).alloc (by simp; omega) (.cells #[.slice none 0 0, .slice none 0 0, .slice none 0 0] 32))
  have T1 := hid (to_ratssF a cap x.1 lo hi _ hn1 (ha.keep good_row2 (sm_below B3.out.toBelow hh)) (by simp; omega))
  have T2 := hid (fun W (hW : BF w.heap.size w W) => to_ratsF b capb x.2.1 lo hi W hn2 (hb.keep good_rat (sm_below hW.toBelow hh)) (Nat.le_trans hh hW.toBelow.size))
  have T3 := hid (fun W (hW : BF w.heap.size w W) => to_ratsF c capc x.2.2 lo hi W hn3 (hc.keep good_rat (sm_below hW.toBelow hh)) (Nat.le_trans hh hW.toBelow.size))
  simp only [World.size_alloc] at K1 K2
  clear h ha hb hc
  go_enter Try.func45, Try.ntmps45
  go_wp2_with fail
  with_reducible refine T1.out.mono ?_
  rintro e w1 ⟨vs, rfl, hown, hbf, hlt⟩
  have hb := hbf.toBelow
  have hs1 := hb.size
  simp only [World.size_alloc] at hs1 hown hb hbf hlt ⊢
  obtain ⟨S1, hS1⟩ : ∃ v : Value, v = .slice (some ⟨w.heap.size + 1 + 1 + 1, 0, none⟩) x.1.length x.1.length := ⟨_, rfl⟩
  have P0 := hid (K0.out.below (hb.mono (by first | exact Nat.le_refl _ | simp)))
  have P1 := hid (K1.out.below (hb.mono (by first | exact Nat.le_refl _ | simp)))
  have P2 := hid (K2.out.below (hb.mono (by first | exact Nat.le_refl _ | simp)))
  have HA := hid hown.rd.2
  have HB := hid (B3.out.trans (hbf.mono (by omega)))
  have q := P2.out.three
  have p := P0.out.three
  obtain ⟨p0, p1, p2, _, _, _, p6⟩ := p
  obtain ⟨q0, q1, q2, q3, q4, q5, q6⟩ := q
  have HB1 := hid (HB.out.setCell (p := ⟨w.heap.size + 1 + 1, 0, none⟩) (by simp; omega) (.slice (some ⟨w.heap.size + 1 + 1 + 1, 0, none⟩) x.1.length x.1.length))
  clear hown hb hbf K0 K1 K2 T1 B3 S1 hS1
  go_wp2_with fail
  with_reducible refine (T2.out _ HB1.out).mono ?_
  rintro e w2 ⟨rfl, hown, hbf, hlt2⟩
  have hb := hbf.toBelow
  have hs2 := hb.size
  simp only [World.size_setCell] at hs2 hown hb hbf hlt2 ⊢
  have R0 := hid ((P0.out.far (c := w.heap.size + 1 + 1) (o := 0) (by omega) (.slice (some ⟨w.heap.size + 1 + 1 + 1, 0, none⟩) x.1.length x.1.length)).below (by simp only [World.size_setCell]; exact hb))
  have R1 := hid ((P1.out.far (c := w.heap.size + 1 + 1) (o := 0) (by omega) (.slice (some ⟨w.heap.size + 1 + 1 + 1, 0, none⟩) x.1.length x.1.length)).below (by simp only [World.size_setCell]; exact hb))
  have R2 := hid ((P2.out.put 0 (.slice (some ⟨w.heap.size + 1 + 1 + 1, 0, none⟩) x.1.length x.1.length)).below (by simp only [World.size_setCell]; exact hb))
  have HA2 := hid ((HA.out.keep good_row2 (sm_set (g := w.heap.size + 1 + 1) (o := 0) (.slice (some ⟨w.heap.size + 1 + 1 + 1, 0, none⟩) x.1.length x.1.length) (.inl (by omega)))).keep good_row2 (sm_below hb (Nat.le_refl _)))
  have HBB := hid ((ownq_rd hown).2)
  have HC := hid (HB1.out.trans (hbf.mono (by omega)))
  have HC1 := hid (HC.out.setCell (p := ⟨w.heap.size + 1 + 1, 1, none⟩) (by simp; omega) (.slice (some ⟨w1.heap.size, 0, none⟩) x.2.1.length x.2.1.length))
  clear hown hb hbf p0 p1 p2 p6 q0 q1 q2 q3 q4 q5 q6 P0 P1 P2 HA T2 HB HB1
  obtain ⟨p0, p1, p2, _, _, _, p6⟩ := R0.out.three
  obtain ⟨q0, q1, q2, q3, q4, q5, q6⟩ := HasL.three R2.out
  go_wp2_with fail
  with_reducible refine (T3.out _ HC1.out).mono ?_
  rintro e w3 ⟨rfl, hown, hbf, hlt3⟩
  have hb := hbf.toBelow
  have hs3 := hb.size
  simp only [World.size_setCell] at hs3 hown hb hbf hlt3 ⊢
  have U1 := hid ((R1.out.far (c := w.heap.size + 1 + 1) (o := 1) (by omega) (.slice (some ⟨w1.heap.size, 0, none⟩) x.2.1.length x.2.1.length)).below (by simp only [World.size_setCell]; exact hb))
  have U2 := hid ((R2.out.put 1 (.slice (some ⟨w1.heap.size, 0, none⟩) x.2.1.length x.2.1.length)).below (by simp only [World.size_setCell]; exact hb))
  have HA3 := hid ((HA2.out.keep good_row2 (sm_set (g := w.heap.size + 1 + 1) (o := 1) (.slice (some ⟨w1.heap.size, 0, none⟩) x.2.1.length x.2.1.length) (.inl (by omega)))).keep good_row2 (sm_below hb (by omega)))
  have HBB3 := hid ((HBB.out.keep good_rat (sm_set (g := w.heap.size + 1 + 1) (o := 1) (.slice (some ⟨w1.heap.size, 0, none⟩) x.2.1.length x.2.1.length) (.inl (by omega)))).keep good_rat (sm_below hb (by omega)))
  have HCC := hid ((ownq_rd hown).2)
  have HD := hid (HC1.out.trans (hbf.mono (by omega)))
  have HR := hid ((((U1.out.far (c := w.heap.size + 1 + 1) (o := 2) (by omega) (.slice (some ⟨w2.heap.size, 0, none⟩) x.2.2.length x.2.2.length)).put 0 (.slice (some ⟨w.heap.size + 1 + 1 + 1, 0, none⟩) x.1.length x.1.length)).put 1 (.slice (some ⟨w1.heap.size, 0, none⟩) x.2.1.length x.2.1.length)).put 2 (.slice (some ⟨w2.heap.size, 0, none⟩) x.2.2.length x.2.2.length))
  clear hown hb hbf p0 p1 p2 p6 q0 q1 q2 q3 q4 q5 q6 R0 R1 R2 HA2 HBB T3 HC HC1
  obtain ⟨d0, d1, d2, d3, d4, d5, d6⟩ := U1.out.three
  obtain ⟨q0, q1, q2, q3, q4, q5, q6⟩ := HasL.three U2.out
  obtain ⟨r0, r1, r2, _, _, _, _⟩ := HasL.three HR.out
  clear U1 U2
  go_wp2
  refine bodyPost_ret (v := .agg #[.slice (some ⟨w.heap.size + 1 + 1 + 1, 0, none⟩) x.1.length x.1.length, .slice (some ⟨w1.heap.size, 0, none⟩) x.2.1.length x.2.1.length, .slice (some ⟨w2.heap.size, 0, none⟩) x.2.2.length x.2.2.length]) (by simp [results, Try.results45, go_sem, r0, r1, r2]) rfl ⟨[.slice (some ⟨w.heap.size + 1 + 1 + 1, 0, none⟩) x.1.length x.1.length, .slice (some ⟨w1.heap.size, 0, none⟩) x.2.1.length x.2.1.length, .slice (some ⟨w2.heap.size, 0, none⟩) x.2.2.length x.2.2.length], rfl, ?_, ?_⟩
  · refine lp_mk ⟨hz1.1, Nat.le_refl _⟩ ⟨hz2.1, Nat.le_refl _⟩ ⟨hz3.1, Nat.le_refl _⟩ ?_ ?_ ?_
    · exact ((((HA3.out.keep good_row2 (sm_set _ (.inl (by omega)))).keep good_row2 (sm_set _ (.inl (by omega)))).keep good_row2 (sm_set _ (.inl (by omega)))).keep good_row2 (sm_set _ (.inl (by omega)))).up good_row2 (by omega) (by simp; omega)
    · exact ((((HBB3.out.keep good_rat (sm_set _ (.inl (by omega)))).keep good_rat (sm_set _ (.inl (by omega)))).keep good_rat (sm_set _ (.inl (by omega)))).keep good_rat (sm_set _ (.inl (by omega)))).up good_rat (by omega) (by simp; omega)
    · exact ((((HCC.out.keep good_rat (sm_set _ (.inl (by omega)))).keep good_rat (sm_set _ (.inl (by omega)))).keep good_rat (sm_set _ (.inl (by omega)))).keep good_rat (sm_set _ (.inl (by omega)))).up good_rat (by omega) (by simp)
  · exact (((HD.out.setCell (by simp; omega) _).setCell (by simp) _).setCell (by simp) _).setCell (by simp) _

theorem to_lp (cs : List Value) (x : LpD) (lo hi : Nat) (w : World) (hs : szLp x ≤ 1048576) (h : rLp w lo hi cs x) (hh : hi ≤ w.heap.size) :
    Calls Try.prog 45 #[.agg cs.toArray] w fun e w' => ∃ ds : List Value, e = .returned (.agg ds.toArray) ∧ rLp w' w.heap.size w'.heap.size ds x ∧ Below w.heap.size w w' :=
  (to_lpF cs x lo hi w hs h hh).mono fun _ _ ⟨ds, he, hr, hb⟩ => ⟨ds, he, hr, hb.toBelow⟩

theorem eq_lp (cs ds : List Value) (x : LpD) (lo hi lo' hi' : Nat) (w : World) (hs : szLp x ≤ 1048576) (h : rLp w lo hi cs x) (h' : rLp w lo' hi' ds x) (hh : hi ≤ w.heap.size) (hh' : hi' ≤ w.heap.size) :
    Calls Try.prog 46 #[.agg cs.toArray, .agg ds.toArray] w fun e w' => e = .returned (.bool true) ∧ Below w.heap.size w w' := by
  obtain ⟨a, cap, b, capb, c, capc, rfl, _, _, _, ha, hb, hc⟩ := lp_open h
  obtain ⟨a', cap', b', capb', c', capc', rfl, _, _, _, ha', hb', hc'⟩ := lp_open h'
  have hn1 : szM x.1 ≤ 1048576 := by unfold szLp at hs; omega
  have hn2 : x.2.1.length ≤ 1048576 := by unfold szLp at hs; omega
  have hn3 : x.2.2.length ≤ 1048576 := by unfold szLp at hs; omega
  have hl1 : x.1.length ≤ 1048576 := by have h := tots_len List.length x.1; unfold szM at hn1; omega
  have hr1 := hid (fun j (hj : j < x.1.length) => show x.1[j].length ≤ 1048576 by have h := elem_le List.length x.1 j hj; unfold szM at hn1; omega)
  have B2 := hid (((Below.refl w.heap.size w).alloc (Nat.le_refl _) (.cells #[.slice a x.1.length cap, .slice b x.2.1.length capb, .slice c x.2.2.length capc] 32)).alloc (by simp) (.cells #[.slice a' x.1.length cap', .slice b' x.2.1.length capb', .slice c' x.2.2.length capc'] 32))
  have P0 := hid ((hasl_new w [.slice a x.1.length cap, .slice b x.2.1.length capb, .slice c x.2.2.length capc] 32).alloc (.cells #[.slice a' x.1.length cap', .slice b' x.2.1.length capb', .slice c' x.2.2.length capc'] 32))
  have P1 := hid (hasl_new (w.alloc (.cells #[.slice a x.1.length cap, .slice b x.2.1.length capb, .slice c x.2.2.length capc] 32)) [.slice a' x.1.length cap', .slice b' x.2.1.length capb', .slice c' x.2.2.length capc'] 32)
  simp only [World.size_alloc] at P1
  have E1 := hid (eq_ratss a a' cap cap' x.1 lo hi lo' hi' _ hl1 hr1 (ha.keep good_row2 (sm_below B2.out hh)) (ha'.keep good_row2 (sm_below B2.out hh')) (by simp; omega) (by simp; omega))
  have E2 := hid (fun W (hW : Below w.heap.size w W) => eq_rats b b' capb capb' x.2.1 lo hi lo' hi' W hn2 (hb.keep good_rat (sm_below hW hh)) (hb'.keep good_rat (sm_below hW hh')) (Nat.le_trans hh hW.size) (Nat.le_trans hh' hW.size))
  have E3 := hid (fun W (hW : Below w.heap.size w W) => eq_rats c c' capc capc' x.2.2 lo hi lo' hi' W hn3 (hc.keep good_rat (sm_below hW hh)) (hc'.keep good_rat (sm_below hW hh')) (Nat.le_trans hh hW.size) (Nat.le_trans hh' hW.size))
  clear h h' ha ha' hb hb' hc hc'
  go_enter Try.func46, Try.ntmps46
  go_wp2_with fail
  with_reducible refine E1.out.mono ?_
  rintro e w1 ⟨rfl, hb⟩
  have HB := hid (B2.out.trans (hb.mono (by simp; omega)))
  have Q0 := hid (P0.out.below hb)
  have Q1 := hid (P1.out.below hb)
  obtain ⟨p0, p1, p2, _, _, _, _⟩ := Q0.out.three
  obtain ⟨q0, q1, q2, _, _, _, _⟩ := Q1.out.three
  clear hb P0 P1
  go_wp2_with fail
  with_reducible refine (E2.out _ HB.out).mono ?_
  rintro e w2 ⟨rfl, hb⟩
  have HB2 := hid (HB.out.trans (hb.mono HB.out.size))
  have X0 := hid (Q0.out.below hb)
  have X1 := hid (Q1.out.below hb)
  clear p0 p1 p2 q0 q1 q2 hb Q0 Q1
  obtain ⟨p0, p1, p2, _, _, _, _⟩ := X0.out.three
  obtain ⟨q0, q1, q2, _, _, _, _⟩ := X1.out.three
  go_wp2_with fail
  with_reducible refine (E3.out _ HB2.out).mono ?_
  rintro e w3 ⟨rfl, hb⟩
  have HB3 := hid (HB2.out.trans (hb.mono HB2.out.size))
  clear hb
  go_wp2
  go_ret
  exact ⟨rfl, HB3.out⟩
end Go.Proofs.Ytjnphlgmmjdeiaa.Lp
