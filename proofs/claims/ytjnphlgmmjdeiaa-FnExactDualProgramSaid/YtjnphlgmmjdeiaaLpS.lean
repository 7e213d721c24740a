/- The model's tests of linear programs and points. -/
import Derived.Test.YtjnphlgmmjdeiaaLpI
namespace Go.Proofs.Ytjnphlgmmjdeiaa.LpS
open Go.RowKit
open Go.Proofs.Ytjnphlgmmjdeiaa.Num Go.Proofs.Ytjnphlgmmjdeiaa.IntRow Go.Proofs.Ytjnphlgmmjdeiaa.GridMore Go.Proofs.Ytjnphlgmmjdeiaa.Rdr Go.Proofs.Ytjnphlgmmjdeiaa.HasL Go.Proofs.Ytjnphlgmmjdeiaa.Rat Go.Proofs.Ytjnphlgmmjdeiaa.Valid Go.Proofs.Ytjnphlgmmjdeiaa.RatLaw Go.Proofs.Ytjnphlgmmjdeiaa.Rats Go.Proofs.Ytjnphlgmmjdeiaa.RatRow Go.Proofs.Ytjnphlgmmjdeiaa.RatOwn Go.Proofs.Ytjnphlgmmjdeiaa.GridQ Go.Proofs.Ytjnphlgmmjdeiaa.RatsSS Go.Proofs.Ytjnphlgmmjdeiaa.Lp Go.Proofs.Ytjnphlgmmjdeiaa.LinP Go.Proofs.Ytjnphlgmmjdeiaa.Mtr Go.Proofs.Ytjnphlgmmjdeiaa.Mvp Go.Proofs.Ytjnphlgmmjdeiaa.AllV Go.Proofs.Ytjnphlgmmjdeiaa.Wt Go.Proofs.Ytjnphlgmmjdeiaa.Ops Go.Proofs.Ytjnphlgmmjdeiaa.OpsSpec Go.Proofs.Ytjnphlgmmjdeiaa.LpP Go.Proofs.Ytjnphlgmmjdeiaa.Keep Go.Proofs.Ytjnphlgmmjdeiaa.Kept
set_option linter.unusedVariables false
open Go.Proofs.Ytjnphlgmmjdeiaa.LpI

theorem in5 (n : Nat) (w : World) : Calls Try.prog 75 #[.int .i64 n, .int .i64 1, .int .i64 5] w fun e w' => e = .returned (.bool (inP n)) ∧ w = w' := by
  rcases (by omega : n < 1 ∨ (1 ≤ n ∧ n ≤ 5) ∨ (1 ≤ n ∧ 5 < n)) with h | ⟨h, h2⟩ | ⟨h, h2⟩
  · have HF := hid (show inP n = false from decide_eq_false (by omega))
    have t0 : ¬ (1 : Int) ≤ (n : Int) := by omega
    clear h
    go_enter Try.func75, Try.ntmps75
    go_wp2_with fail
    go_ret
    exact ⟨by rw [HF.out]; rfl, rfl⟩
  · have HF := hid (show inP n = true from decide_eq_true (by omega))
    have t0 : (1 : Int) ≤ (n : Int) := by omega
    have t1 : (n : Int) ≤ 5 := by omega
    clear h h2
    go_enter Try.func75, Try.ntmps75
    go_wp2_with fail
    go_ret
    exact ⟨by rw [HF.out]; rfl, rfl⟩
  · have HF := hid (show inP n = false from decide_eq_false (by omega))
    have t0 : (1 : Int) ≤ (n : Int) := by omega
    have t1 : ¬ (n : Int) ≤ 5 := by omega
    clear h h2
    go_enter Try.func75, Try.ntmps75
    go_wp2_with fail
    go_ret
    exact ⟨by rw [HF.out]; rfl, rfl⟩

theorem one_ok (ys : List RatD) : (okM [ys] ys.length && decide ([ys].length = 1)) = allV ys := by simp [okM, allV]
theorem spec_one (g : Nat) (b : Option Addr) (cap : Nat) (ys : List RatD) (w : World) (hn : ys.length ≤ 1048576) (hg : w.cell? ⟨g, 0, none⟩ = some (.slice b ys.length cap)) (hlt : g < w.heap.size) (hc : ys.length ≤ cap) (h : Els 2 rRat w 0 w.heap.size b ys) :
    Calls Try.prog 63 #[.slice (some ⟨g, 0, none⟩) 1 1, .int .i64 1, .int .i64 ys.length] w fun e w' => e = .returned (.bool (allV ys)) ∧ Below w.heap.size w w' :=
  (spec_square (some ⟨g, 0, none⟩) 1 [ys] 1 ys.length 0 w.heap.size w (by simp) (by omega) (by omega) (hid (fun j hj => by simp at hj; subst hj; simpa using hn))
    (fun _ => ⟨g, 0, rfl, Nat.zero_le _, hlt, fun j hj => by
      simp at hj
      subst hj
      exact ⟨[.slice b ys.length cap], rfl, fun i hi => by simp at hi; subst hi; simpa using hg, by show ys.length ≤ _; omega, b, cap, rfl, hc, h⟩⟩) (Nat.le_refl _)).mono
    fun e w' ⟨he, hb⟩ => ⟨by rw [he, one_ok], hb⟩
theorem okLp_s (x : LpD) : okLp x = (inP x.2.2.length && (inP x.2.1.length && ((okM x.1 x.2.2.length && decide (x.1.length = x.2.1.length)) && (allV x.2.2 && allV x.2.1)))) := by
  unfold okLp
  generalize inP x.2.2.length = p1
  generalize inP x.2.1.length = p2
  generalize okM x.1 x.2.2.length = p3
  generalize decide (x.1.length = x.2.1.length) = p4
  generalize allV x.2.2 = p5
  generalize allV x.2.1 = p6
  cases p1 <;> cases p2 <;> cases p3 <;> cases p4 <;> cases p5 <;> cases p6 <;> rfl

set_option maxRecDepth 100000 in
set_option maxHeartbeats 1000000 in
theorem spec_vlp (cs : List Value) (x : LpD) (lo hi : Nat) (w : World) (hs : szLp x ≤ 1048576) (h : rLp w lo hi cs x) (hh : hi ≤ w.heap.size) :
    Calls Try.prog 24 #[.agg cs.toArray] w fun e w' => e = .returned (.bool (okLp x)) ∧ Below w.heap.size w w' := by
  obtain ⟨a, cap, b, capb, c, capc, rfl, hz1, hz2, hz3, ha, hb, hc⟩ := lp_open h
  have hn1 : szM x.1 ≤ 1048576 := by unfold szLp at hs; omega
  have hn2 : x.2.1.length ≤ 1048576 := by unfold szLp at hs; omega
  have hn3 : x.2.2.length ≤ 1048576 := by unfold szLp at hs; omega
  have hl1 : x.1.length ≤ 1048576 := by have h := tots_len List.length x.1; unfold szM at hn1; omega
  have hr1 := hid (fun j (hj : j < x.1.length) => show x.1[j].length ≤ 1048576 by have h := elem_le List.length x.1 j hj; unfold szM at hn1; omega)
  have K := hid (hasl_new w [.slice a x.1.length cap, .slice b x.2.1.length capb, .slice c x.2.2.length capc] 32)
  have B := hid ((Below.refl w.heap.size w).alloc (Nat.le_refl _) (.cells #[.slice a x.1.length cap, .slice b x.2.1.length capb, .slice c x.2.2.length capc] 32))
  have S1 := hid (fun W => in5 x.2.2.length W)
  have S2 := hid (fun W => in5 x.2.1.length W)
  have M := hid (spec_square a cap x.1 x.2.1.length x.2.2.length lo hi _ hl1 (by omega) (by omega) hr1 (ha.keep good_row2 (sm_below B.out hh)) (Nat.le_trans hh B.out.size))
  have HBB := hid (fun W (hW : Below w.heap.size w W) => (hb.keep good_rat (sm_below hW hh)).up good_rat (Nat.zero_le _) (Nat.le_trans hh hW.size))
  have HCC := hid (fun W (hW : Below w.heap.size w W) => (hc.keep good_rat (sm_below hW hh)).up good_rat (Nat.zero_le _) (Nat.le_trans hh hW.size))
  have hcb := hz2.2
  have hcc := hz3.2
  clear h ha hb hc hz1 hz2 hz3 hr1
  cases e0 : inP x.2.2.length with
  | false =>
    have HF := hid (show okLp x = false by rw [okLp_s, e0]; rfl)
    rw [e0] at S1
    clear e0
    obtain ⟨k0, k1, k2, k3, k4, k5, k6⟩ := K.out.three
    go_enter Try.func24, Try.ntmps24
    go_wp2_with fail
    with_reducible refine (S1.out _).mono ?_
    rintro e w1 ⟨rfl, rfl⟩
    go_wp2_with fail
    go_ret
    exact ⟨by rw [HF.out]; rfl, B.out⟩
  | true =>
    cases e1 : inP x.2.1.length with
    | false =>
      have HF := hid (show okLp x = false by rw [okLp_s, e0, e1]; rfl)
      rw [e0] at S1
      rw [e1] at S2
      clear e0 e1
      obtain ⟨k0, k1, k2, k3, k4, k5, k6⟩ := K.out.three
      go_enter Try.func24, Try.ntmps24
      go_wp2_with fail
      with_reducible refine (S1.out _).mono ?_
      rintro e w1 ⟨rfl, rfl⟩
      go_wp2_with fail
      with_reducible refine (S2.out _).mono ?_
      rintro e w1 ⟨rfl, rfl⟩
      go_wp2_with fail
      go_ret
      exact ⟨by rw [HF.out]; rfl, B.out⟩
    | true =>
      cases e2 : (okM x.1 x.2.2.length && decide (x.1.length = x.2.1.length)) with
      | false =>
        have HF := hid (show okLp x = false by rw [okLp_s, e0, e1, e2]; rfl)
        rw [e0] at S1
        rw [e1] at S2
        rw [e2] at M
        clear e0 e1 e2
        obtain ⟨k0, k1, k2, k3, k4, k5, k6⟩ := K.out.three
        go_enter Try.func24, Try.ntmps24
        go_wp2_with fail
        with_reducible refine (S1.out _).mono ?_
        rintro e w1 ⟨rfl, rfl⟩
        go_wp2_with fail
        with_reducible refine (S2.out _).mono ?_
        rintro e w1 ⟨rfl, rfl⟩
        go_wp2_with fail
        with_reducible refine M.out.mono ?_
        rintro e w1 ⟨rfl, hb1⟩
        clear k0 k1 k2 k3 k4 k5 k6
        replace K := hid (K.out.below hb1)
        replace B := hid (B.out.trans (hb1.mono B.out.size))
        clear hb1
        obtain ⟨k0, k1, k2, k3, k4, k5, k6⟩ := K.out.three
        go_wp2_with fail
        go_ret
        exact ⟨by rw [HF.out]; rfl, B.out⟩
      | true =>
        cases e3 : allV x.2.2 with
        | false =>
          have HF := hid (show okLp x = false by rw [okLp_s, e0, e1, e2, e3]; rfl)
          rw [e0] at S1
          rw [e1] at S2
          rw [e2] at M
          have HV := hid e3
          clear e0 e1 e2 e3
          obtain ⟨k0, k1, k2, k3, k4, k5, k6⟩ := K.out.three
          go_enter Try.func24, Try.ntmps24
          go_wp2_with fail
          with_reducible refine (S1.out _).mono ?_
          rintro e w1 ⟨rfl, rfl⟩
          go_wp2_with fail
          with_reducible refine (S2.out _).mono ?_
          rintro e w1 ⟨rfl, rfl⟩
          go_wp2_with fail
          with_reducible refine M.out.mono ?_
          rintro e w1 ⟨rfl, hb1⟩
          clear k0 k1 k2 k3 k4 k5 k6
          replace K := hid (K.out.below hb1)
          replace B := hid (B.out.trans (hb1.mono B.out.size))
          clear hb1
          obtain ⟨k0, k1, k2, k3, k4, k5, k6⟩ := K.out.three
          have BL := hid (B.out.alloc B.out.size (.cells #[.slice c x.2.2.length capc] 25))
          have KL := hid (K.out.alloc (.cells #[.slice c x.2.2.length capc] 25))
          have O := hid (spec_one w1.heap.size _ capc x.2.2 _ hn3 ((hasl_new w1 [.slice c x.2.2.length capc] 25).one.1) (by simp) hcc (HCC.out _ BL.out))
          rw [HV.out] at O
          go_wp2_with fail
          with_reducible refine O.out.mono ?_
          rintro e w2 ⟨rfl, hb1⟩
          clear k0 k1 k2 k3 k4 k5 k6
          replace K := hid (KL.out.below hb1)
          replace B := hid (BL.out.trans (hb1.mono BL.out.size))
          clear hb1 BL KL O
          obtain ⟨k0, k1, k2, k3, k4, k5, k6⟩ := K.out.three
          go_wp2_with fail
          go_ret
          exact ⟨by rw [HF.out]; rfl, B.out⟩
        | true =>
          have HF := hid (show okLp x = allV x.2.1 by rw [okLp_s, e0, e1, e2, e3]; rfl)
          rw [e0] at S1
          rw [e1] at S2
          rw [e2] at M
          have HV := hid e3
          clear e0 e1 e2 e3
          obtain ⟨k0, k1, k2, k3, k4, k5, k6⟩ := K.out.three
          go_enter Try.func24, Try.ntmps24
          go_wp2_with fail
          with_reducible refine (S1.out _).mono ?_
          rintro e w1 ⟨rfl, rfl⟩
          go_wp2_with fail
          with_reducible refine (S2.out _).mono ?_
          rintro e w1 ⟨rfl, rfl⟩
          go_wp2_with fail
          with_reducible refine M.out.mono ?_
          rintro e w1 ⟨rfl, hb1⟩
          clear k0 k1 k2 k3 k4 k5 k6
          replace K := hid (K.out.below hb1)
          replace B := hid (B.out.trans (hb1.mono B.out.size))
          clear hb1
          obtain ⟨k0, k1, k2, k3, k4, k5, k6⟩ := K.out.three
          have BL := hid (B.out.alloc B.out.size (.cells #[.slice c x.2.2.length capc] 25))
          have KL := hid (K.out.alloc (.cells #[.slice c x.2.2.length capc] 25))
          have O := hid (spec_one w1.heap.size _ capc x.2.2 _ hn3 ((hasl_new w1 [.slice c x.2.2.length capc] 25).one.1) (by simp) hcc (HCC.out _ BL.out))
          rw [HV.out] at O
          go_wp2_with fail
          with_reducible refine O.out.mono ?_
          rintro e w2 ⟨rfl, hb1⟩
          clear k0 k1 k2 k3 k4 k5 k6
          replace K := hid (KL.out.below hb1)
          replace B := hid (BL.out.trans (hb1.mono BL.out.size))
          clear hb1 BL KL O
          obtain ⟨k0, k1, k2, k3, k4, k5, k6⟩ := K.out.three
          have BL := hid (B.out.alloc B.out.size (.cells #[.slice b x.2.1.length capb] 25))
          have KL := hid (K.out.alloc (.cells #[.slice b x.2.1.length capb] 25))
          have O := hid (spec_one w2.heap.size _ capb x.2.1 _ hn2 ((hasl_new w2 [.slice b x.2.1.length capb] 25).one.1) (by simp) hcb (HBB.out _ BL.out))
          go_wp2_with fail
          with_reducible refine O.out.mono ?_
          rintro e w3 ⟨rfl, hb1⟩
          clear k0 k1 k2 k3 k4 k5 k6
          replace K := hid (KL.out.below hb1)
          replace B := hid (BL.out.trans (hb1.mono BL.out.size))
          clear hb1 BL KL O
          obtain ⟨k0, k1, k2, k3, k4, k5, k6⟩ := K.out.three
          go_wp2_with fail
          go_ret
          exact ⟨by rw [HF.out]; rfl, B.out⟩

set_option maxRecDepth 100000 in
set_option maxHeartbeats 2000000 in
theorem spec_side (mn : Bool) (sg : Int) (cs : List Value) (x : LpD) (p : Option Addr) (capp : Nat) (pt : List RatD) (lo hi lo' hi' : Nat) (w : World) (hsg : Hid (sg = sgOf mn)) (hs : szLp x ≤ 1048576) (hp : pt.length ≤ 1048576) (h : rLp w lo hi cs x) (h' : Els 2 rRat w lo' hi' p pt) (hh : hi ≤ w.heap.size) (hh' : hi' ≤ w.heap.size) :
    Calls Try.prog 83 #[.agg cs.toArray, .slice p pt.length capp, .int .i64 sg] w fun e w' => e = .returned (.bool (feas mn x pt)) ∧ Below w.heap.size w w' := by
  have hrd := hid h
  obtain ⟨a, cap, b, capb, c, capc, rfl, hz1, hz2, hz3, ha, hb, hc⟩ := lp_open h
  have hn1 : szM x.1 ≤ 1048576 := by unfold szLp at hs; omega
  have hn2 : x.2.1.length ≤ 1048576 := by unfold szLp at hs; omega
  have hn3 : x.2.2.length ≤ 1048576 := by unfold szLp at hs; omega
  have hl1 : x.1.length ≤ 1048576 := by have h := tots_len List.length x.1; unfold szM at hn1; omega
  have hr1 := hid (fun j (hj : j < x.1.length) => show x.1[j].length ≤ 1048576 by have h := elem_le List.length x.1 j hj; unfold szM at hn1; omega)
  have K := hid (hasl_new w [.slice a x.1.length cap, .slice b x.2.1.length capb, .slice c x.2.2.length capc] 32)
  have B := hid ((Below.refl w.heap.size w).alloc (Nat.le_refl _) (.cells #[.slice a x.1.length cap, .slice b x.2.1.length capb, .slice c x.2.2.length capc] 32))
  have V := hid (spec_vlp _ x lo hi _ hs (good_lp.keep hrd.out (sm_below B.out hh)) (Nat.le_trans hh B.out.size))
  have MV := hid (fun W (hW : Below w.heap.size w W) => spec_mv a p cap capp x.1 pt lo hi lo' hi' W hl1 hr1 (ha.keep good_row2 (sm_below hW hh)) (h'.keep good_rat (sm_below hW hh')) (Nat.le_trans hh hW.size) (Nat.le_trans hh' hW.size))
  have HB := hid (fun W (hW : Below w.heap.size w W) => hb.keep good_rat (sm_below hW hh))
  have HP := hid (fun W (hW : Below w.heap.size w W) => h'.keep good_rat (sm_below hW hh'))
  have HPB := hid (fun j hj => rats_bd h' j hj)
  have HBB := hid (fun j hj => rats_bd hb j hj)
  clear h h' hrd ha hb hc hz1 hz2 hz3 hr1
  cases e0 : okLp x with
  | false =>
    have HF := hid (feas_none (mn := mn) (pp_no1 (pt := pt) e0))
    rw [e0] at V
    clear e0
    obtain ⟨k0, k1, k2, k3, k4, k5, k6⟩ := K.out.three
    go_enter Try.func83, Try.ntmps83
    go_wp2_with fail
    with_reducible refine V.out.mono ?_
    rintro e w1 ⟨rfl, hb1⟩
    clear k0 k1 k2 k3 k4 k5 k6
    replace K := hid (K.out.below hb1)
    replace B := hid (B.out.trans (hb1.mono B.out.size))
    clear hb1
    obtain ⟨k0, k1, k2, k3, k4, k5, k6⟩ := K.out.three
    go_wp2_with fail
    go_ret
    exact ⟨by rw [HF.out]; rfl, B.out⟩
  | true =>
    by_cases hl : pt.length = x.2.2.length
    · rw [e0] at V
      have hq : ((pt.length : Int) != (x.2.2.length : Int)) = false := by simp [hl]
      have HE0 := hid e0
      have HEL := hid hl
      clear e0 hl
      obtain ⟨k0, k1, k2, k3, k4, k5, k6⟩ := K.out.three
      go_enter Try.func83, Try.ntmps83
      go_wp2_with fail
      with_reducible refine V.out.mono ?_
      rintro e w1 ⟨rfl, hb1⟩
      clear k0 k1 k2 k3 k4 k5 k6
      replace K := hid (K.out.below hb1)
      replace B := hid (B.out.trans (hb1.mono B.out.size))
      clear hb1
      obtain ⟨k0, k1, k2, k3, k4, k5, k6⟩ := K.out.three
      clear V
      go_wp2_with fail
      clear k0 k1 k2 k3 k4 k5 k6
      obtain ⟨w2, hw2⟩ : ∃ wo : World, wo = w1 := ⟨_, rfl⟩
      go_loopw [7] (fun i wr => ∃ k : Nat, k ≤ pt.length ∧ i = .int .i64 k ∧ Hid (nnTo pt k) ∧ Hid (HasL wr w.heap.size [.slice a x.1.length cap, .slice b x.2.1.length capb, .slice c x.2.2.length capc]) ∧ Hid (Below w.heap.size w wr)) (fun i _ => pt.length - (intOf i).toNat)
      case atStart => exact ⟨0, Nat.zero_le _, rfl, hid (fun j _ hj => by omega), K, B⟩
      case round =>
        obtain ⟨k, hk, rfl, hok, KR, BR⟩ := hrel
        clear K B hw2
        by_cases hlt : k < pt.length
        · obtain ⟨b1, off, rfl, _, hbB, c0, c1⟩ := rats_at (HP.out _ BR.out) k hlt
          have hbd := HPB.out k hlt
          have hlt' : (k : Int) < (pt.length : Int) := by omega
          have h0' : (0 : Int) ≤ (k : Int) := by omega
          have hsz := BR.out.size
          have A := hid (fun W => spec_valid pt[k].1 pt[k].2 W hbd.1.1 hbd.1.2 hbd.2.1 hbd.2.2)
          cases hv : vr pt[k].1 pt[k].2 with
          | false =>
            rw [hv] at A
            have HF := hid (feas_none (mn := mn) (pp_no3 (x := x) (nn_no hlt (wt_v hv))))
            clear hv hbd
            go_wp2_with fail
            with_reducible refine (A.out _).mono ?_
            rintro e w3 ⟨rfl, hb1⟩
            have B3 := hid (BR.out.trans (hb1.mono hsz))
            clear hb1
            go_wp2_with fail
            go_ret
            exact ⟨by rw [HF.out]; rfl, B3.out⟩
          | true =>
            rw [hv] at A
            by_cases hz : pt[k].1 < 0
            · have HF := hid (feas_none (mn := mn) (pp_no3 (x := x) (nn_no hlt (wt_n hz))))
              clear hv hbd
              go_wp2_with fail
              with_reducible refine (A.out _).mono ?_
              rintro e w3 ⟨rfl, hb1⟩
              have d0 := (hb1.cell (p := ⟨b1, off + k * 2, none⟩) (show b1 < _ by omega)).trans c0
              have B3 := hid (BR.out.trans (hb1.mono hsz))
              clear hb1
              go_wp2_with fail
              go_ret
              exact ⟨by rw [HF.out]; rfl, B3.out⟩
            · have HO := hid (nnTo_step hok.out hlt (wt_yes hv (by omega)))
              clear hv hbd
              go_wp2_with fail
              with_reducible refine (A.out _).mono ?_
              rintro e w3 ⟨rfl, hb1⟩
              have d0 := (hb1.cell (p := ⟨b1, off + k * 2, none⟩) (show b1 < _ by omega)).trans c0
              have B3 := hid (BR.out.trans (hb1.mono hsz))
              have K3 := hid (KR.out.below hb1)
              clear hb1
              go_wp2_with fail
              go_roundw
              case rel => exact ⟨k + 1, by omega, by go_num, HO, K3, B3⟩
              case measure => simp [intOf]; omega
        · have hlt' : ¬ (k : Int) < (pt.length : Int) := by omega
          have e : k = pt.length := by omega
          subst e
          have HPP := hid (pp_yes HE0.out HEL.out (nn_yes hok.out))
          obtain ⟨k0, k1, k2, k3, k4, k5, k6⟩ := KR.out.three
          have sB := BR.out.size
          clear hok
          obtain ⟨w4, rfl⟩ : ∃ wo : World, wo = wr := ⟨_, rfl⟩
          go_wp2_with fail
          with_reducible refine (MV.out _ BR.out).mono ?_
          rintro e w5 ⟨a0, c0, rfl, hown, hb1⟩
          clear k0 k1 k2 k3 k4 k5 k6
          have K5 := hid (KR.out.below hb1)
          have B5 := hid (BR.out.trans (hb1.mono sB))
          clear KR BR
          cases hmv : mvQ x.1 pt with
          | none =>
            have HF := hid (feas_none (mn := mn) (HPP.out.trans hmv))
            simp only [hmv, okO, lstO, Option.isSome_none, Option.getD_none, List.length_nil] at hown ⊢
            clear hb1 hown hmv
            go_wp2_with fail
            go_loopw [10] (fun i wr => i = .int .i64 0 ∧ Hid (Below w.heap.size w wr)) (fun i _ => 0)
            case atStart => exact ⟨rfl, B5⟩
            case round =>
              obtain ⟨rfl, B6⟩ := hrel
              go_wp2_with fail
              go_ret
              exact ⟨by rw [HF.out]; rfl, B6.out⟩
          | some y =>
            have HF := hid (feas_some (mn := mn) (HPP.out.trans hmv))
            have hyl := hid (pp_len (HPP.out.trans hmv))
            have hyb := hid (pp_iba (HPP.out.trans hmv))
            simp only [hmv, okO, lstO, Option.isSome_some, Option.getD_some] at hown ⊢
            have EY := hid ((ownq_rd hown).2)
            have hyn : y.length ≤ 1048576 := by have := hyl.out; omega
            clear hb1 hown hmv
            go_wp2_with fail
            go_loopw [10] (fun i wr => ∃ k : Nat, k ≤ y.length ∧ i = .int .i64 k ∧ Hid (sdTo mn y x.2.1 k) ∧ Hid (HasL wr w.heap.size [.slice a x.1.length cap, .slice b x.2.1.length capb, .slice c x.2.2.length capc]) ∧ Hid (Below w5.heap.size w5 wr) ∧ Hid (Below w.heap.size w wr)) (fun i _ => y.length - (intOf i).toNat)
            case atStart => exact ⟨0, Nat.zero_le _, rfl, hid (fun j _ _ hj => by omega), K5, hid (Below.refl _ _), B5⟩
            case round =>
              obtain ⟨k, hk, rfl, hok, KR, BY, BR⟩ := hrel
              clear K5 B5
              by_cases hlt : k < y.length
              · have hlt2 : k < x.2.1.length := by have := hyl.out; omega
                obtain ⟨b1, off, rfl, _, hbB, c0, c1⟩ := rats_at (EY.out.keep good_rat (sm_below BY.out (Nat.le_refl _))) k hlt
                obtain ⟨b2, off2, rfl, _, hbB2, d0, d1⟩ := rats_at (HB.out _ BR.out) k hlt2
                have hxb := hyb.out k hlt
                have hbb := HBB.out k hlt2
                have C := hid (fun W => spec_cmpQ y[k] x.2.1[k] W hxb.1 hxb.2 hbb.1 hbb.2)
                have HY := hid (fun hv => sdTo_step hok.out hlt hlt2 hv)
                have HN := hid (fun hv => sd_no (mn := mn) hlt hlt2 hv)
                have hcv := cmpQ_vals y[k] x.2.1[k]
                have hsv : sgOf mn = 1 ∨ sgOf mn = -1 := by cases mn <;> simp [sgOf]
                rw [← hsg.out] at HY HN hsv
                clear hxb hbb hok
                generalize cmpQ y[k] x.2.1[k] = s at C HY HN hcv
                obtain ⟨t, ht⟩ : ∃ t, s * sg = t := ⟨_, rfl⟩
                have hwr : IntKind.i64.wrap (s * sg) = t := by
                  rw [ht]
                  have : -1 ≤ t ∧ t ≤ 1 := by rcases hsv with e | e <;> (rw [e] at ht; omega)
                  exact IntWalk.i64_in _ (by omega)
                rw [ht] at HY HN hwr
                obtain ⟨k0, k1, k2, k3, k4, k5, k6⟩ := KR.out.three
                have hlt' : (k : Int) < (y.length : Int) := by omega
                have hlt2' : (k : Int) < (x.2.1.length : Int) := by omega
                have h0' : (0 : Int) ≤ (k : Int) := by omega
                have s1 := BR.out.size
                have s2 := BY.out.size
                have hk0 := kp_refl wr
                have hb2l : b2 < wr.heap.size := by omega
                have hb1l : b1 < wr.heap.size := by omega
                clear hcv hsv k3 k4 k5
                go_upto_region 12 with fail
                go_cut [67] (fun s6 wx => s6 = .bool (decide (t < 0)) ∧ Kp wr 0 wx)
                case first =>
                  go_region_held3 (fun w' => w'.cell? ⟨b1, off + k * 2, none⟩ = some (.int .i64 y[k].1) ∧ w'.cell? ⟨b1, off + k * 2 + 1, none⟩ = some (.int .i64 y[k].2) ∧ w'.cell? ⟨w.heap.size, 1, none⟩ = some (.slice (some ⟨b2, off2, none⟩) x.2.1.length capb) ∧ w'.cell? ⟨b2, off2 + k * 2, none⟩ = some (.int .i64 x.2.1[k].1) ∧ w'.cell? ⟨b2, off2 + k * 2 + 1, none⟩ = some (.int .i64 x.2.1[k].2) ∧ Kp wr 0 w')
                    (first
              | (go_split_ands
                 repeat' apply And.intro
                 all_goals (first | (with_reducible assumption) | (with_reducible exact cell_drew (by assumption)) | (with_reducible exact Kp.drew (by assumption)) | (with_reducible exact Kp.cell (by assumption) hb1 (by omega) (by assumption)) | (with_reducible exact Kp.call (by assumption) hb1))))
                    (first | (go_split_ands; go_at_call 103; (with_reducible refine (C.out _).mono ?_); rintro e wU ⟨rfl, hb1⟩) | fail)
                  all_goals
                    go_wp2_with fail
                    go_meet
                    go_split_ands
                    exact ⟨rfl, by with_reducible assumption⟩
                case rest =>
                  obtain ⟨rfl, hkp⟩ := hcut
                  have HBR := hid (BR.out.trans (hkp.bel.mono s1))
                  have HBY := hid (BY.out.trans (hkp.bel.mono s2))
                  have HKR := hid (KR.out.below hkp.bel)
                  clear hkp hk0 C c0 c1 d0 d1 k0 k1 k2 k6 ht hwr
                  by_cases hv : t < 0
                  · have HNN := hid (HN.out hv)
                    have hd := decide_eq_true hv
                    clear HY HN
                    go_wp2_with fail
                    go_ret
                    exact ⟨by rw [HF.out, HNN.out]; rfl, HBR.out⟩
                  · have HYY := hid (HY.out hv)
                    have hd := decide_eq_false hv
                    clear HY HN
                    go_wp2_with fail
                    go_roundw
                    case rel => exact ⟨k + 1, by omega, by go_num, HYY, HKR, HBY, HBR⟩
                    case measure => simp [intOf]; omega
              · have hlt' : ¬ (k : Int) < (y.length : Int) := by omega
                have e : k = y.length := by omega
                subst e
                have HYY := hid (sd_yes hyl.out hok.out)
                clear hok
                go_wp2_with fail
                go_ret
                exact ⟨by rw [HF.out, HYY.out]; rfl, BR.out⟩
    · rw [e0] at V
      have HF := hid (feas_none (mn := mn) (pp_no2 (x := x) hl))
      have hq : ((pt.length : Int) != (x.2.2.length : Int)) = true := by simp only [bne_iff_ne, ne_eq]; omega
      clear e0 hl
      obtain ⟨k0, k1, k2, k3, k4, k5, k6⟩ := K.out.three
      go_enter Try.func83, Try.ntmps83
      go_wp2_with fail
      with_reducible refine V.out.mono ?_
      rintro e w1 ⟨rfl, hb1⟩
      clear k0 k1 k2 k3 k4 k5 k6
      replace K := hid (K.out.below hb1)
      replace B := hid (B.out.trans (hb1.mono B.out.size))
      clear hb1
      obtain ⟨k0, k1, k2, k3, k4, k5, k6⟩ := K.out.three
      go_wp2_with fail
      go_ret
      exact ⟨by rw [HF.out]; rfl, B.out⟩

theorem spec_min (cs : List Value) (x : LpD) (p : Option Addr) (capp : Nat) (pt : List RatD) (lo hi lo' hi' : Nat) (w : World) (hs : szLp x ≤ 1048576) (hp : pt.length ≤ 1048576) (h : rLp w lo hi cs x) (h' : Els 2 rRat w lo' hi' p pt) (hh : hi ≤ w.heap.size) (hh' : hi' ≤ w.heap.size) :
    Calls Try.prog 29 #[.agg cs.toArray, .slice p pt.length capp] w fun e w' => e = .returned (.bool (feas true x pt)) ∧ Below w.heap.size w w' := by
  have hrd := hid h
  obtain ⟨a, cap, b, capb, c, capc, rfl, hz1, hz2, hz3, ha, hb, hc⟩ := lp_open h
  have hn1 : szM x.1 ≤ 1048576 := by unfold szLp at hs; omega
  have hn2 : x.2.1.length ≤ 1048576 := by unfold szLp at hs; omega
  have hn3 : x.2.2.length ≤ 1048576 := by unfold szLp at hs; omega
  have hl1 : x.1.length ≤ 1048576 := by have h := tots_len List.length x.1; unfold szM at hn1; omega
  have hr1 := hid (fun j (hj : j < x.1.length) => show x.1[j].length ≤ 1048576 by have h := elem_le List.length x.1 j hj; unfold szM at hn1; omega)
  have K := hid (hasl_new w [.slice a x.1.length cap, .slice b x.2.1.length capb, .slice c x.2.2.length capc] 32)
  have B := hid ((Below.refl w.heap.size w).alloc (Nat.le_refl _) (.cells #[.slice a x.1.length cap, .slice b x.2.1.length capb, .slice c x.2.2.length capc] 32))
  have PP := hid (spec_side true 1 _ x p capp pt lo hi lo' hi' _ (hid rfl) hs hp (good_lp.keep hrd.out (sm_below B.out hh)) (h'.keep good_rat (sm_below B.out hh')) (Nat.le_trans hh B.out.size) (Nat.le_trans hh' B.out.size))
  clear h h' hrd ha hb hc hz1 hz2 hz3 hr1
  obtain ⟨k0, k1, k2, k3, k4, k5, k6⟩ := K.out.three
  go_enter Try.func29, Try.ntmps29
  go_wp2_with fail
  with_reducible refine PP.out.mono ?_
  rintro e w1 ⟨rfl, hb1⟩
  clear k0 k1 k2 k3 k4 k5 k6
  replace K := hid (K.out.below hb1)
  replace B := hid (B.out.trans (hb1.mono B.out.size))
  clear hb1
  go_wp2_with fail
  go_ret
  exact ⟨rfl, B.out⟩

theorem spec_max (cs : List Value) (x : LpD) (p : Option Addr) (capp : Nat) (pt : List RatD) (lo hi lo' hi' : Nat) (w : World) (hs : szLp x ≤ 1048576) (hp : pt.length ≤ 1048576) (h : rLp w lo hi cs x) (h' : Els 2 rRat w lo' hi' p pt) (hh : hi ≤ w.heap.size) (hh' : hi' ≤ w.heap.size) :
    Calls Try.prog 47 #[.agg cs.toArray, .slice p pt.length capp] w fun e w' => e = .returned (.bool (feas false x pt)) ∧ Below w.heap.size w w' := by
  have hrd := hid h
  obtain ⟨a, cap, b, capb, c, capc, rfl, hz1, hz2, hz3, ha, hb, hc⟩ := lp_open h
  have hn1 : szM x.1 ≤ 1048576 := by unfold szLp at hs; omega
  have hn2 : x.2.1.length ≤ 1048576 := by unfold szLp at hs; omega
  have hn3 : x.2.2.length ≤ 1048576 := by unfold szLp at hs; omega
  have hl1 : x.1.length ≤ 1048576 := by have h := tots_len List.length x.1; unfold szM at hn1; omega
  have hr1 := hid (fun j (hj : j < x.1.length) => show x.1[j].length ≤ 1048576 by have h := elem_le List.length x.1 j hj; unfold szM at hn1; omega)
  have K := hid (hasl_new w [.slice a x.1.length cap, .slice b x.2.1.length capb, .slice c x.2.2.length capc] 32)
  have B := hid ((Below.refl w.heap.size w).alloc (Nat.le_refl _) (.cells #[.slice a x.1.length cap, .slice b x.2.1.length capb, .slice c x.2.2.length capc] 32))
  have PP := hid (spec_side false (-1) _ x p capp pt lo hi lo' hi' _ (hid rfl) hs hp (good_lp.keep hrd.out (sm_below B.out hh)) (h'.keep good_rat (sm_below B.out hh')) (Nat.le_trans hh B.out.size) (Nat.le_trans hh' B.out.size))
  clear h h' hrd ha hb hc hz1 hz2 hz3 hr1
  obtain ⟨k0, k1, k2, k3, k4, k5, k6⟩ := K.out.three
  go_enter Try.func47, Try.ntmps47
  go_wp2_with fail
  with_reducible refine PP.out.mono ?_
  rintro e w1 ⟨rfl, hb1⟩
  clear k0 k1 k2 k3 k4 k5 k6
  replace K := hid (K.out.below hb1)
  replace B := hid (B.out.trans (hb1.mono B.out.size))
  clear hb1
  go_wp2_with fail
  go_ret
  exact ⟨rfl, B.out⟩
end Go.Proofs.Ytjnphlgmmjdeiaa.LpS
