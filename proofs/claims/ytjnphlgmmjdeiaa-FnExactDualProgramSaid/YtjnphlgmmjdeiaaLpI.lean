/- The program's tests of linear programs and points. -/
import Derived.Test.YtjnphlgmmjdeiaaLpP
import Derived.Test.YtjnphlgmmjdeiaaMtr
import Derived.Test.YtjnphlgmmjdeiaaMvp
import Derived.Deep.RegionHeld3
import Derived.Deep.DeepCutAuto
namespace Go.Proofs.Ytjnphlgmmjdeiaa.LpI
open Go.RowKit
open Go.Proofs.Ytjnphlgmmjdeiaa.Num Go.Proofs.Ytjnphlgmmjdeiaa.IntRow Go.Proofs.Ytjnphlgmmjdeiaa.GridMore Go.Proofs.Ytjnphlgmmjdeiaa.Rdr Go.Proofs.Ytjnphlgmmjdeiaa.HasL Go.Proofs.Ytjnphlgmmjdeiaa.Rat Go.Proofs.Ytjnphlgmmjdeiaa.Valid Go.Proofs.Ytjnphlgmmjdeiaa.RatLaw Go.Proofs.Ytjnphlgmmjdeiaa.Rats Go.Proofs.Ytjnphlgmmjdeiaa.RatRow Go.Proofs.Ytjnphlgmmjdeiaa.RatOwn Go.Proofs.Ytjnphlgmmjdeiaa.GridQ Go.Proofs.Ytjnphlgmmjdeiaa.RatsSS Go.Proofs.Ytjnphlgmmjdeiaa.Lp Go.Proofs.Ytjnphlgmmjdeiaa.LinP Go.Proofs.Ytjnphlgmmjdeiaa.Mtr Go.Proofs.Ytjnphlgmmjdeiaa.Mvp Go.Proofs.Ytjnphlgmmjdeiaa.AllV Go.Proofs.Ytjnphlgmmjdeiaa.Wt Go.Proofs.Ytjnphlgmmjdeiaa.Ops Go.Proofs.Ytjnphlgmmjdeiaa.OpsSpec Go.Proofs.Ytjnphlgmmjdeiaa.LpP Go.Proofs.Ytjnphlgmmjdeiaa.Keep Go.Proofs.Ytjnphlgmmjdeiaa.Kept
set_option linter.unusedVariables false

theorem impl_ips (n : Nat) (w : World) : Calls Try.prog 72 #[.int .i64 n] w fun e w' => e = .returned (.bool (inP n)) ∧ w = w' := by
  rcases (by omega : n < 1 ∨ (1 ≤ n ∧ n ≤ 5) ∨ (1 ≤ n ∧ 5 < n)) with h | ⟨h, h2⟩ | ⟨h, h2⟩
  · have HF := hid (show inP n = false from decide_eq_false (by omega))
    have t0 : ¬ (1 : Int) ≤ (n : Int) := by omega
    clear h
    go_enter Try.func72, Try.ntmps72
    go_wp2_with fail
    go_ret
    exact ⟨by rw [HF.out]; rfl, rfl⟩
  · have HF := hid (show inP n = true from decide_eq_true (by omega))
    have t0 : (1 : Int) ≤ (n : Int) := by omega
    have t1 : (n : Int) ≤ 5 := by omega
    clear h h2
    go_enter Try.func72, Try.ntmps72
    go_wp2_with fail
    go_ret
    exact ⟨by rw [HF.out]; rfl, rfl⟩
  · have HF := hid (show inP n = false from decide_eq_false (by omega))
    have t0 : (1 : Int) ≤ (n : Int) := by omega
    have t1 : ¬ (n : Int) ≤ 5 := by omega
    clear h h2
    go_enter Try.func72, Try.ntmps72
    go_wp2_with fail
    go_ret
    exact ⟨by rw [HF.out]; rfl, rfl⟩

set_option maxRecDepth 100000 in
theorem impl_vlp (cs : List Value) (x : LpD) (lo hi : Nat) (w : World) (hs : szLp x ≤ 1048576) (h : rLp w lo hi cs x) (hh : hi ≤ w.heap.size) :
    Calls Try.prog 23 #[.agg cs.toArray] w fun e w' => e = .returned (.bool (okLp x)) ∧ Below w.heap.size w w' := by
  obtain ⟨a, cap, b, capb, c, capc, rfl, hz1, hz2, hz3, ha, hb, hc⟩ := lp_open h
  have hn1 : szM x.1 ≤ 1048576 := by unfold szLp at hs; omega
  have hn2 : x.2.1.length ≤ 1048576 := by unfold szLp at hs; omega
  have hn3 : x.2.2.length ≤ 1048576 := by unfold szLp at hs; omega
  have hl1 : x.1.length ≤ 1048576 := by have h := tots_len List.length x.1; unfold szM at hn1; omega
  have hr1 := hid (fun j (hj : j < x.1.length) => show x.1[j].length ≤ 1048576 by have h := elem_le List.length x.1 j hj; unfold szM at hn1; omega)
  have K := hid (hasl_new w [.slice a x.1.length cap, .slice b x.2.1.length capb, .slice c x.2.2.length capc] 32)
  have B := hid ((Below.refl w.heap.size w).alloc (Nat.le_refl _) (.cells #[.slice a x.1.length cap, .slice b x.2.1.length capb, .slice c x.2.2.length capc] 32))
  have S1 := hid (fun W => impl_ips x.2.2.length W)
  have S2 := hid (fun W => impl_ips x.2.1.length W)
  have M := hid (impl_matrix a cap x.1 x.2.2.length lo hi _ hl1 (by omega) hr1 (ha.keep good_row2 (sm_below B.out hh)) (Nat.le_trans hh B.out.size))
  have A1 := hid (fun W (hW : Below w.heap.size w W) => impl_allv b capb x.2.1 lo hi W (by omega) (hb.keep good_rat (sm_below hW hh)) (Nat.le_trans hh hW.size))
  have A2 := hid (fun W (hW : Below w.heap.size w W) => impl_allv c capc x.2.2 lo hi W (by omega) (hc.keep good_rat (sm_below hW hh)) (Nat.le_trans hh hW.size))
  have hok : okLp x = _ := rfl
  rw [okLp] at hok
  clear h ha hb hc hz1 hz2 hz3 hr1
  cases e0 : inP x.2.2.length with
  | false =>
    have HF := hid (show okLp x = false by rw [okLp, e0]; rfl)
    rw [e0] at S1
    clear hok e0
    obtain ⟨k0, k1, k2, k3, k4, k5, k6⟩ := K.out.three
    go_enter Try.func23, Try.ntmps23
    go_wp2_with fail
    with_reducible refine (S1.out _).mono ?_
    rintro e w1 ⟨rfl, rfl⟩
    go_wp2_with fail
    go_ret
    exact ⟨by rw [HF.out]; rfl, B.out⟩
  | true =>
    cases e1 : inP x.2.1.length with
    | false =>
      have HF := hid (show okLp x = false by rw [okLp, e0, e1]; rfl)
      rw [e0] at S1
      rw [e1] at S2
      clear hok e0 e1
      obtain ⟨k0, k1, k2, k3, k4, k5, k6⟩ := K.out.three
      go_enter Try.func23, Try.ntmps23
      go_wp2_with fail
      with_reducible refine (S1.out _).mono ?_
      rintro e w1 ⟨rfl, rfl⟩
      go_wp2_with fail
      with_reducible refine (S2.out _).mono ?_
      rintro e w1 ⟨rfl, rfl⟩
      go_wp2_with fail
      go_ret
      exact ⟨by rw [HF.out]; rfl, B.out⟩
    | true =>
      cases e2 : decide (x.1.length = x.2.1.length) with
      | false =>
        have HF := hid (show okLp x = false by rw [okLp, e0, e1, e2]; rfl)
        rw [e0] at S1
        rw [e1] at S2
        have hq : ((x.1.length : Int) == (x.2.1.length : Int)) = false := by have := of_decide_eq_false e2; simp only [beq_eq_false_iff_ne, ne_eq]; omega
        clear hok e0 e1 e2
        obtain ⟨k0, k1, k2, k3, k4, k5, k6⟩ := K.out.three
        go_enter Try.func23, Try.ntmps23
        go_wp2_with fail
        with_reducible refine (S1.out _).mono ?_
        rintro e w1 ⟨rfl, rfl⟩
        go_wp2_with fail
        with_reducible refine (S2.out _).mono ?_
        rintro e w1 ⟨rfl, rfl⟩
        go_wp2_with fail
        go_ret
        exact ⟨by rw [HF.out]; rfl, B.out⟩
      | true =>
        cases e3 : okM x.1 x.2.2.length with
        | false =>
          have HF := hid (show okLp x = false by rw [okLp, e0, e1, e2, e3]; rfl)
          rw [e0] at S1
          rw [e1] at S2
          have hq : ((x.1.length : Int) == (x.2.1.length : Int)) = true := by have := of_decide_eq_true e2; simp [this]
          rw [e3] at M
          clear hok e0 e1 e2 e3
          obtain ⟨k0, k1, k2, k3, k4, k5, k6⟩ := K.out.three
          go_enter Try.func23, Try.ntmps23
          go_wp2_with fail
          with_reducible refine (S1.out _).mono ?_
          rintro e w1 ⟨rfl, rfl⟩
          go_wp2_with fail
          with_reducible refine (S2.out _).mono ?_
          rintro e w1 ⟨rfl, rfl⟩
          go_wp2_with fail
          with_reducible refine M.out.mono ?_
          rintro e w1 ⟨rfl, hb1⟩
          clear k0 k1 k2 k3 k4 k5 k6
          replace K := hid (K.out.below hb1)
          replace B := hid (B.out.trans (hb1.mono B.out.size))
          clear hb1
          obtain ⟨k0, k1, k2, k3, k4, k5, k6⟩ := K.out.three
          go_wp2_with fail
          go_ret
          exact ⟨by rw [HF.out]; rfl, B.out⟩
        | true =>
          cases e4 : allV x.2.1 with
          | false =>
            have HF := hid (show okLp x = false by rw [okLp, e0, e1, e2, e3, e4]; rfl)
            rw [e0] at S1
            rw [e1] at S2
            have hq : ((x.1.length : Int) == (x.2.1.length : Int)) = true := by have := of_decide_eq_true e2; simp [this]
            rw [e3] at M
            rw [e4] at A1
            clear hok e0 e1 e2 e3 e4
            obtain ⟨k0, k1, k2, k3, k4, k5, k6⟩ := K.out.three
            go_enter Try.func23, Try.ntmps23
            go_wp2_with fail
            with_reducible refine (S1.out _).mono ?_
            rintro e w1 ⟨rfl, rfl⟩
            go_wp2_with fail
            with_reducible refine (S2.out _).mono ?_
            rintro e w1 ⟨rfl, rfl⟩
            go_wp2_with fail
            with_reducible refine M.out.mono ?_
            rintro e w1 ⟨rfl, hb1⟩
            clear k0 k1 k2 k3 k4 k5 k6
            replace K := hid (K.out.below hb1)
            replace B := hid (B.out.trans (hb1.mono B.out.size))
            clear hb1
            obtain ⟨k0, k1, k2, k3, k4, k5, k6⟩ := K.out.three
            go_wp2_with fail
            with_reducible refine (A1.out _ B.out).mono ?_
            rintro e w2 ⟨rfl, hb1⟩
            clear k0 k1 k2 k3 k4 k5 k6
            replace K := hid (K.out.below hb1)
            replace B := hid (B.out.trans (hb1.mono B.out.size))
            clear hb1
            obtain ⟨k0, k1, k2, k3, k4, k5, k6⟩ := K.out.three
            go_wp2_with fail
            go_ret
            exact ⟨by rw [HF.out]; rfl, B.out⟩
          | true =>
            have HF := hid (show okLp x = allV x.2.2 by rw [okLp, e0, e1, e2, e3, e4]; rfl)
            rw [e0] at S1
            rw [e1] at S2
            have hq : ((x.1.length : Int) == (x.2.1.length : Int)) = true := by have := of_decide_eq_true e2; simp [this]
            rw [e3] at M
            rw [e4] at A1
            clear hok e0 e1 e2 e3 e4
            obtain ⟨k0, k1, k2, k3, k4, k5, k6⟩ := K.out.three
            go_enter Try.func23, Try.ntmps23
            go_wp2_with fail
            with_reducible refine (S1.out _).mono ?_
            rintro e w1 ⟨rfl, rfl⟩
            go_wp2_with fail
            with_reducible refine (S2.out _).mono ?_
            rintro e w1 ⟨rfl, rfl⟩
            go_wp2_with fail
            with_reducible refine M.out.mono ?_
            rintro e w1 ⟨rfl, hb1⟩
            clear k0 k1 k2 k3 k4 k5 k6
            replace K := hid (K.out.below hb1)
            replace B := hid (B.out.trans (hb1.mono B.out.size))
            clear hb1
            obtain ⟨k0, k1, k2, k3, k4, k5, k6⟩ := K.out.three
            go_wp2_with fail
            with_reducible refine (A1.out _ B.out).mono ?_
            rintro e w2 ⟨rfl, hb1⟩
            clear k0 k1 k2 k3 k4 k5 k6
            replace K := hid (K.out.below hb1)
            replace B := hid (B.out.trans (hb1.mono B.out.size))
            clear hb1
            obtain ⟨k0, k1, k2, k3, k4, k5, k6⟩ := K.out.three
            go_wp2_with fail
            with_reducible refine (A2.out _ B.out).mono ?_
            rintro e w3 ⟨rfl, hb1⟩
            clear k0 k1 k2 k3 k4 k5 k6
            replace K := hid (K.out.below hb1)
            replace B := hid (B.out.trans (hb1.mono B.out.size))
            clear hb1
            go_wp2_with fail
            go_ret
            exact ⟨by rw [HF.out]; rfl, B.out⟩

set_option maxRecDepth 100000 in
set_option maxHeartbeats 1000000 in
theorem impl_am (a b : Option Addr) (cap capb : Nat) (xs ys : List RatD) (lo hi lo' hi' : Nat) (w : World) (hl : xs.length = ys.length) (hn : xs.length ≤ 1048576) (h : Els 2 rRat w lo hi a xs) (h' : Els 2 rRat w lo' hi' b ys) (hh : hi ≤ w.heap.size) (hh' : hi' ≤ w.heap.size) :
    Calls Try.prog 81 #[.slice a xs.length cap, .slice b ys.length capb] w fun e w' => e = .returned (.bool (atMost xs ys)) ∧ Below w.heap.size w w' := by
  have HL := hid hl
  clear hl
  go_enter Try.func81, Try.ntmps81
  go_wp2_with fail
  go_loopw [5, 6, 9] (fun _ _ i wr => ∃ k : Nat, k ≤ xs.length ∧ i = .int .i64 k ∧ Hid (amTo xs ys k) ∧ Hid (Below w.heap.size w wr)) (fun _ _ i _ => xs.length - (intOf i).toNat)
  case atStart => exact ⟨0, Nat.zero_le _, rfl, hid (fun j _ _ hj => by omega), hid (Below.refl _ _)⟩
  case round =>
    obtain ⟨k, hk, rfl, hok, hb⟩ := hrel
    by_cases hlt : k < xs.length
    · have hlt2 : k < ys.length := by have := HL.out; omega
      obtain ⟨b1, off, rfl, _, hbB, c0, c1⟩ := rats_at (h.grow good_rat hb.out hh) k hlt
      obtain ⟨b2, off2, rfl, _, hbB2, d0, d1⟩ := rats_at (h'.grow good_rat hb.out hh') k hlt2
      have hxb := rats_bd h k hlt
      have hyb := rats_bd h' k hlt2
      have hsz := hb.out.size
      have C := hid (fun W => impl_cmpQ xs[k] ys[k] W hxb.1 hxb.2 hyb.1 hyb.2)
      have HY := hid (fun hv => amTo_step hok.out hlt hlt2 hv)
      have HN := hid (fun hv => am_no hlt hlt2 hv)
      clear h h' hxb hyb hok
      generalize cmpQ xs[k] ys[k] = s at C HY HN
      have N1 := hid (hasl_new wr [.int .i64 xs[k].1, .int .i64 xs[k].2] 35)
      have B1 := hid (hb.out.alloc hsz (.cells #[.int .i64 xs[k].1, .int .i64 xs[k].2] 35))
      obtain ⟨n0, n1, n2, n3, n4⟩ := N1.out.two
      have d0' := (B1.out.cell (p := ⟨b2, off2 + k * 2, none⟩) (show b2 < w.heap.size by omega)).trans ((hb.out.cell (p := ⟨b2, off2 + k * 2, none⟩) (show b2 < w.heap.size by omega)).symm.trans d0)
      have d1' := (B1.out.cell (p := ⟨b2, off2 + k * 2 + 1, none⟩) (show b2 < w.heap.size by omega)).trans ((hb.out.cell (p := ⟨b2, off2 + k * 2 + 1, none⟩) (show b2 < w.heap.size by omega)).symm.trans d1)
      have hlt' : (k : Int) < (xs.length : Int) := by omega
      have hlt2' : (k : Int) < (ys.length : Int) := by omega
      have h0' : (0 : Int) ≤ (k : Int) := by omega
      generalize hW : wr.alloc (.cells #[.int .i64 xs[k].1, .int .i64 xs[k].2] 35) = w1 at B1 n0 n1 n2 n3 n4 d0' d1'
      have s1 := B1.out.size
      have hk0 := kp_refl w1
      have hb2l : b2 < w1.heap.size := by omega
      clear N1 d0 d1 hbB2
      go_upto_region 4 with fail
      go_cut [20] (fun s6 wx => s6 = .bool (decide (0 < s)) ∧ Kp w1 0 wx)
      case first =>
        go_region_held3 (fun w' => w'.cell? ⟨wr.heap.size, 0, none⟩ = some (.int .i64 xs[k].1) ∧ w'.cell? ⟨wr.heap.size, 1, none⟩ = some (.int .i64 xs[k].2) ∧ w'.cell? ⟨b2, off2 + k * 2, none⟩ = some (.int .i64 ys[k].1) ∧ w'.cell? ⟨b2, off2 + k * 2 + 1, none⟩ = some (.int .i64 ys[k].2) ∧ Kp w1 0 w')
          (first
              | (go_split_ands
                 repeat' apply And.intro
                 all_goals (first | (with_reducible assumption) | (with_reducible exact cell_drew (by assumption)) | (with_reducible exact Kp.drew (by assumption)) | (with_reducible exact Kp.cell (by assumption) hb1 (by omega) (by assumption)) | (with_reducible exact Kp.call (by assumption) hb1))))
          (first | (go_split_ands; go_at_call 28; (with_reducible refine (C.out _).mono ?_); rintro e wU ⟨rfl, hb1⟩) | fail)
        all_goals
          go_wp2_with fail
          go_meet
          go_split_ands
          exact ⟨rfl, by with_reducible assumption⟩
      case rest =>
        obtain ⟨rfl, hkp⟩ := hcut
        have HB := hid (B1.out.trans (hkp.bel.mono s1))
        clear hkp hk0 C n0 n1 d0' d1' hW
        by_cases hv : 0 < s
        · have HNN := hid (HN.out hv)
          have hd := decide_eq_true hv
          clear HY HN
          go_wp2_with fail
          go_ret
          exact ⟨by rw [HNN.out]; rfl, HB.out⟩
        · have HYY := hid (HY.out hv)
          have hd := decide_eq_false hv
          clear HY HN
          go_wp2_with fail
          go_roundw
          case rel => exact ⟨k + 1, by omega, by go_num, HYY, HB⟩
          case measure => simp [intOf]; omega
    · have e : k = xs.length := by omega
      subst e
      have HYY := hid (am_yes HL.out hok.out)
      clear h h' hok
      go_wp2_with fail
      go_ret
      exact ⟨by rw [HYY.out]; rfl, hb.out⟩

set_option maxRecDepth 100000 in
theorem impl_pp (cs : List Value) (x : LpD) (p : Option Addr) (capp : Nat) (pt : List RatD) (lo hi lo' hi' : Nat) (w : World) (hs : szLp x ≤ 1048576) (hp : pt.length ≤ 1048576) (h : rLp w lo hi cs x) (h' : Els 2 rRat w lo' hi' p pt) (hh : hi ≤ w.heap.size) (hh' : hi' ≤ w.heap.size) :
    Calls Try.prog 80 #[.agg cs.toArray, .slice p pt.length capp] w fun e w' => ∃ a0 c0, e = .returned (.tuple #[.slice a0 (lstO (ppQ x pt)).length c0, .bool (okO (ppQ x pt))]) ∧ OwnQ w' w.heap.size tR (.slice a0 (lstO (ppQ x pt)).length c0) (lstO (ppQ x pt)) ∧ Below w.heap.size w w' := by
  have hrd := hid h
  obtain ⟨a, cap, b, capb, c, capc, rfl, hz1, hz2, hz3, ha, hb, hc⟩ := lp_open h
  have hn1 : szM x.1 ≤ 1048576 := by unfold szLp at hs; omega
  have hn2 : x.2.1.length ≤ 1048576 := by unfold szLp at hs; omega
  have hn3 : x.2.2.length ≤ 1048576 := by unfold szLp at hs; omega
  have hl1 : x.1.length ≤ 1048576 := by have h := tots_len List.length x.1; unfold szM at hn1; omega
  have hr1 := hid (fun j (hj : j < x.1.length) => show x.1[j].length ≤ 1048576 by have h := elem_le List.length x.1 j hj; unfold szM at hn1; omega)
  have K := hid (hasl_new w [.slice a x.1.length cap, .slice b x.2.1.length capb, .slice c x.2.2.length capc] 32)
  have B := hid ((Below.refl w.heap.size w).alloc (Nat.le_refl _) (.cells #[.slice a x.1.length cap, .slice b x.2.1.length capb, .slice c x.2.2.length capc] 32))
  have V := hid (impl_vlp _ x lo hi _ hs (good_lp.keep hrd.out (sm_below B.out hh)) (Nat.le_trans hh B.out.size))
  have NN := hid (fun W (hW : Below w.heap.size w W) => impl_nn p capp pt lo' hi' W (by omega) (h'.keep good_rat (sm_below hW hh')) (Nat.le_trans hh' hW.size))
  have MV := hid (fun W (hW : Below w.heap.size w W) => impl_mv a p cap capp x.1 pt lo hi lo' hi' W hl1 hr1 (ha.keep good_row2 (sm_below hW hh)) (h'.keep good_rat (sm_below hW hh')) (Nat.le_trans hh hW.size) (Nat.le_trans hh' hW.size))
  clear h h' hrd ha hb hc hz1 hz2 hz3 hr1
  cases e0 : okLp x with
  | false =>
    have HF := hid (pp_no1 (pt := pt) e0)
    rw [e0] at V
    clear e0
    obtain ⟨k0, k1, k2, k3, k4, k5, k6⟩ := K.out.three
    go_enter Try.func80, Try.ntmps80
    go_wp2_with fail
    with_reducible refine V.out.mono ?_
    rintro e w1 ⟨rfl, hb1⟩
    clear k0 k1 k2 k3 k4 k5 k6
    replace K := hid (K.out.below hb1)
    replace B := hid (B.out.trans (hb1.mono B.out.size))
    clear hb1
    obtain ⟨k0, k1, k2, k3, k4, k5, k6⟩ := K.out.three
    go_wp2_with fail
    go_ret2
    exact ⟨none, 0, by rw [HF.out]; rfl, by rw [HF.out]; exact OwnQ.nil _ _ _, B.out⟩
  | true =>
    by_cases hl : pt.length = x.2.2.length
    · cases e2 : nn pt with
      | false =>
        rw [e0] at V
        have hq : ((pt.length : Int) != (x.2.2.length : Int)) = false := by simp [hl]
        have HF := hid (pp_no3 (x := x) e2)
        rw [e2] at NN
        clear e0 hl e2
        obtain ⟨k0, k1, k2, k3, k4, k5, k6⟩ := K.out.three
        go_enter Try.func80, Try.ntmps80
        go_wp2_with fail
        with_reducible refine V.out.mono ?_
        rintro e w1 ⟨rfl, hb1⟩
        clear k0 k1 k2 k3 k4 k5 k6
        replace K := hid (K.out.below hb1)
        replace B := hid (B.out.trans (hb1.mono B.out.size))
        clear hb1
        obtain ⟨k0, k1, k2, k3, k4, k5, k6⟩ := K.out.three
        go_wp2_with fail
        with_reducible refine (NN.out _ B.out).mono ?_
        rintro e w2 ⟨rfl, hb1⟩
        clear k0 k1 k2 k3 k4 k5 k6
        replace K := hid (K.out.below hb1)
        replace B := hid (B.out.trans (hb1.mono B.out.size))
        clear hb1
        obtain ⟨k0, k1, k2, k3, k4, k5, k6⟩ := K.out.three
        go_wp2_with fail
        go_ret2
        exact ⟨none, 0, by rw [HF.out]; rfl, by rw [HF.out]; exact OwnQ.nil _ _ _, B.out⟩
      | true =>
        rw [e0] at V
        have hq : ((pt.length : Int) != (x.2.2.length : Int)) = false := by simp [hl]
        have HF := hid (pp_yes e0 hl e2)
        rw [e2] at NN
        clear e0 hl e2
        obtain ⟨k0, k1, k2, k3, k4, k5, k6⟩ := K.out.three
        go_enter Try.func80, Try.ntmps80
        go_wp2_with fail
        with_reducible refine V.out.mono ?_
        rintro e w1 ⟨rfl, hb1⟩
        clear k0 k1 k2 k3 k4 k5 k6
        replace K := hid (K.out.below hb1)
        replace B := hid (B.out.trans (hb1.mono B.out.size))
        clear hb1
        obtain ⟨k0, k1, k2, k3, k4, k5, k6⟩ := K.out.three
        go_wp2_with fail
        with_reducible refine (NN.out _ B.out).mono ?_
        rintro e w2 ⟨rfl, hb1⟩
        clear k0 k1 k2 k3 k4 k5 k6
        replace K := hid (K.out.below hb1)
        replace B := hid (B.out.trans (hb1.mono B.out.size))
        clear hb1
        obtain ⟨k0, k1, k2, k3, k4, k5, k6⟩ := K.out.three
        have sB := B.out.size
        go_wp2_with fail
        with_reducible refine (MV.out _ B.out).mono ?_
        rintro e w3 ⟨a0, c0, rfl, hown, hb1⟩
        have O := hid (hown.mono sB)
        clear hown
        clear k0 k1 k2 k3 k4 k5 k6
        replace K := hid (K.out.below hb1)
        replace B := hid (B.out.trans (hb1.mono B.out.size))
        clear hb1
        go_wp2_with fail
        go_ret2
        exact ⟨a0, c0, by rw [HF.out]; rfl, by rw [HF.out]; exact O.out, B.out⟩
    · rw [e0] at V
      have HF := hid (pp_no2 (x := x) hl)
      have hq : ((pt.length : Int) != (x.2.2.length : Int)) = true := by simp only [bne_iff_ne, ne_eq]; omega
      clear e0 hl
      obtain ⟨k0, k1, k2, k3, k4, k5, k6⟩ := K.out.three
      go_enter Try.func80, Try.ntmps80
      go_wp2_with fail
      with_reducible refine V.out.mono ?_
      rintro e w1 ⟨rfl, hb1⟩
      clear k0 k1 k2 k3 k4 k5 k6
      replace K := hid (K.out.below hb1)
      replace B := hid (B.out.trans (hb1.mono B.out.size))
      clear hb1
      obtain ⟨k0, k1, k2, k3, k4, k5, k6⟩ := K.out.three
      go_wp2_with fail
      go_ret2
      exact ⟨none, 0, by rw [HF.out]; rfl, by rw [HF.out]; exact OwnQ.nil _ _ _, B.out⟩

set_option maxRecDepth 100000 in
theorem impl_min (cs : List Value) (x : LpD) (p : Option Addr) (capp : Nat) (pt : List RatD) (lo hi lo' hi' : Nat) (w : World) (hs : szLp x ≤ 1048576) (hp : pt.length ≤ 1048576) (h : rLp w lo hi cs x) (h' : Els 2 rRat w lo' hi' p pt) (hh : hi ≤ w.heap.size) (hh' : hi' ≤ w.heap.size) :
    Calls Try.prog 27 #[.agg cs.toArray, .slice p pt.length capp] w fun e w' => e = .returned (.bool (feas true x pt)) ∧ Below w.heap.size w w' := by
  have hrd := hid h
  obtain ⟨a, cap, b, capb, c, capc, rfl, hz1, hz2, hz3, ha, hb, hc⟩ := lp_open h
  have hn1 : szM x.1 ≤ 1048576 := by unfold szLp at hs; omega
  have hn2 : x.2.1.length ≤ 1048576 := by unfold szLp at hs; omega
  have hn3 : x.2.2.length ≤ 1048576 := by unfold szLp at hs; omega
  have hl1 : x.1.length ≤ 1048576 := by have h := tots_len List.length x.1; unfold szM at hn1; omega
  have hr1 := hid (fun j (hj : j < x.1.length) => show x.1[j].length ≤ 1048576 by have h := elem_le List.length x.1 j hj; unfold szM at hn1; omega)
  have K := hid (hasl_new w [.slice a x.1.length cap, .slice b x.2.1.length capb, .slice c x.2.2.length capc] 32)
  have B := hid ((Below.refl w.heap.size w).alloc (Nat.le_refl _) (.cells #[.slice a x.1.length cap, .slice b x.2.1.length capb, .slice c x.2.2.length capc] 32))
  have PP := hid (impl_pp _ x p capp pt lo hi lo' hi' _ hs hp (good_lp.keep hrd.out (sm_below B.out hh)) (h'.keep good_rat (sm_below B.out hh')) (Nat.le_trans hh B.out.size) (Nat.le_trans hh' B.out.size))
  have HB := hid (fun W (hW : Below w.heap.size w W) => hb.keep good_rat (sm_below hW hh))
  clear h h' hrd ha hb hc hz1 hz2 hz3 hr1
  cases hq : ppQ x pt with
  | none =>
    have HF := hid (feas_none (mn := true) hq)
    rw [hq] at PP
    clear hq
    obtain ⟨k0, k1, k2, k3, k4, k5, k6⟩ := K.out.three
    go_enter Try.func27, Try.ntmps27
    go_wp2_with fail
    with_reducible refine PP.out.mono ?_
    rintro e w1 ⟨a0, c0, rfl, hown, hb1⟩
    clear k0 k1 k2 k3 k4 k5 k6
    replace K := hid (K.out.below hb1)
    replace B := hid (B.out.trans (hb1.mono B.out.size))
    clear hb1
    clear hown
    simp only [okO, lstO, Option.isSome_none, Option.getD_none]
    go_wp2_with fail
    go_ret
    exact ⟨by rw [HF.out]; rfl, B.out⟩
  | some y =>
    have HF := hid (feas_some (mn := true) hq)
    have hyl := hid (pp_len hq)
    rw [hq] at PP
    clear hq
    obtain ⟨k0, k1, k2, k3, k4, k5, k6⟩ := K.out.three
    go_enter Try.func27, Try.ntmps27
    go_wp2_with fail
    with_reducible refine PP.out.mono ?_
    rintro e w1 ⟨a0, c0, rfl, hown, hb1⟩
    clear k0 k1 k2 k3 k4 k5 k6
    simp only [okO, lstO, Option.isSome_some, Option.getD_some] at hown ⊢
    have EY := hid ((ownq_rd hown).2)
    replace K := hid (K.out.below hb1)
    replace B := hid (B.out.trans (hb1.mono B.out.size))
    clear hb1
    clear hown
    have AM := hid (impl_am b a0 capb c0 x.2.1 y lo hi _ _ w1 hyl.out.symm hn2 (HB.out _ B.out) EY.out (Nat.le_trans hh B.out.size) (Nat.le_refl _))
    obtain ⟨k0, k1, k2, k3, k4, k5, k6⟩ := K.out.three
    go_wp2_with fail
    with_reducible refine AM.out.mono ?_
    rintro e w2 ⟨rfl, hb1⟩
    clear k0 k1 k2 k3 k4 k5 k6
    replace K := hid (K.out.below hb1)
    replace B := hid (B.out.trans (hb1.mono B.out.size))
    clear hb1
    go_wp2_with fail
    go_ret
    exact ⟨by rw [HF.out]; rfl, B.out⟩

set_option maxRecDepth 100000 in
theorem impl_max (cs : List Value) (x : LpD) (p : Option Addr) (capp : Nat) (pt : List RatD) (lo hi lo' hi' : Nat) (w : World) (hs : szLp x ≤ 1048576) (hp : pt.length ≤ 1048576) (h : rLp w lo hi cs x) (h' : Els 2 rRat w lo' hi' p pt) (hh : hi ≤ w.heap.size) (hh' : hi' ≤ w.heap.size) :
    Calls Try.prog 34 #[.agg cs.toArray, .slice p pt.length capp] w fun e w' => e = .returned (.bool (feas false x pt)) ∧ Below w.heap.size w w' := by
  have hrd := hid h
  obtain ⟨a, cap, b, capb, c, capc, rfl, hz1, hz2, hz3, ha, hb, hc⟩ := lp_open h
  have hn1 : szM x.1 ≤ 1048576 := by unfold szLp at hs; omega
  have hn2 : x.2.1.length ≤ 1048576 := by unfold szLp at hs; omega
  have hn3 : x.2.2.length ≤ 1048576 := by unfold szLp at hs; omega
  have hl1 : x.1.length ≤ 1048576 := by have h := tots_len List.length x.1; unfold szM at hn1; omega
  have hr1 := hid (fun j (hj : j < x.1.length) => show x.1[j].length ≤ 1048576 by have h := elem_le List.length x.1 j hj; unfold szM at hn1; omega)
  have K := hid (hasl_new w [.slice a x.1.length cap, .slice b x.2.1.length capb, .slice c x.2.2.length capc] 32)
  have B := hid ((Below.refl w.heap.size w).alloc (Nat.le_refl _) (.cells #[.slice a x.1.length cap, .slice b x.2.1.length capb, .slice c x.2.2.length capc] 32))
  have PP := hid (impl_pp _ x p capp pt lo hi lo' hi' _ hs hp (good_lp.keep hrd.out (sm_below B.out hh)) (h'.keep good_rat (sm_below B.out hh')) (Nat.le_trans hh B.out.size) (Nat.le_trans hh' B.out.size))
  have HB := hid (fun W (hW : Below w.heap.size w W) => hb.keep good_rat (sm_below hW hh))
  clear h h' hrd ha hb hc hz1 hz2 hz3 hr1
  cases hq : ppQ x pt with
  | none =>
    have HF := hid (feas_none (mn := false) hq)
    rw [hq] at PP
    clear hq
    obtain ⟨k0, k1, k2, k3, k4, k5, k6⟩ := K.out.three
    go_enter Try.func34, Try.ntmps34
    go_wp2_with fail
    with_reducible refine PP.out.mono ?_
    rintro e w1 ⟨a0, c0, rfl, hown, hb1⟩
    clear k0 k1 k2 k3 k4 k5 k6
    replace K := hid (K.out.below hb1)
    replace B := hid (B.out.trans (hb1.mono B.out.size))
    clear hb1
    clear hown
    simp only [okO, lstO, Option.isSome_none, Option.getD_none]
    go_wp2_with fail
    go_ret
    exact ⟨by rw [HF.out]; rfl, B.out⟩
  | some y =>
    have HF := hid (feas_some (mn := false) hq)
    have hyl := hid (pp_len hq)
    rw [hq] at PP
    clear hq
    obtain ⟨k0, k1, k2, k3, k4, k5, k6⟩ := K.out.three
    go_enter Try.func34, Try.ntmps34
    go_wp2_with fail
    with_reducible refine PP.out.mono ?_
    rintro e w1 ⟨a0, c0, rfl, hown, hb1⟩
    clear k0 k1 k2 k3 k4 k5 k6
    simp only [okO, lstO, Option.isSome_some, Option.getD_some] at hown ⊢
    have EY := hid ((ownq_rd hown).2)
    replace K := hid (K.out.below hb1)
    replace B := hid (B.out.trans (hb1.mono B.out.size))
    clear hb1
    clear hown
    have AM := hid (impl_am a0 b c0 capb y x.2.1 _ _ lo hi w1 hyl.out (by have := hyl.out; omega) EY.out (HB.out _ B.out) (Nat.le_refl _) (Nat.le_trans hh B.out.size))
    obtain ⟨k0, k1, k2, k3, k4, k5, k6⟩ := K.out.three
    go_wp2_with fail
    with_reducible refine AM.out.mono ?_
    rintro e w2 ⟨rfl, hb1⟩
    clear k0 k1 k2 k3 k4 k5 k6
    replace K := hid (K.out.below hb1)
    replace B := hid (B.out.trans (hb1.mono B.out.size))
    clear hb1
    go_wp2_with fail
    go_ret
    exact ⟨by rw [HF.out]; rfl, B.out⟩
end Go.Proofs.Ytjnphlgmmjdeiaa.LpI
