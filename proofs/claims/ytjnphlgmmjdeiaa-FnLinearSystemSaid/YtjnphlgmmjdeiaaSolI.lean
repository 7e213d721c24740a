/- The program's steps of Gauss-Jordan elimination: the test of a system, one row cleared. -/
import Derived.Test.YtjnphlgmmjdeiaaSolP
import Derived.Test.YtjnphlgmmjdeiaaMtr
import Derived.Test.YtjnphlgmmjdeiaaGridQ2
import Derived.Test.YtjnphlgmmjdeiaaCur
import Derived.Deep.RegionHeld3
import Derived.Deep.DeepCutAuto
namespace Go.Proofs.Ytjnphlgmmjdeiaa.SolI
open Go.RowKit
open Go.Proofs.Ytjnphlgmmjdeiaa.Num Go.Proofs.Ytjnphlgmmjdeiaa.IntRow Go.Proofs.Ytjnphlgmmjdeiaa.GridMore Go.Proofs.Ytjnphlgmmjdeiaa.Rdr Go.Proofs.Ytjnphlgmmjdeiaa.HasL Go.Proofs.Ytjnphlgmmjdeiaa.Rat Go.Proofs.Ytjnphlgmmjdeiaa.Valid Go.Proofs.Ytjnphlgmmjdeiaa.RatLaw Go.Proofs.Ytjnphlgmmjdeiaa.Rats Go.Proofs.Ytjnphlgmmjdeiaa.RatRow Go.Proofs.Ytjnphlgmmjdeiaa.RatOwn Go.Proofs.Ytjnphlgmmjdeiaa.GridQ Go.Proofs.Ytjnphlgmmjdeiaa.GridQ2 Go.Proofs.Ytjnphlgmmjdeiaa.RatsSS Go.Proofs.Ytjnphlgmmjdeiaa.Smq Go.Proofs.Ytjnphlgmmjdeiaa.SmqI Go.Proofs.Ytjnphlgmmjdeiaa.Qops Go.Proofs.Ytjnphlgmmjdeiaa.LinP Go.Proofs.Ytjnphlgmmjdeiaa.Dot Go.Proofs.Ytjnphlgmmjdeiaa.SolP Go.Proofs.Ytjnphlgmmjdeiaa.AllV Go.Proofs.Ytjnphlgmmjdeiaa.Mtr Go.Proofs.Ytjnphlgmmjdeiaa.Keep Go.Proofs.Ytjnphlgmmjdeiaa.Kept Go.Proofs.Ytjnphlgmmjdeiaa.Cells
set_option linter.unusedVariables false

set_option maxRecDepth 100000 in
theorem impl_isls (a b : Option Addr) (cap capb : Nat) (xss : MatD) (ys : List RatD) (lo hi lo' hi' : Nat) (w : World) (hn : xss.length ≤ 1048576) (hn2 : ys.length ≤ 1048576) (hR : Hid (∀ j (hj : j < xss.length), xss[j].length ≤ 1048576)) (h : Els 1 rRow2 w lo hi a xss) (h' : Els 2 rRat w lo' hi' b ys) (hh : hi ≤ w.heap.size) (hh' : hi' ≤ w.heap.size) :
    Calls Try.prog 58 #[.slice a xss.length cap, .slice b ys.length capb] w fun e w' => e = .returned (.bool (sysOk xss ys)) ∧ Below w.heap.size w w' := by
  by_cases h6 : ys.length ≤ 6
  · have t6 : (ys.length : Int) ≤ 6 := by omega
    by_cases hl : xss.length = ys.length
    · have hq : ((xss.length : Int) == (ys.length : Int)) = true := by simp [hl]
      have M := hid (impl_matrix a cap xss ys.length lo hi w hn (by omega) hR h hh)
      have A := hid (fun W (hW : Below w.heap.size w W) => impl_allv b capb ys lo' hi' W (by omega) (h'.grow good_rat hW hh') (by have := hW.size; omega))
      have HS := hid (show sysOk xss ys = (okM xss ys.length && allV ys) by unfold sysOk allV; rw [decide_eq_true h6, decide_eq_true hl, Bool.true_and, Bool.true_and])
      clear hl h h' h6
      cases hv : okM xss ys.length with
      | false =>
        rw [hv] at M
        have HF := hid (show sysOk xss ys = false by rw [HS.out, hv]; rfl)
        clear hv
        go_enter Try.func58, Try.ntmps58
        go_wp2_with fail
        with_reducible refine M.out.mono ?_
        rintro e w1 ⟨rfl, hb1⟩
        have HB := hid hb1
        clear hb1
        go_wp2_with fail
        go_ret
        exact ⟨by rw [HF.out]; rfl, HB.out⟩
      | true =>
        rw [hv] at M
        have HF := hid (show sysOk xss ys = allV ys by rw [HS.out, hv]; rfl)
        clear hv
        go_enter Try.func58, Try.ntmps58
        go_wp2_with fail
        with_reducible refine M.out.mono ?_
        rintro e w1 ⟨rfl, hb1⟩
        have HB := hid hb1
        clear hb1
        go_wp2_with fail
        with_reducible refine (A.out _ HB.out).mono ?_
        rintro e w2 ⟨rfl, hb2⟩
        have HB2 := hid (HB.out.trans (hb2.mono HB.out.size))
        clear hb2
        go_wp2_with fail
        go_ret
        exact ⟨by rw [HF.out]; rfl, HB2.out⟩
    · have hq : ((xss.length : Int) == (ys.length : Int)) = false := by simp only [beq_eq_false_iff_ne, ne_eq]; omega
      have HF := hid (show sysOk xss ys = false by unfold sysOk; rw [decide_eq_false hl]; simp)
      clear h h' hl h6
      go_enter Try.func58, Try.ntmps58
      go_wp2_with fail
      go_ret
      exact ⟨by rw [HF.out]; rfl, Below.refl _ _⟩
  · have t6 : ¬ (ys.length : Int) ≤ 6 := by omega
    have HF := hid (show sysOk xss ys = false by unfold sysOk; rw [decide_eq_false h6]; rfl)
    clear h h' h6
    go_enter Try.func58, Try.ntmps58
    go_wp2_with fail
    go_ret
    exact ⟨by rw [HF.out]; rfl, Below.refl _ _⟩

/-- What stands in the row's block outside of the row is of no matter: a write into block b alone, and new blocks. -/
def Wr (b : Nat) (w w' : World) : Prop := w.grownBy w' (some b)

set_option maxRecDepth 100000 in
set_option maxHeartbeats 2000000 in
theorem impl_cfe (b q cap cap2 capq capr : Nat) (r zs : List RatD) (p n : Nat) (w : World) (lo lo2 : Nat) (hn : n ≤ 100) (hn0 : 0 < n) (hr : r.length = p + n) (hz : zs.length = p + n) (hbq : b ≠ q)
    (ho : OwnQ w lo tR (.slice (some ⟨b, 0, none⟩) r.length capr) r) (hq : OwnQ w lo2 tR (.slice (some ⟨q, 0, none⟩) zs.length capq) zs) :
    Calls Try.prog 94 #[.slice (some ⟨b, p * 2, none⟩) n cap, .slice (some ⟨q, p * 2, none⟩) n cap2] w fun e w' => e = .returned (.bool (okO (rowOp r zs p n))) ∧ (∀ l, rowOp r zs p n = some l → OwnQ w' lo tR (.slice (some ⟨b, 0, none⟩) r.length capr) l) ∧ w.grownBy w' (some b) := by
  have hpr : p < r.length := by omega
  have hpz : p < zs.length := by omega
  obtain ⟨c0, c1, f0, f1⟩ := row_cells ho p hpr
  obtain ⟨d0, d1, g0, g1⟩ := row_cells hq p hpz
  have hbl := (ho.lt b rfl).2
  have hql := (hq.lt q rfl).2
  have hb0 := ho.2 p hpr
  have hq0 := hq.2 p hpz
  have A := hid (fun W => impl_divQ r[p] zs[p] W hb0.1 hb0.2 hq0.1 hq0.2)
  have hROW := hid (show rowOp r zs p n = (divQ r[p] zs[p]).bind fun f => ro r zs f p n by unfold rowOp; rw [List.getD_eq_getElem?_getD, List.getElem?_eq_getElem hpr, List.getD_eq_getElem?_getD, List.getElem?_eq_getElem hpz]; rfl)
  have hib := divQ_ib r[p] zs[p]
  have hOK := hid (fun (h : okQ (divQ r[p] zs[p]) = true) => show rowOp r zs p n = ro r zs (fstQ (divQ r[p] zs[p]), sndQ (divQ r[p] zs[p])) p n by
    rw [hROW.out]
    cases hd : divQ r[p] zs[p] with
    | none => rw [hd] at h; cases h
    | some f => rfl)
  have hNO := hid (fun (h : okQ (divQ r[p] zs[p]) = false) => show rowOp r zs p n = none by
    rw [hROW.out]
    cases hd : divQ r[p] zs[p] with
    | none => rfl
    | some f => rw [hd] at h; cases h)
  simp only [endQ_any] at A
  generalize fstQ (divQ r[p] zs[p]) = FX at A hOK hib
  generalize sndQ (divQ r[p] zs[p]) = FY at A hOK hib
  generalize okQ (divQ r[p] zs[p]) = okf at A hOK hNO
  have HO := hid ho
  have HQ := hid hq
  have HRL := hid hr
  have HZL := hid hz
  have hn0' : (0 : Int) < (n : Int) := by omega
  have hk0 := kp_refl w
  clear ho hq hr hz hROW f0 f1 g0 g1 hb0 hq0
  go_enter Try.func94, Try.ntmps94
  go_upto_region 1 with fail
  go_cut [5, 6] (fun s5 s6 wx => ∃ g : Nat, s5 = .pointer (some ⟨g, 0, none⟩) ∧ s6 = .bool okf ∧ Has2 wx g (.int .i64 FX) (.int .i64 FY) ∧ w.heap.size ≤ g ∧ Kp w 0 wx)
  case first =>
    go_region_held3 (fun w' => w'.cell? ⟨b, p * 2, none⟩ = some (.int .i64 r[p].1) ∧ w'.cell? ⟨b, p * 2 + 1, none⟩ = some (.int .i64 r[p].2) ∧ w'.cell? ⟨q, p * 2, none⟩ = some (.int .i64 zs[p].1) ∧ w'.cell? ⟨q, p * 2 + 1, none⟩ = some (.int .i64 zs[p].2) ∧ Kp w 0 w')
      (first
              | (go_split_ands
                 repeat' apply And.intro
                 all_goals (first | (with_reducible assumption) | (with_reducible exact cell_drew (by assumption)) | (with_reducible exact Kp.drew (by assumption)) | (with_reducible exact Kp.cell (by assumption) hb1 (by omega) (by assumption)) | (with_reducible exact Kp.call (by assumption) hb1) | (with_reducible exact Kp.cell_alloc (by assumption) _ (by omega) (by assumption)) | (with_reducible exact Kp.alloc (by assumption) _) | (with_reducible exact Kp.cell_alloc_drew (by assumption) _ (by omega) (by assumption)) | (with_reducible exact Kp.alloc_drew (by assumption) _) | (with_reducible exact Kp.reall (by assumption) (by omega) _) | (with_reducible exact cell_realloc (by omega) (by assumption) _) | (with_reducible exact cell_set (by assumption) (by omega)) | (with_reducible exact Kp.set (by assumption) (by omega) _ _))))
      (first | (go_split_ands; go_at_call 95; (with_reducible refine (A.out _).mono ?_); rintro e w1 ⟨rfl, hb1⟩; have hz0 := hb1.size; (try simp only [World.size_alloc] at hz0); have hz1 : w.heap.size ≤ w1.heap.size := (by have hk0 : Kp w 0 _ := (by with_reducible assumption); have hk1 := hk0.sz; (try simp only [World.size_alloc] at hk1); omega); (try (first | (with_reducible have HN := hid (new2_kept hb1)) | (with_reducible have HN := hid (new2_kept_drew hb1)))); (try (obtain ⟨m0, m1, mz, m2, m3⟩ := HN.out))))
    all_goals
            go_wp2_with fail
            go_meet
            go_split_ands
            first
              | exact ⟨_, rfl, rfl, has2_new _ _ _ _, by omega, by with_reducible assumption⟩
              | exact ⟨_, rfl, rfl, has2_set HN.out, (by first | exact Nat.le_refl _ | omega), by with_reducible assumption⟩
  case rest =>
    obtain ⟨gf, rfl, rfl, hH, hgf, hkf⟩ := hcut
    obtain ⟨wd, rfl⟩ : ∃ wo : World, wo = wc := ⟨_, rfl⟩
    have hsk := hkf.sz
    have HGF := hid (hasl_of2 hH)
    have HW := hid (show w.grownBy wd (some b) from ⟨hkf.bel.os, hkf.bel.tape, hkf.bel.output, hkf.bel.size, fun k hk _ => hkf.bel.block k hk⟩)
    replace HO := hid (HO.out.below' hkf.bel)
    replace HQ := hid (HQ.out.below' hkf.bel)
    clear hH hkf hk0 A c0 c1 d0 d1
    cases okf with
    | false =>
      have HN := hid (hNO.out (by first | rfl | trivial))
      clear hOK hNO
      go_wp2_with fail
      go_ret
      exact ⟨by rw [HN.out]; rfl, fun l hl => (by rw [HN.out] at hl; cases hl), HW.out⟩
    | true =>
      have HY := hid (hOK.out (by first | rfl | trivial))
      clear hOK hNO
      have hkk0 : Hid (HasL wd gf [.int .i64 FX, .int .i64 FY]) := HGF
      have hbg : b ≠ gf := by omega
      go_wp2_with fail
      go_loopw [7, 8, 9, 10, 11, 12, 27] (fun _ _ _ _ _ _ i wr => ∃ (k : Nat) (l : List RatD), k ≤ n ∧ i = .int .i64 k ∧ Hid (ro r zs (FX, FY) p k = some l) ∧ Hid (OwnQ wr lo tR (.slice (some ⟨b, 0, none⟩) r.length capr) l) ∧ Hid (OwnQ wr lo2 tR (.slice (some ⟨q, 0, none⟩) zs.length capq) zs) ∧ Hid (HasL wr gf [.int .i64 FX, .int .i64 FY]) ∧ Hid (w.grownBy wr (some b))) (fun _ _ _ _ _ _ i _ => n - (intOf i).toNat)
      case atStart => exact ⟨0, r, Nat.zero_le _, rfl, hid rfl, HO, HQ, HGF, HW⟩
      case round =>
        obtain ⟨k, l, hk, rfl, hro, ho, hq, hf, hw⟩ := hrel
        clear HO HQ HGF HW hkk0
        have hwz := hw.out.size
        by_cases hlt : k < n
        · have hjr : p + k < r.length := by have := HRL.out; omega
          have hjz : p + k < zs.length := by have := HZL.out; omega
          have hll := hid (ro_len hro.out)
          have hjl : p + k < l.length := by rw [hll.out]; exact hjr
          have hlr : l[p + k] = r[p + k] := by
            have := ro_rest hro.out (p + k) (.inl (Nat.le_refl _))
            rw [List.getElem?_eq_getElem hjl, List.getElem?_eq_getElem hjr] at this
            exact Option.some.inj this
          have hst := ro_round hro.out hjr hjz
          obtain ⟨c0, c1, f0, f1⟩ := row_cells ho.out (p + k) hjl
          obtain ⟨d0, d1, g0, g1⟩ := row_cells hq.out (p + k) hjz
          rw [hlr] at c0 c1
          have hyb := ho.out.2 (p + k) hjl
          rw [hlr] at hyb
          have hzb := hq.out.2 (p + k) hjz
          obtain ⟨z, hz⟩ : ∃ z, zs[p + k] = z := ⟨_, rfl⟩
          obtain ⟨y, hy⟩ : ∃ y, r[p + k] = y := ⟨_, rfl⟩
          rw [hz, hy] at hst
          rw [hy] at c0 c1 hyb
          rw [hz] at d0 d1 hzb
          clear hz hy hlr
          have A1 := hid (fun W => impl_mulQ (FX, FY) z W hib.1 hib.2 hzb.1 hzb.2)
          have hmb := mulQ_ib (FX, FY) z
          simp only [endQ_any] at A1
          have HOT := hid hst
          generalize fstQ (mulQ (FX, FY) z) = MX at A1 HOT hmb
          generalize sndQ (mulQ (FX, FY) z) = MY at A1 HOT hmb
          generalize okQ (mulQ (FX, FY) z) = okm at A1 HOT
          have A2 := hid (fun W => impl_subQ y (MX, MY) W hyb.1 hyb.2 hmb.1 hmb.2)
          have hsb := subQ_ib y (MX, MY)
          simp only [endQ_any] at A2
          generalize fstQ (subQ y (MX, MY)) = SX at A2 HOT hsb
          generalize sndQ (subQ y (MX, MY)) = SY at A2 HOT hsb
          generalize okQ (subQ y (MX, MY)) = oks at A2 HOT
          rw [Nat.add_mul] at c0 c1 d0 d1 f0 f1
          have hlt' : (k : Int) < (n : Int) := by omega
          have h0' : (0 : Int) ≤ (k : Int) := by omega
          have hbl2 := (ho.out.lt b rfl).2
          have hql2 := (hq.out.lt q rfl).2
          have hgl2 := hf.out.1
          have Z1 := hid (hasl_new wr [.int .i64 z.1, .int .i64 z.2] 35)
          have F1 := hid (hf.out.alloc (.cells #[.int .i64 z.1, .int .i64 z.2] 35))
          have BZ := hid ((Below.refl wr.heap.size wr).alloc (Nat.le_refl _) (.cells #[.int .i64 z.1, .int .i64 z.2] 35))
          obtain ⟨z0, z1, z2, z3, z4⟩ := Z1.out.two
          obtain ⟨e0, e1, e2, e3, e4⟩ := F1.out.two
          clear hst hib hyb hzb hmb g0 g1 f0 f1
          go_wp2_with fail
          with_reducible refine (A1.out _).mono ?_
          rintro e w3 ⟨rfl, hb3⟩
          have s3 := hb3.size
          simp only [World.size_alloc] at s3
          have B3 := hid ((BZ.out.trans (hb3.mono (by simp))).alloc (by omega) (.cells #[.int .i64 MX, .int .i64 MY] 35))
          have M1 := hid (hasl_new w3 [.int .i64 MX, .int .i64 MY] 35)
          obtain ⟨m0, m1, m2, m3, m4⟩ := M1.out.two
          have c0' := (B3.out.cell (p := ⟨b, p * 2 + k * 2, none⟩) (by exact hbl2)).trans c0
          have c1' := (B3.out.cell (p := ⟨b, p * 2 + k * 2 + 1, none⟩) (by exact hbl2)).trans c1
          clear c0 c1 d0 d1 z0 z1 z2 z3 z4 e0 e1 e2 e3 e4 Z1 F1 BZ A1 hb3
          generalize hW : w3.alloc (.cells #[.int .i64 MX, .int .i64 MY] 35) = w4 at B3 m0 m1 m2 m3 m4 c0' c1'
          have s4 := B3.out.size
          have hk0 := kp_refl w4
          clear M1
          go_upto_region 8 with fail
          go_cut [11, 12] (fun s5 s6 wx => ∃ g : Nat, s5 = .pointer (some ⟨g, 0, none⟩) ∧ s6 = .bool oks ∧ Has2 wx g (.int .i64 SX) (.int .i64 SY) ∧ w4.heap.size ≤ g ∧ Kp w4 0 wx)
          case first =>
            go_region_held3 (fun w' => w'.cell? ⟨b, p * 2 + k * 2, none⟩ = some (.int .i64 y.1) ∧ w'.cell? ⟨b, p * 2 + k * 2 + 1, none⟩ = some (.int .i64 y.2) ∧ w'.cell? ⟨w3.heap.size, 0, none⟩ = some (.int .i64 MX) ∧ w'.cell? ⟨w3.heap.size, 1, none⟩ = some (.int .i64 MY) ∧ Kp w4 0 w')
              (first
              | (go_split_ands
                 repeat' apply And.intro
                 all_goals (first | (with_reducible assumption) | (with_reducible exact cell_drew (by assumption)) | (with_reducible exact Kp.drew (by assumption)) | (with_reducible exact Kp.cell (by assumption) hb1 (by omega) (by assumption)) | (with_reducible exact Kp.call (by assumption) hb1) | (with_reducible exact Kp.cell_alloc (by assumption) _ (by omega) (by assumption)) | (with_reducible exact Kp.alloc (by assumption) _) | (with_reducible exact Kp.cell_alloc_drew (by assumption) _ (by omega) (by assumption)) | (with_reducible exact Kp.alloc_drew (by assumption) _) | (with_reducible exact Kp.reall (by assumption) (by omega) _) | (with_reducible exact cell_realloc (by omega) (by assumption) _) | (with_reducible exact cell_set (by assumption) (by omega)) | (with_reducible exact Kp.set (by assumption) (by omega) _ _))))
              (first | (go_split_ands; go_at_call 120; (with_reducible refine (A2.out _).mono ?_); rintro e w1 ⟨rfl, hb1⟩; have hz0 := hb1.size; (try simp only [World.size_alloc] at hz0); have hz1 : w4.heap.size ≤ w1.heap.size := (by have hk0 : Kp w4 0 _ := (by with_reducible assumption); have hk1 := hk0.sz; (try simp only [World.size_alloc] at hk1); omega); (try (first | (with_reducible have HN := hid (new2_kept hb1)) | (with_reducible have HN := hid (new2_kept_drew hb1)))); (try (obtain ⟨m0, m1, mz, m2, m3⟩ := HN.out))))
            all_goals
            go_wp2_with fail
            go_meet
            go_split_ands
            first
              | exact ⟨_, rfl, rfl, has2_new _ _ _ _, by omega, by with_reducible assumption⟩
              | exact ⟨_, rfl, rfl, has2_set HN.out, (by first | exact Nat.le_refl _ | omega), by with_reducible assumption⟩
          case rest =>
            obtain ⟨gs, rfl, rfl, hH, hgs, hkm⟩ := hcut
            obtain ⟨wq, rfl⟩ : ∃ wo : World, wo = wc := ⟨_, rfl⟩
            have B5 := hid (B3.out.trans (hkm.bel.mono s4))
            have s5 := B5.out.size
            have W5 := hid (show w.grownBy wq (some b) from Cur.grown_trans hw.out ⟨B5.out.os, B5.out.tape, B5.out.output, B5.out.size, fun k hk _ => B5.out.block k hk⟩)
            have S5 := hid (hasl_of2 hH)
            have O5 := hid (ho.out.below' B5.out)
            have Q5 := hid (hq.out.below' B5.out)
            have F5 := hid (hf.out.below B5.out)
            obtain ⟨x0, x1, x2, x3, x4⟩ := S5.out.two
            clear hH hkm hk0 A2 B3 m0 m1 m2 m3 m4 c0' c1' ho hq hf hw hW
            cases okm with
            | false =>
              have HN := hid (show rowOp r zs p n = none from HY.out.trans (ro_none (HOT.out.2.1 (by first | rfl | trivial)) (show k + 1 ≤ n by omega)))
              clear HOT
              go_wp2_with fail
              go_ret
              exact ⟨by rw [HN.out]; rfl, fun l hl => (by rw [HN.out] at hl; cases hl), W5.out⟩
            | true =>
              cases oks with
              | false =>
                have HN := hid (show rowOp r zs p n = none from HY.out.trans (ro_none (HOT.out.2.2 (by first | rfl | trivial) (by first | rfl | trivial)) (show k + 1 ≤ n by omega)))
                clear HOT
                go_wp2_with fail
                go_ret
                exact ⟨by rw [HN.out]; rfl, fun l hl => (by rw [HN.out] at hl; cases hl), W5.out⟩
              | true =>
                have HR1 := hid (HOT.out.1 (by first | rfl | trivial) (by first | rfl | trivial))
                have hrc := row_cells O5.out (p + k) hjl
                rw [Nat.add_mul] at hrc
                obtain ⟨hr0, hr1, f0, f1⟩ := hrc
                obtain ⟨u0, e0⟩ : ∃ u, wq.cell? ⟨b, p * 2 + k * 2, none⟩ = some u := ⟨_, hr0⟩
                obtain ⟨u1, e1⟩ : ∃ u, wq.cell? ⟨b, p * 2 + k * 2 + 1, none⟩ = some u := ⟨_, hr1⟩
                have hset := ownq_set O5.out (p + k) hjl (SX, SY) hsb
                have hgr := set2_grown wq b (p + k) (.int .i64 SX) (.int .i64 SY)
                rw [Nat.add_mul] at hset hgr
                have O6 := hid hset
                have Q6 := hid (Q5.out.grown hgr (fun q' hq' hb' => by
                  have e2 := Option.some.inj hb'
                  simp [Value.ownBlock] at hq'
                  omega))
                have F6 := hid ((F5.out.far (c := b) (o := p * 2 + k * 2) (fun e => hbg e.symm) (.int .i64 SX)).far (c := b) (o := p * 2 + k * 2 + 1) (fun e => hbg e.symm) (.int .i64 SY))
                have W6 := hid (Cur.grown_trans W5.out hgr)
                clear HOT hr0 hr1 hset hgr O5 Q5 F5 W5
                go_wp2_with fail
                go_roundw
                case rel => exact ⟨k + 1, _, by omega, by go_num, HR1, O6, Q6, F6, W6⟩
                case measure => simp [intOf]; omega
        · have e : k = n := by omega
          subst e
          have HM := hid (HY.out.trans hro.out)
          clear hro
          go_wp2_with fail
          go_ret
          exact ⟨by rw [HM.out]; rfl, fun l' hl' => (by rw [HM.out] at hl'; injection hl' with hl'; subst hl'; exact ho.out), hw.out⟩
end Go.Proofs.Ytjnphlgmmjdeiaa.SolI
