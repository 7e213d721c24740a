/- The program solves a linear system. -/
import Derived.Test.YtjnphlgmmjdeiaaSolR
import Derived.Test.YtjnphlgmmjdeiaaSolQ
namespace Go.Proofs.Ytjnphlgmmjdeiaa.SolV
open Go.RowKit
open Go.Proofs.Ytjnphlgmmjdeiaa.Num Go.Proofs.Ytjnphlgmmjdeiaa.IntRow Go.Proofs.Ytjnphlgmmjdeiaa.GridMore Go.Proofs.Ytjnphlgmmjdeiaa.Rdr Go.Proofs.Ytjnphlgmmjdeiaa.HasL Go.Proofs.Ytjnphlgmmjdeiaa.Rat Go.Proofs.Ytjnphlgmmjdeiaa.Rats Go.Proofs.Ytjnphlgmmjdeiaa.RatRow Go.Proofs.Ytjnphlgmmjdeiaa.RatOwn Go.Proofs.Ytjnphlgmmjdeiaa.GridQ Go.Proofs.Ytjnphlgmmjdeiaa.GridQ2 Go.Proofs.Ytjnphlgmmjdeiaa.RatsF Go.Proofs.Ytjnphlgmmjdeiaa.RatsSS Go.Proofs.Ytjnphlgmmjdeiaa.LinP Go.Proofs.Ytjnphlgmmjdeiaa.SolP Go.Proofs.Ytjnphlgmmjdeiaa.SolI Go.Proofs.Ytjnphlgmmjdeiaa.SolX Go.Proofs.Ytjnphlgmmjdeiaa.SolC Go.Proofs.Ytjnphlgmmjdeiaa.SolR Go.Proofs.Ytjnphlgmmjdeiaa.SolQ
set_option linter.unusedVariables false

theorem swp_len (m : MatD) (p k : Nat) : (swp m p k).length = m.length := by unfold swp; simp
theorem swp_row {m : MatD} {p k n : Nat} (hp : p < m.length) (hk : k < m.length) (hr : ∀ j (hj : j < m.length), m[j].length = n) (j : Nat) (hj : j < (swp m p k).length) : (swp m p k)[j].length = n := by
  revert hj
  unfold swp
  intro hj
  rw [List.getElem_set]
  split
  · rw [getD_at hp]; exact hr p hp
  · rw [List.getElem_set]
    split
    · rw [getD_at hk]; exact hr k hk
    · exact hr j (by simpa using hj)
theorem gj_none {m : MatD} {N k n : Nat} (h : gj m N k = none) (hk : k ≤ n) : gj m N n = none := by
  induction n with
  | zero => have e : k = 0 := by omega
            subst e; exact h
  | succ n ih =>
    by_cases e : k = n + 1
    · subst e; exact h
    · rw [gj, ih (by omega)]; rfl
theorem gj_nopiv {m m' : MatD} {N p : Nat} (h : gj m N p = some m') (hp : piv m' p (N - p) p = none) : gj m N (p + 1) = none := by rw [gj, h, Option.bind_some, hp]; rfl
theorem gj_step {m m' : MatD} {N p k : Nat} (h : gj m N p = some m') (hp : piv m' p (N - p) p = some k) : gj m N (p + 1) = clr (swp m' p k) p (N + 1 - p) N := by rw [gj, h, Option.bind_some, hp]; rfl
theorem sysOk_at {a : MatD} {b : List RatD} (h : sysOk a b = true) : b.length ≤ 6 ∧ a.length = b.length ∧ okM a b.length = true ∧ (b.all fun p => vr p.1 p.2) = true := by
  unfold sysOk at h
  simp only [Bool.and_eq_true, decide_eq_true_eq] at h
  exact ⟨h.1.1.1, h.1.1.2, h.1.2, h.2⟩

set_option maxRecDepth 100000 in
set_option maxHeartbeats 2000000 in
theorem impl_solve (a b : Option Addr) (cap capb : Nat) (xss : MatD) (ys : List RatD) (lo hi lo' hi' : Nat) (w : World) (hn : xss.length ≤ 1048576) (hn2 : ys.length ≤ 1048576) (hR : Hid (∀ j (hj : j < xss.length), xss[j].length ≤ 1048576)) (hcb : ys.length ≤ capb) (h : Els 1 rRow2 w lo hi a xss) (h' : Els 2 rRat w lo' hi' b ys) (hh : hi ≤ w.heap.size) (hh' : hi' ≤ w.heap.size) :
    Calls Try.prog 16 #[.slice a xss.length cap, .slice b ys.length capb] w fun e w' => ∃ a0 c0, e = .returned (.tuple #[.slice a0 (lstO (solQ xss ys)).length c0, .bool (okO (solQ xss ys))]) ∧ OwnQ w' w.heap.size tR (.slice a0 (lstO (solQ xss ys)).length c0) (lstO (solQ xss ys)) ∧ Below w.heap.size w w' := by
  have IS := hid (impl_isls a b cap capb xss ys lo hi lo' hi' w hn hn2 hR h h' hh hh')
  cases hok : sysOk xss ys with
  | false =>
    rw [hok] at IS
    have HF := hid (show solQ xss ys = none by unfold solQ; rw [hok]; rfl)
    clear hok h h' hR hcb
    go_enter Try.func16, Try.ntmps16
    go_wp2_with fail
    with_reducible refine IS.out.mono ?_
    rintro e w1 ⟨rfl, hb⟩
    have HB := hid hb
    clear hb
    go_wp2_with fail
    go_ret2
    exact ⟨none, 0, by rw [HF.out]; rfl, by rw [HF.out]; exact OwnQ.nil _ _ _, HB.out⟩
  | true =>
    rw [hok] at IS
    obtain ⟨h6, hl, hm, hv⟩ := sysOk_at hok
    have HSOL := hid (show solQ xss ys = (gj (aug xss ys) ys.length ys.length).bind fun m => quo m ys.length ys.length by unfold solQ; rw [hok]; rfl)
    have HROW := hid (show ∀ j (hj : j < xss.length), xss[j].length = ys.length from fun j hj => (okM_at hm j hj).1)
    have HAR := hid (show ∀ j (hj : j < (aug xss ys).length), (aug xss ys)[j].length = ys.length + 1 from aug_row xss ys HROW.out hl)
    have HAL := hid ((aug_len xss ys).trans hl)
    have HL := hid hl
    have RW := hid (fun W (hW : Below w.heap.size w W) => impl_rwr a b cap capb ys.length xss ys lo hi lo' hi' W (by omega) HL (hid rfl) HROW hcb (h.keep good_row2 (sm_below hW hh)) (h'.keep good_rat (sm_below hW hh')) (Nat.le_trans hh hW.size) (Nat.le_trans hh' hW.size))
    rw [hl] at IS ⊢
    clear hok hm hv h h' hl hR HROW
    generalize solQ xss ys = sol at HSOL
    generalize aug xss ys = A at HSOL HAR HAL RW
    generalize ys.length = N at *
    go_enter Try.func16, Try.ntmps16
    go_wp2_with fail
    with_reducible refine IS.out.mono ?_
    rintro e w1 ⟨rfl, hb⟩
    have HB := hid hb
    have s1 := hb.size
    clear hb IS
    go_wp2_with fail
    with_reducible refine (RW.out _ HB.out).mono ?_
    rintro e w2 ⟨vs, rfl, hown, hb, hlt⟩
    have G := hid (show GOwnQ w2 w.heap.size tQ tR (.slice (some ⟨w1.heap.size, 0, none⟩) N N) vs A from hown.mono s1)
    replace HB := hid (HB.out.trans (hb.mono s1))
    clear hown hb RW
    generalize w1.heap.size = g at s1 hlt G
    go_wp2_with fail
    go_loopw [7, 17] (fun _ i wr => ∃ (p : Nat) (m : MatD) (us : List Value), p ≤ N ∧ i = .int .i64 p ∧ Hid (gj A N p = some m) ∧ Hid (m.length = N) ∧ Hid (∀ j (hj : j < m.length), m[j].length = N + 1) ∧ Hid (GOwnQ wr w.heap.size tQ tR (.slice (some ⟨g, 0, none⟩) N N) us m) ∧ Hid (Below w.heap.size w wr)) (fun _ i _ => N - (intOf i).toNat)
    case atStart => exact ⟨0, A, vs, Nat.zero_le _, rfl, hid rfl, HAL, HAR, G, HB⟩
    case round =>
      obtain ⟨p, m, us, hp, rfl, hgj, hml, hmr, hg, hb⟩ := hrel
      clear G HB
      have sb := hb.out.size
      by_cases hlt : p < N
      · have hlt' : (p : Int) < (N : Int) := by omega
        have h0' : (0 : Int) ≤ (p : Int) := by omega
        have EX := hid (impl_exch g N p N us m wr w.heap.size (by omega) (by omega) hml.out hmr hg.out)
        have hgl := (hg.out.lt g rfl).1
        cases hpv : piv m p (N - p) p with
        | none =>
          rw [hpv] at EX
          have HF := hid (show sol = none by rw [HSOL.out, gj_none (gj_nopiv hgj.out hpv) (show p + 1 ≤ N by omega)]; rfl)
          clear hpv
          go_wp2_with fail
          with_reducible refine EX.out.mono ?_
          rintro e w3 ⟨rfl, _, hgr⟩
          have B3 := hid (hb.out.trans (below_row hgr sb hgl))
          clear hgr
          go_wp2_with fail
          go_ret2
          exact ⟨none, 0, by rw [HF.out]; rfl, by rw [HF.out]; exact OwnQ.nil _ _ _, B3.out⟩
        | some k =>
          rw [hpv] at EX
          have HGS := hid (gj_step hgj.out hpv)
          clear hpv
          go_wp2_with fail
          with_reducible refine EX.out.mono ?_
          rintro e w3 ⟨rfl, hex, hgr⟩
          obtain ⟨hkN, us2, hg2⟩ := hex k rfl
          have B3 := hid (hb.out.trans (below_row hgr sb hgl))
          have s3 := B3.out.size
          have G3 := hid hg2
          have HSL := hid ((swp_len m p k).trans hml.out)
          have HSR := hid (swp_row (n := N + 1) (show p < m.length by have := hml.out; omega) (show k < m.length by have := hml.out; omega) hmr.out)
          clear hgr hex hg2 hg hb EX
          have CL := hid (impl_clr g N p N us2 (swp m p k) w3 w.heap.size (by omega) hlt HSL.out HSR G3.out s3)
          cases hcl : clr (swp m p k) p (N + 1 - p) N with
          | none =>
            rw [hcl] at CL
            have HF := hid (show sol = none by rw [HSOL.out, gj_none (HGS.out.trans hcl) (show p + 1 ≤ N by omega)]; rfl)
            clear hcl
            go_wp2_with fail
            with_reducible refine CL.out.mono ?_
            rintro e w4 ⟨rfl, _, hb4⟩
            have B4 := hid (B3.out.trans hb4)
            clear hb4
            go_wp2_with fail
            go_ret2
            exact ⟨none, 0, by rw [HF.out]; rfl, by rw [HF.out]; exact OwnQ.nil _ _ _, B4.out⟩
          | some m2 =>
            rw [hcl] at CL
            have HN := hid (HGS.out.trans hcl)
            clear hcl
            go_wp2_with fail
            with_reducible refine CL.out.mono ?_
            rintro e w4 ⟨rfl, hm2, hb4⟩
            obtain ⟨hl4, hr4, hg4⟩ := hm2 m2 rfl
            have B4 := hid (B3.out.trans hb4)
            have G4 := hid hg4
            have L4 := hid hl4
            have R4 := hid hr4
            clear hb4 hm2 hl4 hr4 hg4 CL
            go_wp2_with fail
            go_roundw
            case rel => exact ⟨p + 1, m2, us2, by omega, by go_num, HN, L4, R4, G4, B4⟩
            case measure => simp [intOf]; omega
      · have hlt' : ¬ (p : Int) < (N : Int) := by omega
        have e : p = N := by omega
        subst e
        have HQ := hid (show sol = quo m p p by rw [HSOL.out, hgj.out]; rfl)
        have QU := hid (impl_quo g p p us m wr w.heap.size (by omega) hml.out hmr hg.out)
        clear hgj
        go_wp2_with fail
        with_reducible refine QU.out.mono ?_
        rintro e w3 ⟨a0, c0, rfl, hown, hb3⟩
        have O3 := hid (hown.mono sb)
        have B3 := hid (hb.out.trans (hb3.mono sb))
        clear hown hb3
        go_wp2_with fail
        go_ret2
        exact ⟨a0, c0, by rw [HQ.out]; rfl, by rw [HQ.out]; exact O3.out, B3.out⟩
end Go.Proofs.Ytjnphlgmmjdeiaa.SolV
