/- The model clears one column of a matrix. -/
import Derived.Test.YtjnphlgmmjdeiaaSolC
namespace Go.Proofs.Ytjnphlgmmjdeiaa.SolM
open Go.RowKit
open Go.Proofs.Ytjnphlgmmjdeiaa.Num Go.Proofs.Ytjnphlgmmjdeiaa.IntRow Go.Proofs.Ytjnphlgmmjdeiaa.GridMore Go.Proofs.Ytjnphlgmmjdeiaa.Rdr Go.Proofs.Ytjnphlgmmjdeiaa.HasL Go.Proofs.Ytjnphlgmmjdeiaa.Rat Go.Proofs.Ytjnphlgmmjdeiaa.RatLaw Go.Proofs.Ytjnphlgmmjdeiaa.Rats Go.Proofs.Ytjnphlgmmjdeiaa.RatRow Go.Proofs.Ytjnphlgmmjdeiaa.RatOwn Go.Proofs.Ytjnphlgmmjdeiaa.GridQ Go.Proofs.Ytjnphlgmmjdeiaa.GridQ2 Go.Proofs.Ytjnphlgmmjdeiaa.RatsSS Go.Proofs.Ytjnphlgmmjdeiaa.Smq Go.Proofs.Ytjnphlgmmjdeiaa.SmqI Go.Proofs.Ytjnphlgmmjdeiaa.Qops Go.Proofs.Ytjnphlgmmjdeiaa.LinP Go.Proofs.Ytjnphlgmmjdeiaa.Dot Go.Proofs.Ytjnphlgmmjdeiaa.SolP Go.Proofs.Ytjnphlgmmjdeiaa.SolI Go.Proofs.Ytjnphlgmmjdeiaa.SolX Go.Proofs.Ytjnphlgmmjdeiaa.SolC Go.Proofs.Ytjnphlgmmjdeiaa.Keep Go.Proofs.Ytjnphlgmmjdeiaa.Kept Go.Proofs.Ytjnphlgmmjdeiaa.Cells
set_option linter.unusedVariables false

theorem ro_roundc {r q l : List RatD} {f : RatD} {p k c : Nat} (hc : c = p + k) (h : ro r q f p k = some l) (hr : c < r.length) (hq : c < q.length) :
    (okQ (mulQ f q[c]) = true → okQ (subQ r[c] (fstQ (mulQ f q[c]), sndQ (mulQ f q[c]))) = true → ro r q f p (k + 1) = some (l.set c (fstQ (subQ r[c] (fstQ (mulQ f q[c]), sndQ (mulQ f q[c]))), sndQ (subQ r[c] (fstQ (mulQ f q[c]), sndQ (mulQ f q[c])))))) ∧
    (okQ (mulQ f q[c]) = false → ro r q f p (k + 1) = none) ∧ (okQ (mulQ f q[c]) = true → okQ (subQ r[c] (fstQ (mulQ f q[c]), sndQ (mulQ f q[c]))) = false → ro r q f p (k + 1) = none) := by
  subst hc
  exact ro_round h hr hq
/-- Where the row's work stands: the first k columns are done, or it has failed. -/
def St (r q : List RatD) (f : RatD) (p n k : Nat) (is : Bool) (l : List RatD) : Prop := (is = true ∧ ro r q f p k = some l) ∨ (is = false ∧ ro r q f p n = none)
theorem St.yes {r q l : List RatD} {f : RatD} {p n k : Nat} (h : St r q f p n k true l) : ro r q f p k = some l := by rcases h with h | h; exact h.2; cases h.1
theorem St.no {r q l : List RatD} {f : RatD} {p n k : Nat} (h : St r q f p n k false l) : ro r q f p n = none := by rcases h with h | h; cases h.1; exact h.2
/-- Row j of an owned matrix is written. -/
theorem gownq_cell {w : World} {lo : Nat} {v : Value} {vs : List Value} {m : MatD} (h : GOwnQ w lo tQ tR v vs m) {j b n cap : Nat} (hj : j < m.length) (hv : vs[j]? = some (.slice (some ⟨b, 0, none⟩) n cap)) (hn : n = m[j].length) (c : Nat) (hc : c < m[j].length) (p : RatD) (hp : Ib p.1 ∧ Ib p.2) : GOwnQ ((w.setCell ⟨b, c * 2, none⟩ (.int .i64 p.1)).setCell ⟨b, c * 2 + 1, none⟩ (.int .i64 p.2)) lo tQ tR v vs (m.set j (m[j].set c p)) := by
  subst hn
  exact h.rewrite tQR hj hv _ (ownq_set (h.own j hj _ hv) c hc p hp) (set2_grown w b c _ _)

set_option maxRecDepth 100000 in
set_option maxHeartbeats 4000000 in
theorem spec_clr (g cap p N : Nat) (vs : List Value) (m : MatD) (w : World) (lo : Nat) (hN : N ≤ 90) (hp : p < N) (hl : m.length = N) (hrow : Hid (∀ j (hj : j < m.length), m[j].length = N + 1)) (ho : GOwnQ w lo tQ tR (.slice (some ⟨g, 0, none⟩) N cap) vs m) (hlo : lo ≤ w.heap.size) :
    Calls Try.prog 65 #[.slice (some ⟨g, 0, none⟩) N cap, .int .i64 p] w fun e w' => e = .returned (.bool (clr m p (N + 1 - p) N).isSome) ∧ (∀ m', clr m p (N + 1 - p) N = some m' → m'.length = N ∧ (∀ j (hj : j < m'.length), m'[j].length = N + 1) ∧ GOwnQ w' lo tQ tR (.slice (some ⟨g, 0, none⟩) N cap) vs m') ∧ Below lo w w' := by
  have HO := hid ho
  have HL := hid hl
  clear ho hl
  go_enter Try.func65, Try.ntmps65
  go_wp2_with fail
  go_loopw [5, 6, 7, 8, 9, 10, 11, 12] (fun i _ _ _ _ _ _ _ wr => ∃ (k : Nat) (m' : MatD), k ≤ N ∧ i = .int .i64 k ∧ Hid (clr m p (N + 1 - p) k = some m') ∧ Hid (m'.length = N) ∧ Hid (∀ j (hj : j < m'.length), m'[j].length = N + 1) ∧ Hid (GOwnQ wr lo tQ tR (.slice (some ⟨g, 0, none⟩) N cap) vs m') ∧ Hid (Below lo w wr)) (fun i _ _ _ _ _ _ _ _ => N - (intOf i).toNat)
  case atStart => exact ⟨0, m, Nat.zero_le _, rfl, hid rfl, HL, hrow, HO, hid (Below.refl _ _)⟩
  case round =>
    obtain ⟨k, m', hk, rfl, hc, hml, hmr, hg, hb⟩ := hrel
    clear HO
    have hbs := hb.out.size
    by_cases hlt : k < N
    · have hkl : k < m'.length := by have := hml.out; omega
      have hpl : p < m'.length := by have := hml.out; omega
      have hkp : p < m'[k].length := by rw [hmr.out k hkl]; omega
      obtain ⟨bk, capk, hvk, hlb, hlc⟩ := row_block hg.out k hkl (by omega)
      have hck := (hg.out.cellAt k hkl).trans hvk
      rw [Nat.zero_add, hmr.out k hkl] at hck
      rw [hmr.out k hkl] at hvk hlc
      have OK := hid (row_own hg.out k hkl hvk)
      obtain ⟨c0, c1, f0, f1⟩ := row_cells OK.out p hkp
      have hlt' : (k : Int) < (N : Int) := by omega
      have h0' : (0 : Int) ≤ (k : Int) := by omega
      have hp0 : (0 : Int) ≤ (p : Int) := by omega
      have hpN : (p : Int) < (N : Int) := by omega
      have hpN1 : (p : Int) < (N : Int) + 1 := by omega
      have hget : ((m'.getD k []).getD p (0, 0)) = m'[k][p] := by rw [getD_at hkl, getR_at hkp]
      by_cases hkpe : k = p
      · have hq : ((k : Int) == (p : Int)) = true := by simp [hkpe]
        have HN := hid (clr_skip hc.out (.inl hkpe))
        clear hget f0 f1 c1 hkpe
        go_wp2_with fail
        go_roundw
        case rel => exact ⟨k + 1, m', by omega, by go_num, HN, hml, hmr, hg, hb⟩
        case measure => simp [intOf]; omega
      · have hq : ((k : Int) == (p : Int)) = false := by simp only [beq_eq_false_iff_ne, ne_eq]; omega
        by_cases hz : m'[k][p].1 = 0
        · have hq2 : (m'[k][p].1 == 0) = true := by simp [hz]
          have HN := hid (clr_skip hc.out (.inr (by rw [hget]; exact hz)))
          clear hget f0 f1 c1 hz hkpe
          go_wp2_with fail
          go_roundw
          case rel => exact ⟨k + 1, m', by omega, by go_num, HN, hml, hmr, hg, hb⟩
          case measure => simp [intOf]; omega
        · have hq2 : (m'[k][p].1 == 0) = false := by simp [hz]
          have hpk : p < m'[p].length := by rw [hmr.out p hpl]; omega
          obtain ⟨bp, capp, hvp, hlbp, hlcp⟩ := row_block hg.out p hpl (by omega)
          have hcp := (hg.out.cellAt p hpl).trans hvp
          rw [Nat.zero_add, hmr.out p hpl] at hcp
          rw [hmr.out p hpl] at hvp hlcp
          have OP := hid (row_own hg.out p hpl hvp)
          obtain ⟨d0, d1, _, _⟩ := row_cells OP.out p hpk
          have hbp : bk ≠ bp := fun e => hg.out.apart k p _ _ bk hkpe hvk hvp rfl (by rw [e]; rfl)
          have HGO := hid (clr_go hc.out (fun h => by rcases h with h | h; exact hkpe h; rw [hget] at h; exact hz h))
          have hx := OK.out.2 p hkp
          have hy := OP.out.2 p hpk
          have hbkl := (OK.out.lt bk rfl).2
          have hbpl := (OP.out.lt bp rfl).2
          have hgl := (hg.out.lt g rfl).2
          have A := hid (fun W => spec_divQ m'[k][p] m'[p][p] W hx.1 hx.2 hy.1 hy.2)
          have hib := divQ_ib m'[k][p] m'[p][p]
          have HROW := hid (show rowOp (m'.getD k []) (m'.getD p []) p (N + 1 - p) = (divQ m'[k][p] m'[p][p]).bind fun f => ro m'[k] m'[p] f p (N + 1 - p) by rw [getD_at hkl, getD_at hpl]; unfold rowOp; rw [getR_at hkp, getR_at hpk])
          have HOK := hid (fun (h : okQ (divQ m'[k][p] m'[p][p]) = true) => show rowOp (m'.getD k []) (m'.getD p []) p (N + 1 - p) = ro m'[k] m'[p] (fstQ (divQ m'[k][p] m'[p][p]), sndQ (divQ m'[k][p] m'[p][p])) p (N + 1 - p) by
            rw [HROW.out]
            cases hd : divQ m'[k][p] m'[p][p] with
            | none => rw [hd] at h; cases h
            | some f => rfl)
          have HNO := hid (fun (h : okQ (divQ m'[k][p] m'[p][p]) = false) => show rowOp (m'.getD k []) (m'.getD p []) p (N + 1 - p) = none by
            rw [HROW.out]
            cases hd : divQ m'[k][p] m'[p][p] with
            | none => rfl
            | some f => rw [hd] at h; cases h)
          simp only [endQ_any] at A
          generalize fstQ (divQ m'[k][p] m'[p][p]) = FX at A HOK hib
          generalize sndQ (divQ m'[k][p] m'[p][p]) = FY at A HOK hib
          generalize okQ (divQ m'[k][p] m'[p][p]) = okf at A HOK HNO
          have hk0 := kp_refl wr
          clear hget f0 f1 hx hy HROW hkpe hz
          go_upto_region 5 with fail
          go_cut [6, 7] (fun s5 s6 wx => ∃ g : Nat, s5 = .pointer (some ⟨g, 0, none⟩) ∧ s6 = .bool okf ∧ Has2 wx g (.int .i64 FX) (.int .i64 FY) ∧ wr.heap.size ≤ g ∧ Kp wr 0 wx)
          case first =>
            go_region_held3 (fun w' => w'.cell? ⟨g, k, none⟩ = some (.slice (some ⟨bk, 0, none⟩) (N + 1) capk) ∧ w'.cell? ⟨g, p, none⟩ = some (.slice (some ⟨bp, 0, none⟩) (N + 1) capp) ∧ w'.cell? ⟨bk, p * 2, none⟩ = some (.int .i64 m'[k][p].1) ∧ w'.cell? ⟨bk, p * 2 + 1, none⟩ = some (.int .i64 m'[k][p].2) ∧ w'.cell? ⟨bp, p * 2, none⟩ = some (.int .i64 m'[p][p].1) ∧ w'.cell? ⟨bp, p * 2 + 1, none⟩ = some (.int .i64 m'[p][p].2) ∧ Kp wr 0 w')
              (first
                | (go_split_ands
                   repeat' apply And.intro
                   all_goals (first | (with_reducible assumption) | (with_reducible exact cell_drew (by assumption)) | (with_reducible exact Kp.drew (by assumption)) | (with_reducible exact Kp.cell (by assumption) hb1 (by omega) (by assumption)) | (with_reducible exact Kp.call (by assumption) hb1) | (with_reducible exact Kp.cell_alloc (by assumption) _ (by omega) (by assumption)) | (with_reducible exact Kp.alloc (by assumption) _) | (with_reducible exact Kp.cell_alloc_drew (by assumption) _ (by omega) (by assumption)) | (with_reducible exact Kp.alloc_drew (by assumption) _) | (with_reducible exact Kp.reall (by assumption) (by omega) _) | (with_reducible exact cell_realloc (by omega) (by assumption) _) | (with_reducible exact cell_set (by assumption) (by omega)) | (with_reducible exact Kp.set (by assumption) (by omega) _ _))))
              (first | (go_split_ands; go_at_call 66; (with_reducible refine (A.out _).mono ?_); rintro e w1 ⟨rfl, hb1⟩; have hz0 := hb1.size; (try simp only [World.size_alloc] at hz0); have hz1 : wr.heap.size ≤ w1.heap.size := (by have hk0 : Kp wr 0 _ := (by with_reducible assumption); have hk1 := hk0.sz; (try simp only [World.size_alloc] at hk1); omega); (try (first | (with_reducible have HN := hid (new2_kept hb1)) | (with_reducible have HN := hid (new2_kept_drew hb1)))); (try (obtain ⟨m0, m1, mz, m2, m3⟩ := HN.out))))
            all_goals
              go_wp2_with fail
              go_meet
              go_split_ands
              first
                | exact ⟨_, rfl, rfl, has2_new _ _ _ _, by omega, by with_reducible assumption⟩
                | exact ⟨_, rfl, rfl, has2_set HN.out, (by first | exact Nat.le_refl _ | omega), by with_reducible assumption⟩
          case rest =>
            obtain ⟨gf, rfl, rfl, hH, hgf, hkf⟩ := hcut
            obtain ⟨wd, rfl⟩ : ∃ wo : World, wo = wc := ⟨_, rfl⟩
            have G1 := hid (hg.out.below' hkf.bel)
            have F1 := hid (hasl_of2 hH)
            have B1 := hid (hb.out.trans (hkf.bel.mono (Nat.le_trans hlo hbs)))
            have hsd := hkf.sz
            have hbkf : gf ≠ bk := by omega
            have hlobk := (OK.out.lt bk rfl).1
            have HVK := hid hvk
            have HVP := hid hvp
            have HKP := hid (show k ≠ p from fun e => by subst e; simp at hq)
            clear hH hkf hk0 A c0 c1 d0 d1 hck hcp hg hb hvk hvp OK OP
            cases okf with
            | false =>
              have HN := hid (show clr m p (N + 1 - p) N = none from clr_none (HGO.out.trans (by rw [HNO.out rfl]; rfl)) (show k + 1 ≤ N by omega))
              have hck := (G1.out.cellAt k hkl).trans HVK.out
              rw [Nat.zero_add] at hck
              clear HOK HNO HGO F1
              go_wp2_with fail
              go_loopw [7, 8] (fun b c wr => b = .bool false ∧ c = .int .i64 p ∧ wr = wd) (fun _ _ _ => 0)
              case atStart => exact ⟨rfl, rfl, rfl⟩
              case round =>
                obtain ⟨rfl, rfl, rfl⟩ := hrel
                go_wp2_with fail
                go_ret
                exact ⟨by rw [HN.out]; rfl, fun m2 h2 => (by rw [HN.out] at h2; cases h2), B1.out⟩
            | true =>
              have ROW := hid (HOK.out rfl)
              have HKL := hid (hmr.out k hkl)
              have HPL := hid (hmr.out p hpl)
              have HSET := hid (show m'.set k m'[k] = m' from List.set_getElem_self hkl)
              obtain ⟨mk, hmk⟩ : ∃ z, m'[k] = z := ⟨_, rfl⟩
              obtain ⟨mp, hmp⟩ : ∃ z, m'[p] = z := ⟨_, rfl⟩
              have HRK := hid (show IbA mk by rw [← hmk]; exact (G1.out.own k hkl _ HVK.out).2)
              have HRP := hid (show IbA mp by rw [← hmp]; exact (G1.out.own p hpl _ HVP.out).2)
              have HMP := hid (show ∀ (l : List RatD) (h : p < (m'.set k l).length), (m'.set k l)[p] = mp from fun l h => by rw [List.getElem_set_ne HKP.out, hmp])
              rw [hmk] at ROW HKL HSET
              rw [hmp] at ROW HPL
              have HGS := hid (show GOwnQ wd lo tQ tR (.slice (some ⟨g, 0, none⟩) N cap) vs (m'.set k mk) by rw [HSET.out]; exact G1.out)
              have HST := hid (show St mk mp (FX, FY) p (N + 1 - p) 0 true mk from .inl ⟨rfl, rfl⟩)
              clear HOK HNO G1 HSET hmk hmp
              go_wp2_with fail
              go_loopw [7, 8, 9, 10, 11, 12] (fun b c _ _ _ _ wr => ∃ (c' kk : Nat) (is : Bool) (l : List RatD), c' ≤ N + 1 ∧ c = .int .i64 c' ∧ b = .bool is ∧ Hid (c' = p + kk) ∧ Hid (St mk mp (FX, FY) p (N + 1 - p) kk is l) ∧ Hid (l.length = N + 1) ∧ Hid (GOwnQ wr lo tQ tR (.slice (some ⟨g, 0, none⟩) N cap) vs (m'.set k l)) ∧ Hid (HasL wr gf [.int .i64 FX, .int .i64 FY]) ∧ Hid (Below lo w wr)) (fun _ c _ _ _ _ _ => N + 1 - (intOf c).toNat)
              case atStart => exact ⟨p, 0, true, mk, by omega, rfl, rfl, hid rfl, HST, HKL, HGS, F1, B1⟩
              case round =>
                obtain ⟨c, kk, is, l, hcN, rfl, rfl, hck0, hst, hll, hg, hf, hb⟩ := hrel
                clear HGS HST F1 B1
                obtain ⟨wq, hwq⟩ : ∃ wo : World, wo = wr := ⟨_, rfl⟩
                have hsq := hb.out.size
                have hkM : k < (m'.set k l).length := by rw [List.length_set]; exact hkl
                have hpM : p < (m'.set k l).length := by rw [List.length_set]; exact hpl
                have hMk : (m'.set k l)[k] = l := List.getElem_set_self _
                have hck := (hg.out.cellAt k hkM).trans HVK.out
                rw [Nat.zero_add] at hck
                have h0c : (0 : Int) ≤ (c : Int) := by omega
                have HMK := hid hMk
                clear hMk hwq
                cases is with
                | false =>
                  have HN := hid (show clr m p (N + 1 - p) N = none from clr_none (HGO.out.trans (by rw [ROW.out, hst.out.no]; rfl)) (show k + 1 ≤ N by omega))
                  clear hst
                  by_cases hcl : c < N + 1
                  · have hcl' : (c : Int) < (N : Int) + 1 := by omega
                    go_wp2_with fail
                    go_ret
                    exact ⟨by rw [HN.out]; rfl, fun m2 h2 => (by rw [HN.out] at h2; cases h2), hb.out⟩
                  · have hcl' : ¬ (c : Int) < (N : Int) + 1 := by omega
                    go_wp2_with fail
                    go_ret
                    exact ⟨by rw [HN.out]; rfl, fun m2 h2 => (by rw [HN.out] at h2; cases h2), hb.out⟩
                | true =>
                  by_cases hcl : c < N + 1
                  · have hcl' : (c : Int) < (N : Int) + 1 := by omega
                    have hcl2 : c < l.length := by rw [hll.out]; exact hcl
                    have hcmk : c < mk.length := by rw [HKL.out]; exact hcl
                    have hcmp : c < mp.length := by rw [HPL.out]; exact hcl
                    have hkk := hck0.out
                    have hlr : l[c] = mk[c] := by
                      have := ro_rest hst.out.yes c (.inl (by omega))
                      rw [List.getElem?_eq_getElem hcl2, List.getElem?_eq_getElem hcmk] at this
                      exact Option.some.inj this
                    have HOT0 := ro_roundc hck0.out hst.out.yes hcmk hcmp
                    have OPc := row_own hg.out p hpM HVP.out
                    rw [HMP.out] at OPc
                    obtain ⟨d0, d1, _, _⟩ := row_cells OPc c hcmp
                    have hcp := (hg.out.cellAt p hpM).trans HVP.out
                    rw [Nat.zero_add] at hcp
                    have hyb := HRK.out c hcmk
                    have hzb := HRP.out c hcmp
                    obtain ⟨z, hz⟩ : ∃ z, mp[c] = z := ⟨_, rfl⟩
                    obtain ⟨y, hy⟩ : ∃ y, mk[c] = y := ⟨_, rfl⟩
                    rw [hz, hy] at HOT0
                    rw [hy] at hlr hyb
                    rw [hz] at d0 d1 hzb
                    have HLR := hid hlr
                    clear hz hy hlr OPc hkk
                    have A1 := hid (fun W => spec_mulQ (FX, FY) z W hib.1 hib.2 hzb.1 hzb.2)
                    have hmb := mulQ_ib (FX, FY) z
                    simp only [endQ_any] at A1
                    have HOT := hid HOT0
                    generalize fstQ (mulQ (FX, FY) z) = MX at A1 HOT hmb
                    generalize sndQ (mulQ (FX, FY) z) = MY at A1 HOT hmb
                    generalize okQ (mulQ (FX, FY) z) = okm at A1 HOT
                    have A2 := hid (fun W => spec_subQ y (MX, MY) W hyb.1 hyb.2 hmb.1 hmb.2)
                    have hsb := subQ_ib y (MX, MY)
                    simp only [endQ_any] at A2
                    generalize fstQ (subQ y (MX, MY)) = SX at A2 HOT hsb
                    generalize sndQ (subQ y (MX, MY)) = SY at A2 HOT hsb
                    generalize okQ (subQ y (MX, MY)) = oks at A2 HOT
                    obtain ⟨e0, e1, _, _, hgfl⟩ := hf.out.two
                    have hgl2 := (hg.out.lt g rfl).2
                    have hbpl2 := (hg.out.lt_row HVP.out bp rfl).2
                    have hbkl2 := (hg.out.lt_row HVK.out bk rfl).2
                    have HSB := hid hsb
                    have hk0 := kp_refl wr
                    clear HOT0 hyb hzb hmb hsb hst
                    have hc0 : (0 : Int) ≤ (c : Int) := by omega
                    go_upto_region 9 with fail
                    go_cut [9, 10] (fun s5 s6 wx => ∃ g : Nat, s5 = .pointer (some ⟨g, 0, none⟩) ∧ s6 = .bool okm ∧ Has2 wx g (.int .i64 MX) (.int .i64 MY) ∧ wr.heap.size ≤ g ∧ Kp wr 0 wx)
                    case first =>
                      go_region_held3 (fun w' => w'.cell? ⟨gf, 0, none⟩ = some (.int .i64 FX) ∧ w'.cell? ⟨gf, 1, none⟩ = some (.int .i64 FY) ∧ w'.cell? ⟨g, p, none⟩ = some (.slice (some ⟨bp, 0, none⟩) (N + 1) capp) ∧ w'.cell? ⟨bp, c * 2, none⟩ = some (.int .i64 z.1) ∧ w'.cell? ⟨bp, c * 2 + 1, none⟩ = some (.int .i64 z.2) ∧ Kp wr 0 w')
                        (first
                          | (go_split_ands
                             repeat' apply And.intro
                             all_goals (first | (with_reducible assumption) | (with_reducible exact cell_drew (by assumption)) | (with_reducible exact Kp.drew (by assumption)) | (with_reducible exact Kp.cell (by assumption) hb1 (by omega) (by assumption)) | (with_reducible exact Kp.call (by assumption) hb1) | (with_reducible exact Kp.cell_alloc (by assumption) _ (by omega) (by assumption)) | (with_reducible exact Kp.alloc (by assumption) _) | (with_reducible exact Kp.cell_alloc_drew (by assumption) _ (by omega) (by assumption)) | (with_reducible exact Kp.alloc_drew (by assumption) _) | (with_reducible exact Kp.reall (by assumption) (by omega) _) | (with_reducible exact cell_realloc (by omega) (by assumption) _) | (with_reducible exact cell_set (by assumption) (by omega)) | (with_reducible exact Kp.set (by assumption) (by omega) _ _))))
                        (first | (go_split_ands; go_at_call 97; (with_reducible refine (A1.out _).mono ?_); rintro e w1 ⟨rfl, hb1⟩; have hz0 := hb1.size; (try simp only [World.size_alloc] at hz0); have hz1 : wr.heap.size ≤ w1.heap.size := (by have hk0 : Kp wr 0 _ := (by with_reducible assumption); have hk1 := hk0.sz; (try simp only [World.size_alloc] at hk1); omega); (try (first | (with_reducible have HN := hid (new2_kept hb1)) | (with_reducible have HN := hid (new2_kept_drew hb1)))); (try (obtain ⟨m0, m1, mz, m2, m3⟩ := HN.out))))
                      all_goals
                        go_wp2_with fail
                        go_meet
                        go_split_ands
                        first
                          | exact ⟨_, rfl, rfl, has2_new _ _ _ _, by omega, by with_reducible assumption⟩
                          | exact ⟨_, rfl, rfl, has2_set HN.out, (by first | exact Nat.le_refl _ | omega), by with_reducible assumption⟩
                    case rest =>
                      obtain ⟨gx, rfl, rfl, hH, hgx, hkm⟩ := hcut
                      obtain ⟨w3, rfl⟩ : ∃ wo : World, wo = wc := ⟨_, rfl⟩
                      have s3 := hkm.sz
                      have G3 := hid (hg.out.below' hkm.bel)
                      have F3 := hid (hf.out.below hkm.bel)
                      have B3 := hid (hb.out.trans (hkm.bel.mono (Nat.le_trans hlo hsq)))
                      have X3 := hid (hasl_of2 hH)
                      clear hH hkm hk0 A1 d0 d1 e0 e1 hcp hck hg hf hb
                      have OKc := row_own G3.out k hkM HVK.out
                      rw [HMK.out] at OKc
                      obtain ⟨c0, c1, _, _⟩ := row_cells OKc c hcl2
                      rw [HLR.out] at c0 c1
                      have hck := (G3.out.cellAt k hkM).trans HVK.out
                      rw [Nat.zero_add] at hck
                      obtain ⟨x0, x1, _, _, hgxl⟩ := X3.out.two
                      have hgl3 := (G3.out.lt g rfl).2
                      have hbkl3 := (G3.out.lt_row HVK.out bk rfl).2
                      have hk0 := kp_refl w3
                      clear OKc
                      go_upto_region 10 with fail
                      go_cut [11, 12] (fun s5 s6 wx => ∃ g : Nat, s5 = .pointer (some ⟨g, 0, none⟩) ∧ s6 = .bool oks ∧ Has2 wx g (.int .i64 SX) (.int .i64 SY) ∧ w3.heap.size ≤ g ∧ Kp w3 0 wx)
                      case first =>
                        go_region_held3 (fun w' => w'.cell? ⟨g, k, none⟩ = some (.slice (some ⟨bk, 0, none⟩) (N + 1) capk) ∧ w'.cell? ⟨bk, c * 2, none⟩ = some (.int .i64 y.1) ∧ w'.cell? ⟨bk, c * 2 + 1, none⟩ = some (.int .i64 y.2) ∧ w'.cell? ⟨gx, 0, none⟩ = some (.int .i64 MX) ∧ w'.cell? ⟨gx, 1, none⟩ = some (.int .i64 MY) ∧ Kp w3 0 w')
                          (first
                            | (go_split_ands
                               repeat' apply And.intro
                               all_goals (first | (with_reducible assumption) | (with_reducible exact cell_drew (by assumption)) | (with_reducible exact Kp.drew (by assumption)) | (with_reducible exact Kp.cell (by assumption) hb1 (by omega) (by assumption)) | (with_reducible exact Kp.call (by assumption) hb1) | (with_reducible exact Kp.cell_alloc (by assumption) _ (by omega) (by assumption)) | (with_reducible exact Kp.alloc (by assumption) _) | (with_reducible exact Kp.cell_alloc_drew (by assumption) _ (by omega) (by assumption)) | (with_reducible exact Kp.alloc_drew (by assumption) _) | (with_reducible exact Kp.reall (by assumption) (by omega) _) | (with_reducible exact cell_realloc (by omega) (by assumption) _) | (with_reducible exact cell_set (by assumption) (by omega)) | (with_reducible exact Kp.set (by assumption) (by omega) _ _))))
                          (first | (go_split_ands; go_at_call 98; (with_reducible refine (A2.out _).mono ?_); rintro e w1 ⟨rfl, hb1⟩; have hz0 := hb1.size; (try simp only [World.size_alloc] at hz0); have hz1 : w3.heap.size ≤ w1.heap.size := (by have hk0 : Kp w3 0 _ := (by with_reducible assumption); have hk1 := hk0.sz; (try simp only [World.size_alloc] at hk1); omega); (try (first | (with_reducible have HN := hid (new2_kept hb1)) | (with_reducible have HN := hid (new2_kept_drew hb1)))); (try (obtain ⟨m0, m1, mz, m2, m3⟩ := HN.out))))
                        all_goals
                          go_wp2_with fail
                          go_meet
                          go_split_ands
                          first
                            | exact ⟨_, rfl, rfl, has2_new _ _ _ _, by omega, by with_reducible assumption⟩
                            | exact ⟨_, rfl, rfl, has2_set HN.out, (by first | exact Nat.le_refl _ | omega), by with_reducible assumption⟩
                      case rest =>
                        obtain ⟨gy, rfl, rfl, hH, hgy, hkm⟩ := hcut
                        obtain ⟨w4, rfl⟩ : ∃ wo : World, wo = wc := ⟨_, rfl⟩
                        have s4 := hkm.sz
                        have G4 := hid (G3.out.below' hkm.bel)
                        have F4 := hid (F3.out.below hkm.bel)
                        have B4 := hid (B3.out.trans (hkm.bel.mono (Nat.le_trans hlo (Nat.le_trans hsq s3))))
                        have Y4 := hid (hasl_of2 hH)
                        clear hH hkm hk0 A2 c0 c1 x0 x1 hck G3 F3 B3 X3
                        have hck := (G4.out.cellAt k hkM).trans HVK.out
                        rw [Nat.zero_add] at hck
                        obtain ⟨y0, y1, _, _, hgyl⟩ := Y4.out.two
                        have OKc := row_own G4.out k hkM HVK.out
                        rw [HMK.out] at OKc
                        obtain ⟨c0, c1, f0, f1⟩ := row_cells OKc c hcl2
                        have GD := hid G4.out.drew
                        have FD := hid F4.out.drew
                        have BD := hid B4.out.drew
                        have HST2 := hid (show St mk mp (FX, FY) p (N + 1 - p) (kk + 1) (okm && oks) (l.set c (SX, SY)) by
                          have hle : kk + 1 ≤ N + 1 - p := by have := hck0.out; omega
                          cases okm with
                          | false => exact .inr ⟨rfl, ro_none (HOT.out.2.1 rfl) hle⟩
                          | true =>
                            cases oks with
                            | false => exact .inr ⟨rfl, ro_none (HOT.out.2.2 rfl rfl) hle⟩
                            | true => exact .inl ⟨rfl, HOT.out.1 rfl rfl⟩)
                        have HLL := hid (show (l.set c (SX, SY)).length = N + 1 by rw [List.length_set]; exact hll.out)
                        have HCK := hid (show c + 1 = p + (kk + 1) by have := hck0.out; omega)
                        obtain ⟨u0, d0⟩ : ∃ u, w4.drew.cell? ⟨bk, c * 2, none⟩ = some u := ⟨_, c0⟩
                        obtain ⟨u1, d1⟩ : ∃ u, w4.drew.cell? ⟨bk, c * 2 + 1, none⟩ = some u := ⟨_, c1⟩
                        have g0 : w4.drew.frozen? ⟨bk, c * 2, none⟩ = false := f0
                        have g1 : w4.drew.frozen? ⟨bk, c * 2 + 1, none⟩ = false := f1
                        clear HOT OKc c0 c1 f0 f1 HLR hcl2 hll hck0 G4 F4 B4 Y4
                        generalize hW : w4.drew = w5 at GD FD BD d0 d1 g0 g1
                        have HW := hid hW
                        clear hW
                        have GS := hid (show GOwnQ ((w5.setCell ⟨bk, c * 2, none⟩ (.int .i64 SX)).setCell ⟨bk, c * 2 + 1, none⟩ (.int .i64 SY)) lo tQ tR (.slice (some ⟨g, 0, none⟩) N cap) vs (m'.set k (l.set c (SX, SY))) by
                          have hn : N + 1 = (m'.set k l)[k].length := by rw [HMK.out]; have := HLL.out; rw [List.length_set] at this; exact this.symm
                          have := gownq_cell GD.out hkM HVK.out hn c (by omega) (SX, SY) HSB.out
                          rw [HMK.out, List.set_set] at this
                          exact this)
                        have FS := hid ((FD.out.far (c := bk) (o := c * 2) hbkf (.int .i64 SX)).far (c := bk) (o := c * 2 + 1) hbkf (.int .i64 SY))
                        have BS := hid ((BD.out.setCell (p := ⟨bk, c * 2, none⟩) hlobk (.int .i64 SX)).setCell (p := ⟨bk, c * 2 + 1, none⟩) hlobk (.int .i64 SY))
                        have e1 : (w5.setCell ⟨bk, c * 2, none⟩ (.int .i64 SX)).cell? ⟨bk, c * 2 + 1, none⟩ = some u1 := (World.cell?_setCell_other _ _ _ _ (by simp)).trans d1
                        have e2 : (w5.setCell ⟨bk, c * 2, none⟩ (.int .i64 SX)).frozen? ⟨bk, c * 2 + 1, none⟩ = false := (World.frozen?_setCell _ _ _ _).trans g1
                        clear GD FD BD
                        cases okm
                        all_goals
                          go_upto_region 12 with fail
                          go_still_tail 7, (by kernel_rfl)
                          change wpList _ _ _ _ _ w4.drew
                          rw [HW.out]
                          go_wp2_with fail
                          go_roundw
                          case rel => exact ⟨c + 1, kk + 1, _, _, by omega, by go_num, rfl, HCK, HST2, HLL, GS, FS, BS⟩
                          case measure => simp [intOf]; omega
                  · have hcl' : ¬ (c : Int) < (N : Int) + 1 := by omega
                    have HM := hid (show clr m p (N + 1 - p) (k + 1) = some (m'.set k l) from HGO.out.trans (by
                      have : kk = N + 1 - p := by have := hck0.out; omega
                      subst this
                      rw [ROW.out, hst.out.yes]; rfl))
                    have HML := hid (show (m'.set k l).length = N by rw [List.length_set]; exact hml.out)
                    have HMR := hid (show ∀ j (hj : j < (m'.set k l).length), (m'.set k l)[j].length = N + 1 from fun j hj => by
                      rw [List.getElem_set]
                      split
                      · exact hll.out
                      · exact hmr.out j (by rw [List.length_set] at hj; exact hj))
                    clear hst
                    go_wp2_with fail
                    go_roundw
                    case rel => exact ⟨k + 1, _, by omega, by go_num, HM, HML, HMR, hg, hb⟩
                    case measure => simp [intOf]; omega
    · have hlt' : ¬ (k : Int) < (N : Int) := by omega
      have e : k = N := by omega
      subst e
      have HM := hid hc.out
      clear hc
      go_wp2_with fail
      go_ret
      exact ⟨by rw [HM.out]; rfl, fun m2 h2 => (by rw [HM.out] at h2; injection h2 with h2; subst h2; exact ⟨hml.out, hmr.out, hg.out⟩), hb.out⟩
end Go.Proofs.Ytjnphlgmmjdeiaa.SolM
