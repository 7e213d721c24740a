/- The library's slices.CompactFunc at rows of rows, by slices.Equal: the headers are the call's own, the rows lie elsewhere. -/
import Derived.Test.YtikpgkholhokoaaHds
import Derived.Test.YtikpgkholhokoaaSortS
import Derived.Test.YtikpgkholhokoaaDd
import Derived.Test.YtikpgkholhokoaaLibEqual
import Derived.Lib.SliceRun
import Derived.Deep.RegionHeld3
namespace Go.Proofs.Ytikpgkholhokoaa.Compact
open Go.RowKit
open Go.Proofs.Ytikpgkholhokoaa.Num Go.Proofs.Ytikpgkholhokoaa.IntRow Go.Proofs.Ytikpgkholhokoaa.IntLaw Go.Proofs.Ytikpgkholhokoaa.Grid Go.Proofs.Ytikpgkholhokoaa.GridMore Go.Proofs.Ytikpgkholhokoaa.GridLaw Go.Proofs.Ytikpgkholhokoaa.GridLaw2 Go.Proofs.Ytikpgkholhokoaa.Keep Go.Proofs.Ytikpgkholhokoaa.Kept Go.Proofs.Ytikpgkholhokoaa.Cells Go.Proofs.Ytikpgkholhokoaa.RelKit Go.Proofs.Ytikpgkholhokoaa.GridApp Go.Proofs.Ytikpgkholhokoaa.GridAny Go.Proofs.Ytikpgkholhokoaa.Hds Go.Proofs.Ytikpgkholhokoaa.LibEqual Go.Proofs.Ytikpgkholhokoaa.SortS Go.Proofs.Ytikpgkholhokoaa.Dd
set_option linter.unusedVariables false

theorem own_setCells {lo g n cap : Nat} : ∀ (zs : List Value) (w : World) (k : Nat) (vs : List Value), w.ownsRow lo eR 1 (.slice (some ⟨g, 0, none⟩) n cap) n vs →
    ∃ vs', (w.setCells g k zs).ownsRow lo eR 1 (.slice (some ⟨g, 0, none⟩) n cap) n vs' ∧ (∀ i, i < k → vs'[i]? = vs[i]?) ∧ w.grownBy (w.setCells g k zs) (some g)
  | [], w, k, vs, h => ⟨vs, h, fun i hi => rfl, World.grownBy.refl _ _⟩
  | z :: r, w, k, vs, h => by
    have hst := World.ownsRow.stored h k z
    obtain ⟨vs', h1, h2, h3⟩ := own_setCells r (w.setCell ⟨g, k, none⟩ z) (k + 1) (vs.set k z) hst.1
    refine ⟨vs', h1, fun i hi => ?_, World.grownBy.trans hst.2 h3⟩
    rw [h2 i (by omega), List.getElem?_set_ne (by omega)]
theorem own_cut {w : World} {lo g n cap : Nat} {vs : List Value} (h : w.ownsRow lo eR 1 (.slice (some ⟨g, 0, none⟩) n cap) n vs) (k : Nat) (hk : k ≤ n) : w.ownsRow lo eR 1 (.slice (some ⟨g, 0, none⟩) k cap) k (vs.take k) := by
  have hl := h.1
  rcases h.2 with ⟨e, _⟩ | ⟨g', c, cur, e, hb, hg, hn, hc, hs, ht⟩
  · cases e
  · injection e with e1 e2 e3
    injection e1 with e1
    injection e1 with e1
    subst e1 e3
    refine ⟨by simp; omega, .inr ⟨g, cap, cur, rfl, hb, hg, by omega, hc, hs, ?_⟩⟩
    rw [← ht, List.take_take]
    congr 1
    omega
theorem hs_cut {w : World} {B : Nat} {vs vs' : List Value} {xss : List (List Int)} (h : Hs w B vs xss) (he : ∀ i, i < xss.length → vs'[i]? = vs[i]?) : Hs w B (vs'.take xss.length) xss := by
  refine ⟨?_, fun j hj => ?_⟩
  · rw [List.length_take]
    rcases Nat.eq_zero_or_pos xss.length with h0 | h0
    · omega
    · have h1 := he (xss.length - 1) (by omega)
      rw [show vs[xss.length - 1]? = some (vs[xss.length - 1]'(by rw [h.len]; omega)) from List.getElem?_eq_getElem _] at h1
      have := (List.getElem?_eq_some_iff.1 h1).1
      omega
  · obtain ⟨a, c, h1, h2⟩ := h.row j hj
    exact ⟨a, c, by rw [List.getElem?_take, if_pos hj, he j hj, h1], h2⟩
theorem below_gr {w w' : World} {B g : Nat} (h : w.grownBy w' (some g)) (hB : B ≤ g) (hs : B ≤ w.heap.size) : Below B w w' :=
  (Below.refl B w).grown h hs (fun k hk => by have := Option.some.inj hk; omega)
theorem gr_below {w w' : World} {g : Nat} (h : Below w.heap.size w w') : w.grownBy w' (some g) := ⟨h.os, h.tape, h.output, h.size, fun k hk _ => h.block k hk⟩
theorem eq_c (c : Bool) (a1 a2 : Option Addr) (cap1 cap2 B1 B2 : Nat) (xs ys : List Int) (w : World) (hc : decide (xs = ys) = c) (hn1 : xs.length ≤ 1048576) (hn2 : ys.length ≤ 1048576) (h1 : Rd w B1 a1 xs) (h2 : Rd w B2 a2 ys) (hB1 : B1 ≤ w.heap.size) (hB2 : B2 ≤ w.heap.size) :
    Calls Try.prog 45 #[.slice a1 xs.length cap1, .slice a2 ys.length cap2] w fun e w' => e = .returned (.bool c) ∧ Below w.heap.size w w' := hc ▸ lib_equal a1 a2 _ _ cap1 cap2 B1 B2 xs ys w rfl rfl hn1 hn2 h1 h2 hB1 hB2

set_option maxRecDepth 100000 in
set_option maxHeartbeats 4000000 in
theorem lib_compact (g cap lo B : Nat) (vs : List Value) (ys : List (List Int)) (w : World) (hn : ys.length ≤ 1048576) (hx : ∀ x ∈ ys, x.length ≤ 1048576) (h : w.ownsRow lo eR 1 (.slice (some ⟨g, 0, none⟩) ys.length cap) ys.length vs) (hs : Hs w B vs ys) (hB : B ≤ g) (hcap : ys.length ≤ cap) :
    Calls Try.prog 44 #[.slice (some ⟨g, 0, none⟩) ys.length cap, .func (.func 45) #[] #[]] w fun e w' => ∃ vs', e = .returned (.slice (some ⟨g, 0, none⟩) (dd ys).length cap) ∧ w'.ownsRow lo eR 1 (.slice (some ⟨g, 0, none⟩) (dd ys).length cap) (dd ys).length vs' ∧ Hs w' B vs' (dd ys) ∧ w.grownBy w' (some g) := by
  have hgs : g < w.heap.size := (World.ownsRow.lt h g rfl).2
  obtain ⟨i1, hj, hy0, hy1, hy2⟩ := info_parts GridLaw.info
  have hzv : ∀ w, (zeroValue eR).run Try.prog w = .ok (.slice none 0 0) w := fun w => by
    have hj' : Try.prog.info? eR = some i1 := hj
    simp [zeroValue, typeInfo, hj', hy0]
  have HZ := hid hzv
  have HW := hid h
  have HS := hid hs
  have HX := hid hx
  clear h hs hx hzv
  by_cases h2 : (ys.length : Int) < 2
  · have e := dd_short (l := ys) (by omega)
    rw [e]
    clear e
    go_enter Try.func44, Try.ntmps44
    go_wp2_with fail
    go_ret
    exact ⟨vs, rfl, HW.out, HS.out, World.grownBy.refl _ _⟩
  · obtain ⟨zs, hzs⟩ : ∃ z, dd ys = z := ⟨_, rfl⟩
    rw [hzs]
    have HD := hid hzs
    clear hzs
    go_enter Try.func44, Try.ntmps44
    go_wp2_with fail
    go_loopw [5, 6, 7] (fun i _ _ wr => ∃ k : Nat, 1 ≤ k ∧ k ≤ ys.length ∧ i = .int .i64 k ∧ Hid (dd (ys.take k) = ys.take k) ∧ Hid (Below w.heap.size w wr)) (fun i _ _ _ => ys.length - (intOf i).toNat)
    case atStart => exact ⟨1, Nat.le_refl _, by omega, rfl, hid (dd_one (by omega)), hid (Below.refl _ _)⟩
    case round =>
      obtain ⟨k, hk1, hk, rfl, hd, hb⟩ := hrel
      have hsz := hb.out.size
      by_cases hlt : k < ys.length
      · obtain ⟨j, hj1⟩ : ∃ j, j + 1 = k := ⟨k - 1, by omega⟩
        have hjl : j < ys.length := by omega
        have e3 : (k : Int) - 1 = (j : Int) := by omega
        have hw1 : IntKind.i64.wrap ((k : Int) - 1) = (j : Int) := by rw [IntKind.wrap_i64]; omega
        have hw2 : IntKind.i64.wrap (j : Int) = (j : Int) := by rw [IntKind.wrap_i64]; omega
        have hk0 : (0 : Int) ≤ (k : Int) := by omega
        have hk2 : (k : Int) < (ys.length : Int) := by omega
        have hk3 : (k : Int) ≤ (ys.length : Int) := by omega
        have hj0 : (0 : Int) ≤ (j : Int) := by omega
        have hj2 : (j : Int) < (ys.length : Int) := by omega
        have ho := own_keeps HW.out hb.out
        obtain ⟨ak, ck, v1, r1⟩ := HS.out.row k hlt
        obtain ⟨aj, cj, v2, r2⟩ := HS.out.row j hjl
        obtain ⟨_, eg, hgw, hgc⟩ := at_row ho (by omega)
        injection eg with eg
        injection eg with eg
        subst eg
        have g1 := hgc k _ v1
        have g2 := hgc j _ v2
        have nk : ys[k].length ≤ 1048576 := HX.out _ (List.getElem_mem _)
        have nj : ys[j].length ≤ 1048576 := HX.out _ (List.getElem_mem _)
        have R1 := hid (r1.below (hb.out.mono (by omega)))
        have R2 := hid (r2.below (hb.out.mono (by omega)))
        have hBw : B ≤ wr.heap.size := by omega
        obtain ⟨c, hc⟩ : ∃ c, decide (ys[k] = ys[j]) = c := ⟨_, rfl⟩
        have HC := hid hc
        have hkp := kp_refl wr
        clear hgc v1 v2 r1 r2 hc ho
        go_wp2_with fail
        go_region_held3 (fun w' => w'.cell? ⟨g, k, none⟩ = some (.slice ak ys[k].length ck) ∧ w'.cell? ⟨g, j, none⟩ = some (.slice aj ys[j].length cj) ∧ Kp wr 0 w')
          (first
            | (go_split_ands
               repeat' apply And.intro
               all_goals (first | (with_reducible assumption) | (with_reducible exact cell_drew (by assumption)) | (with_reducible exact Kp.drew (by assumption)) | (with_reducible exact Kp.cell (by assumption) hb1 (by omega) (by assumption)) | (with_reducible exact Kp.call (by assumption) hb1))))
          (first
            | (go_split_ands; go_at_call 45; (with_reducible refine (eq_c c ak aj ck cj B B ys[k] ys[j] _ HC.out nk nj (rd_kp R1.out (by with_reducible assumption) hBw) (rd_kp R2.out (by with_reducible assumption) hBw) (kp_le (by with_reducible assumption) hBw) (kp_le (by with_reducible assumption) hBw)).mono ?_); rintro e wA ⟨rfl, hb1⟩; have HBA := hid (Kp.bel (w := wr) (n := 0) (Kp.call (by with_reducible assumption) hb1))))
        all_goals
          clear hkp g1 g2
          have hsA := HBA.out.size
          replace hb := hid (hb.out.trans (HBA.out.mono hsz))
          cases c with
          | false =>
            have HN := hid (show dd (ys.take (k + 1)) = ys.take (k + 1) from by
              subst hj1
              rw [dd_new j hlt HC.out, hd.out, List.take_succ_eq_append_getElem hlt])
            clear HC hd
            go_wp2_with fail
            go_roundw
            case rel => exact ⟨k + 1, by omega, by omega, by go_num, HN, hb⟩
            case measure => simp [intOf]; omega
          | true =>
            obtain ⟨m, hm⟩ : ∃ m, m + k = ys.length := ⟨ys.length - k, by omega⟩
            have hm0 : 1 ≤ m := by omega
            have hm1 : (1 : Int) ≤ (m : Int) := by omega
            have SF : ∀ W : World, (Instr.sliceAt 24 (.slice (some ⟨g, 0, none⟩) ys.length cap) (some (.int .i64 (k : Int))) none none).run Try.prog W = .ok (.slice (some ⟨g, k, none⟩) m (cap - k)) W := fun W => by
              rw [run_from (P := Try.prog) Try.underlying24 hj hy1 (some ⟨g, 0, none⟩) ys.length cap k (by omega) W, if_neg (by omega), show ys.length - k = m by omega]
              simp [Addr.add_lit]
            have HM := hid hm
            have H1 := hid (show dd (ys.take (k + 1)) = dd (ys.take k) from by
              subst hj1
              exact dd_same j hlt HC.out)
            have HJ := hid hj1
            have hmk : m + k ≤ ys.length := by omega
            clear hm HC hj1
            go_wp2_with fail
            go_loopw [5, 7] (fun i i2 w2 => ∃ (kk k2 : Nat) (vs1 : List Value), i = .int .i64 kk ∧ i2 = .int .i64 k2 ∧ 1 ≤ k2 ∧ k2 ≤ m ∧ kk < k + k2 ∧ Hid (kk = (dd (ys.take (k + k2))).length) ∧ Hid (w2.ownsRow lo eR 1 (.slice (some ⟨g, 0, none⟩) ys.length cap) ys.length vs1) ∧ Hid (Hs w2 B (vs1.take kk) (dd (ys.take (k + k2)))) ∧ Hid (Hs w2 B vs ys) ∧ Hid (∀ i, k + k2 ≤ i + 1 → vs1[i]? = vs[i]?) ∧ Hid (w.grownBy w2 (some g))) (fun _ i2 _ => m - (intOf i2).toNat)
            case atStart =>
              refine ⟨k, 1, vs, rfl, rfl, Nat.le_refl _, hm0, by omega, hid ?_, hid (own_keeps HW.out hb.out), hid ?_, hid (HS.out.below (hb.out.mono (by omega))), hid (fun i _ => rfl), hid (gr_below hb.out)⟩
              · rw [H1.out, hd.out, List.length_take]; omega
              · rw [H1.out, hd.out]
                have e : (ys.take k).length = k := by rw [List.length_take]; omega
                have h1 := HS.out.below (hb.out.mono (show B ≤ w.heap.size by omega))
                refine ⟨by rw [List.length_take, List.length_take, h1.len], fun i hi => ?_⟩
                have hi2 : i < ys.length := by omega
                obtain ⟨a, c, e1, e2⟩ := h1.row i hi2
                refine ⟨a, c, ?_, ?_⟩
                · rw [List.getElem?_take, if_pos (by omega), List.getElem_take]; exact e1
                · rw [List.getElem_take]; exact e2
            case round =>
              obtain ⟨kk, k2, vs1, rfl, rfl, h21, h2m, hkk, hkl, hown, hpre, hrow, hsame, hgr⟩ := hrel
              have hsz2 := hgr.out.size
              clear hb hsA HBA
              by_cases hlt2 : k2 < m
              · obtain ⟨j2, hj21⟩ : ∃ j, j + 1 = k2 := ⟨k2 - 1, by omega⟩
                have hpl : k + k2 < ys.length := by omega
                have hql : k + j2 < ys.length := by omega
                have e4 : (k2 : Int) - 1 = (j2 : Int) := by omega
                have hw3 : IntKind.i64.wrap ((k2 : Int) - 1) = (j2 : Int) := by rw [IntKind.wrap_i64]; omega
                have hw4 : IntKind.i64.wrap (j2 : Int) = (j2 : Int) := by rw [IntKind.wrap_i64]; omega
                have i20 : (0 : Int) ≤ (k2 : Int) := by omega
                have i21 : (k2 : Int) < (m : Int) := by omega
                have i22 : (0 : Int) ≤ (j2 : Int) := by omega
                have i23 : (j2 : Int) < (m : Int) := by omega
                obtain ⟨ap, cp, v1, r1⟩ := hrow.out.row (k + k2) hpl
                obtain ⟨aq, cq, v2, r2⟩ := hrow.out.row (k + j2) hql
                obtain ⟨_, eg, hgw2, hgc⟩ := at_row hown.out (by omega)
                injection eg with eg
                injection eg with eg
                subst eg
                have g1 := hgc (k + k2) _ ((hsame.out _ (by omega)).trans v1)
                have g2 := hgc (k + j2) _ ((hsame.out _ (by omega)).trans v2)
                have np : ys[k + k2].length ≤ 1048576 := HX.out _ (List.getElem_mem _)
                have nq : ys[k + j2].length ≤ 1048576 := HX.out _ (List.getElem_mem _)
                have R1 := hid r1
                have R2 := hid r2
                have hBw2 : B ≤ wr.heap.size := by omega
                obtain ⟨c, hc⟩ : ∃ c, decide (ys[k + k2] = ys[k + j2]) = c := ⟨_, rfl⟩
                have HC := hid hc
                have HV1 := hid v1
                have HJ2 := hid hj21
                have hkp := kp_refl wr
                clear hgc v1 v2 r1 r2 hc hj21
                go_wp2_with fail
                go_region_held3 (fun w' => w'.cell? ⟨g, k + k2, none⟩ = some (.slice ap ys[k + k2].length cp) ∧ w'.cell? ⟨g, k + j2, none⟩ = some (.slice aq ys[k + j2].length cq) ∧ Kp wr 0 w')
                  (first
                    | (go_split_ands
                       repeat' apply And.intro
                       all_goals (first | (with_reducible assumption) | (with_reducible exact cell_drew (by assumption)) | (with_reducible exact Kp.drew (by assumption)) | (with_reducible exact Kp.cell (by assumption) hb1 (by omega) (by assumption)) | (with_reducible exact Kp.call (by assumption) hb1))))
                  (first
                    | (go_split_ands; go_at_call 45; (with_reducible refine (eq_c c ap aq cp cq B B ys[k + k2] ys[k + j2] _ HC.out np nq (rd_kp R1.out (by with_reducible assumption) hBw2) (rd_kp R2.out (by with_reducible assumption) hBw2) (kp_le (by with_reducible assumption) hBw2) (kp_le (by with_reducible assumption) hBw2)).mono ?_); rintro e wB ⟨rfl, hb1⟩; have HBB := hid (Kp.bel (w := wr) (n := 0) (Kp.call (by with_reducible assumption) hb1))))
                all_goals
                  clear hkp g2
                  have hsB := HBB.out.size
                  replace g1 := (HBB.out.cell (p := ⟨g, k + k2, none⟩) hgw2).trans g1
                  replace hown := hid (own_keeps hown.out HBB.out)
                  replace hpre := hid (hpre.out.below (HBB.out.mono hBw2))
                  replace hrow := hid (hrow.out.below (HBB.out.mono hBw2))
                  replace hgr := hid (World.grownBy.trans hgr.out (gr_below HBB.out))
                  cases c with
                  | true =>
                    have HN := hid (show dd (ys.take (k + (k2 + 1))) = dd (ys.take (k + k2)) from by
                      have e := HJ2.out
                      subst e
                      exact dd_same (k + j2) hpl HC.out)
                    clear HC g1
                    go_wp2_with fail
                    go_roundw
                    case rel => exact ⟨kk, k2 + 1, vs1, rfl, by go_num, by omega, by omega, by omega, hid (by rw [HN.out]; exact hkl.out), hown, hid (by rw [HN.out]; exact hpre.out), hrow, hid (fun i hi => hsame.out i (by omega)), hgr⟩
                    case measure => simp [intOf]; omega
                  | false =>
                    have HN := hid (show dd (ys.take (k + (k2 + 1))) = dd (ys.take (k + k2)) ++ [ys[k + k2]] from by
                      have e := HJ2.out
                      subst e
                      exact dd_new (k + j2) hpl HC.out)
                    have hkn : kk < ys.length := by omega
                    have kk0 : (0 : Int) ≤ (kk : Int) := by omega
                    have kk1 : (kk : Int) < (ys.length : Int) := by omega
                    have hst := World.ownsRow.stored hown.out kk (.slice ap ys[k + k2].length cp)
                    have HST := hid hst
                    obtain ⟨u0, gk⟩ : ∃ u, wB.cell? ⟨g, kk, none⟩ = some u := by
                      have h1 := hown.out.1
                      refine ⟨vs1[kk]'(by omega), ?_⟩
                      rw [hown.out.cellAt kk (by omega), List.getElem?_eq_getElem]
                    have fk := hown.out.frozenAt kk
                    have HB5 := hid (below_gr (B := B) HST.out.2 hB (by omega))
                    have HR1 := hid ((R1.out.below (HBB.out.mono hBw2)).below HB5.out)
                    have HP := hid (show Hs (wB.setCell ⟨g, kk, none⟩ (.slice ap ys[k + k2].length cp)) B ((vs1.set kk (.slice ap ys[k + k2].length cp)).take (kk + 1)) (dd (ys.take (k + (k2 + 1)))) from by
                      rw [HN.out]
                      have h1 := (hpre.out.below HB5.out).push cp HR1.out
                      have e : (vs1.set kk (.slice ap ys[k + k2].length cp)).take (kk + 1) = vs1.take kk ++ [.slice ap ys[k + k2].length cp] := by
                        have h2 := hown.out.1
                        rw [List.take_succ_eq_append_getElem (by simp; omega), List.take_set_of_le (Nat.le_refl _), List.getElem_set_self]
                      rw [e]
                      exact h1)
                    clear HC hst
                    go_wp2_with fail
                    go_roundw
                    case rel => exact ⟨kk + 1, k2 + 1, vs1.set kk (.slice ap ys[k + k2].length cp), by go_num, by go_num, by omega, by omega, by omega, hid (by rw [HN.out, List.length_append, ← hkl.out]; rfl), hid HST.out.1, HP, hid (hrow.out.below HB5.out), hid (fun i hi => by rw [List.getElem?_set_ne (by omega)]; exact hsame.out i (by omega)), hid (World.grownBy.trans hgr.out HST.out.2)⟩
                    case measure => simp [intOf]; omega
              · have e : k2 = m := by omega
                subst e
                have hkn : kk < ys.length := by omega
                have kk0 : (0 : Int) ≤ (kk : Int) := by omega
                have kk1 : (kk : Int) ≤ (ys.length : Int) := by omega
                have kk2 : (kk : Int) ≤ (cap : Int) := by omega
                obtain ⟨r, hr⟩ : ∃ r, r + kk = ys.length := ⟨ys.length - kk, by omega⟩
                have S2 : ∀ W : World, (Instr.sliceAt 24 (.slice (some ⟨g, 0, none⟩) ys.length cap) (some (.int .i64 (kk : Int))) none none).run Try.prog W = .ok (.slice (some ⟨g, kk, none⟩) r (cap - kk)) W := fun W => by
                  rw [run_from (P := Try.prog) Try.underlying24 hj hy1 (some ⟨g, 0, none⟩) ys.length cap kk (by omega) W, if_neg (by omega), show ys.length - kk = r by omega]
                  simp [Addr.add_lit]
                have S3 := run_upto (P := Try.prog) Try.underlying24 hj hy1 (some ⟨g, 0, none⟩) ys.length cap kk (by omega)
                have hl1 := hown.out.1
                have hcl : ∀ ty, (Builtin.clear_ #[24] ty #[.slice (some ⟨g, kk, none⟩) r (cap - kk)]).run Try.prog wr = .ok (.tuple #[]) (wr.setCells g kk (List.replicate r (.slice none 0 0))) := fun ty =>
                  Lib.run_clear_slice wr _ _ ty (.slice none 0 0) Try.underlying24 HZ.out rfl rfl g kk r (cap - kk) (by omega)
                    (fun t ht => by rw [hown.out.cellAt (kk + t) (by omega), List.getElem?_eq_getElem (by omega)]; rfl)
                    (fun t ht => hown.out.frozenAt (kk + t))
                obtain ⟨vs2, o1, o2, o3⟩ := own_setCells (List.replicate r (.slice none 0 0)) wr kk vs1 hown.out
                have e5 : k + k2 = ys.length := by have := HM.out; omega
                have hzk : zs.length = kk := by
                  rw [← HD.out]
                  have := hkl.out
                  rw [e5, List.take_length] at this
                  exact this.symm
                have HF := hid (show Hs wr B (vs1.take kk) zs from by
                  have := hpre.out
                  rw [e5, List.take_length, HD.out] at this
                  exact this)
                have HO := hid (own_cut o1 kk (by omega))
                have HB6 := hid (below_gr (B := B) o3 hB (by omega))
                have HP := hid (show Hs (wr.setCells g kk (List.replicate r (.slice none 0 0))) B (vs2.take zs.length) zs from hs_cut (HF.out.below HB6.out) (fun i hi => by rw [o2 i (by omega), List.getElem?_take, if_pos (by omega)]))
                have HG3 := hid (World.grownBy.trans hgr.out o3)
                clear o1 o2 o3 hr e5 hl1
                subst hzk
                go_wp2_with fail
                go_ret
                exact ⟨vs2.take zs.length, rfl, HO.out, HP.out, HG3.out⟩
      · have e : k = ys.length := by omega
        subst e
        have e : ys = zs := by rw [← HD.out]; have := hd.out; rw [List.take_length] at this; exact this.symm
        subst e
        clear hd HD
        go_wp2_with fail
        go_ret
        exact ⟨vs, rfl, own_keeps HW.out hb.out, HS.out.below (hb.out.mono (by omega)), gr_below hb.out⟩
set_option maxRecDepth 100000 in
theorem compact_nil (w : World) : Calls Try.prog 44 #[.slice none 0 0, .func (.func 45) #[] #[]] w fun e w' => e = .returned (.slice none 0 0) ∧ w = w' := by
  go_enter Try.func44, Try.ntmps44
  go_wp2
  go_ret
  exact ⟨rfl, rfl⟩
end Go.Proofs.Ytikpgkholhokoaa.Compact
