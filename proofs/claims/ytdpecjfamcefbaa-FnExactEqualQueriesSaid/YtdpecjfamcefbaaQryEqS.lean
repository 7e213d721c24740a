/- The equality of queries, the model's (spec.EqualQueries). -/
import Derived.Test.YtdpecjfamcefbaaQryEq
import Derived.Test.YtdpecjfamcefbaaRowCmpS
import Derived.Test.YtdpecjfamcefbaaAsc
import Derived.Test.YtdpecjfamcefbaaQryP
import Derived.Test.YtdpecjfamcefbaaHasL
import Derived.Test.YtdpecjfamcefbaaLawKit
import Derived.Deep.RegionHeld3
import Derived.Deep.DeepCutAuto
namespace Go.Proofs.Ytdpecjfamcefbaa.QryEqS
open Go.RowKit
open Go.Proofs.Ytdpecjfamcefbaa.Num Go.Proofs.Ytdpecjfamcefbaa.IntRow Go.Proofs.Ytdpecjfamcefbaa.CmpL Go.Proofs.Ytdpecjfamcefbaa.RowCmpS Go.Proofs.Ytdpecjfamcefbaa.Asc Go.Proofs.Ytdpecjfamcefbaa.QryEq Go.Proofs.Ytdpecjfamcefbaa.Rdr Go.Proofs.Ytdpecjfamcefbaa.Dat Go.Proofs.Ytdpecjfamcefbaa.HasL Go.Proofs.Ytdpecjfamcefbaa.LawKit Go.Proofs.Ytdpecjfamcefbaa.QryP Go.Proofs.Ytdpecjfamcefbaa.Keep Go.Proofs.Ytdpecjfamcefbaa.Kept
set_option linter.unusedVariables false

set_option maxRecDepth 100000 in
set_option maxHeartbeats 4000000 in
theorem spec_eqq (cs ds : List Value) (x y : QueryD) (lo hi lo' hi' : Nat) (w : World) (hx : szQ x ≤ 1048576) (hy : szQ y ≤ 1048576) (h : rQuery w lo hi cs x) (h' : rQuery w lo' hi' ds y) (hh : hi ≤ w.heap.size) (hh' : hi' ≤ w.heap.size) :
    Calls Try.prog 42 #[.agg cs.toArray, .agg ds.toArray] w fun e w' => e = .returned (.bool (eqQ x y)) ∧ Below w.heap.size w w' := by
  obtain ⟨a, cap, o, capo, rfl, _, _, ha, ho⟩ := query_open h
  obtain ⟨a', cap', o', capo', rfl, _, _, ha', ho'⟩ := query_open h'
  have hx1 : tots szA x.2.1 ≤ 1048576 := by unfold szQ at hx; omega
  have hx2 : x.2.2.length ≤ 1048576 := by unfold szQ at hx; omega
  have hy1 : tots szA y.2.1 ≤ 1048576 := by unfold szQ at hy; omega
  have hy2 : y.2.2.length ≤ 1048576 := by unfold szQ at hy; omega
  have hxl := tots_len szA x.2.1
  have hyl := tots_len szA y.2.1
  have K1 := hid ((hasl_new w [.int .i64 x.1, .slice a x.2.1.length cap, .slice o x.2.2.length capo] 57).alloc (.cells #[.int .i64 y.1, .slice a' y.2.1.length cap', .slice o' y.2.2.length capo'] 57))
  have K2 := hid (hasl_new (w.alloc (.cells #[.int .i64 x.1, .slice a x.2.1.length cap, .slice o x.2.2.length capo] 57)) [.int .i64 y.1, .slice a' y.2.1.length cap', .slice o' y.2.2.length capo'] 57)
  have B2 := hid (((Below.refl w.heap.size w).alloc (Nat.le_refl _) (.cells #[.int .i64 x.1, .slice a x.2.1.length cap, .slice o x.2.2.length capo] 57)).alloc (by simp) (.cells #[.int .i64 y.1, .slice a' y.2.1.length cap', .slice o' y.2.2.length capo'] 57))
  obtain ⟨c, hcc⟩ : ∃ c, cmpL x.2.2 y.2.2 = c := ⟨_, rfl⟩
  have E := hid (by
    have := spec_cmp o o' capo capo' hi hi' x.2.2 y.2.2 _ hx2 hy2 ((rd_of ho).below (B2.out.mono hh)) ((rd_of ho').below (B2.out.mono hh')) (by simp; omega) (by simp; omega)
    rw [hcc] at this
    exact this)
  have HA := hid ha
  have HA' := hid ha'
  have hxn : x.2.1.length ≤ 1048576 := by omega
  have hyn : y.2.1.length ≤ 1048576 := by omega
  have HXL := hid (atom_le hx1)
  have HYL := hid (atom_le hy1)
  simp only [World.size_alloc] at K2
  clear h h' ha ha' ho ho' hx hy hxl hyl hx1 hx2 hy1 hy2
  by_cases h1 : x.1 = y.1
  · have t1 : (x.1 != y.1) = false := by simp [h1]
    have H1 := hid h1
    clear h1
    by_cases h2 : c = 0
    · have t2 : (c != 0) = false := by simp [h2]
      have H2 := hid (cmpL_zero (hcc.trans h2))
      clear h2 hcc
      by_cases h3 : x.2.1.length = y.2.1.length
      · have t3 : ((x.2.1.length : Int) != (y.2.1.length : Int)) = false := by simp [h3]
        have H3 := hid h3
        clear h3
        go_enter Try.func42, Try.ntmps42
        go_wp2_with fail
        refine E.out.mono ?_
        rintro e w1 ⟨rfl, hb⟩
        have HB := hid (B2.out.trans (hb.mono (by simp; omega)))
        have P1 := hid (K1.out.below hb)
        have P2 := hid (K2.out.below hb)
        obtain ⟨_, p1, _, _, _, _, _⟩ := P1.out.three
        obtain ⟨_, q1, _, _, _, _, _⟩ := P2.out.three
        clear hb E K1 K2
        go_wp2
        clear p1 q1
        go_loopw [5] (fun i wr => ∃ k : Nat, k ≤ x.2.1.length ∧ i = .int .i64 k ∧ Hid (∀ j (h1 : j < x.2.1.length) (h2 : j < y.2.1.length), j < k → keyA x.2.1[j] = keyA y.2.1[j]) ∧ Hid (HasL wr w.heap.size [.int .i64 x.1, .slice a x.2.1.length cap, .slice o x.2.2.length capo]) ∧ Hid (HasL wr (w.heap.size + 1) [.int .i64 y.1, .slice a' y.2.1.length cap', .slice o' y.2.2.length capo']) ∧ Hid (Below w.heap.size w wr)) (fun i _ => x.2.1.length - (intOf i).toNat)
        case atStart => exact ⟨0, Nat.zero_le _, rfl, hid (fun j _ _ h => by omega), P1, P2, HB⟩
        case round =>
          obtain ⟨k, hk, rfl, hsame, k1, k2, hb⟩ := hrel
          obtain ⟨_, p1, _, _, _, _, p6⟩ := k1.out.three
          obtain ⟨_, q1, _, _, _, _, q6⟩ := k2.out.three
          by_cases hlt : k < x.2.1.length
          · have hlt2 : k < y.2.1.length := by have := H3.out; omega
            obtain ⟨b, off, aj, capj, rfl, _, hbB, c0, c1, rx⟩ := atoms_at (HA.out.grow good_atom hb.out hh) k hlt
            obtain ⟨b', off', aj', capj', rfl, _, hbB', d0, d1, ry⟩ := atoms_at (HA'.out.grow good_atom hb.out hh') k hlt2
            have hsz := hb.out.size
            have hxk := HXL.out k hlt
            have hyk := HYL.out k hlt2
            have hlt' : (k : Int) < (x.2.1.length : Int) := by omega
            have hlt2' : (k : Int) < (y.2.1.length : Int) := by omega
            have h0' : (0 : Int) ≤ (k : Int) := by omega
            have hbo : b < wr.heap.size := by omega
            have hbo' : b' < wr.heap.size := by omega
            cases hne : (x.2.1[k].1.toList == y.2.1[k].1.toList) with
            | false =>
              have hne2 : (x.2.1[k].1.toList != y.2.1[k].1.toList) = true := bne_of hne
              have hf := hid (show eqQ x y = false by simp [eqQ, eqAs_at k hlt hlt2 (key_name hne)])
              clear rx ry
              go_wp2
              go_quiet (fail)
              go_wp2
              go_ret
              exact ⟨by rw [hf.out]; rfl, ⟨hb.out.os, hb.out.tape, hb.out.output, hb.out.size, hb.out.block⟩⟩
            | true =>
              have hne2 : (x.2.1[k].1.toList != y.2.1[k].1.toList) = false := bne_of hne
              have HN := hid hne
              obtain ⟨aa, cc, hcs, _, _, rr⟩ := atom_open rx
              obtain ⟨aa', cc', hcs', _, _, rr'⟩ := atom_open ry
              simp only [List.cons.injEq, Value.slice.injEq, and_true, true_and] at hcs hcs'
              obtain ⟨rfl, rfl⟩ := hcs
              obtain ⟨rfl, rfl⟩ := hcs'
              obtain ⟨d, hdd⟩ : ∃ d, cmpL x.2.1[k].2 y.2.1[k].2 = d := ⟨_, rfl⟩
              have E := hid (fun W (hW : Below wr.heap.size wr W) => by
                have := spec_cmp aj aj' capj capj' hi hi' x.2.1[k].2 y.2.1[k].2 W hxk hyk ((rd_of rr).below (hW.mono (by omega))) ((rd_of rr').below (hW.mono (by omega))) (by have := hW.size; omega) (by have := hW.size; omega)
                rw [hdd] at this
                exact this)
              have HD := hid hdd
              have hk0 := kp_refl wr
              clear rx ry rr rr' hdd
              by_cases h0 : d = 0
              · have ht : (d != 0) = false := by simp [h0]
                have hs := hid (key_same HN.out (cmpL_zero (HD.out.trans h0)))
                clear h0
                go_upto_region 6 with fail
                go_cut [63] (fun s wx => s = .bool false ∧ Kp wr 0 wx)
                case first =>
                  go_region_held3 (fun w' => w'.cell? ⟨w.heap.size, 1, none⟩ = some (.slice (some ⟨b, off, none⟩) x.2.1.length cap) ∧ w'.cell? ⟨w.heap.size + 1, 1, none⟩ = some (.slice (some ⟨b', off', none⟩) y.2.1.length cap') ∧ w'.cell? ⟨b, off + k * 2, none⟩ = some (.string x.2.1[k].1) ∧ w'.cell? ⟨b, off + k * 2 + 1, none⟩ = some (.slice aj x.2.1[k].2.length capj) ∧ w'.cell? ⟨b', off' + k * 2, none⟩ = some (.string y.2.1[k].1) ∧ w'.cell? ⟨b', off' + k * 2 + 1, none⟩ = some (.slice aj' y.2.1[k].2.length capj') ∧ Kp wr 0 w')
                    (first
                      | (go_split_ands
                         repeat' apply And.intro
                         all_goals (first | (with_reducible assumption) | (with_reducible exact cell_drew (by assumption)) | (with_reducible exact Kp.drew (by assumption)) | (with_reducible exact Kp.cell (by assumption) hb1 (by omega) (by assumption)) | (with_reducible exact Kp.call (by assumption) hb1))))
                    (first
                      | (go_split_ands; go_at_call 86; (with_reducible refine (E.out _ (Kp.bel (n := 0) (by with_reducible assumption))).mono ?_); rintro e wU ⟨rfl, hb1⟩))
                  all_goals
                    go_wp2_with fail
                    go_meet
                    go_split_ands
                    exact ⟨by first | rfl | trivial, by with_reducible assumption⟩
                case rest =>
                  obtain ⟨rfl, hkp⟩ := hcut
                  have HK1 := hid (k1.out.below hkp.bel)
                  have HK2 := hid (k2.out.below hkp.bel)
                  have HB := hid (hb.out.trans (hkp.bel.mono hsz))
                  have HS := hid (show ∀ j (h1 : j < x.2.1.length) (h2 : j < y.2.1.length), j < k + 1 → keyA x.2.1[j] = keyA y.2.1[j] from fun j h1 h2 hj => by
                    by_cases e : j = k
                    · subst e; exact hs.out
                    · exact hsame.out j h1 h2 (by omega))
                  clear hkp hk0
                  go_wp2
                  go_roundw
                  case rel => exact ⟨k + 1, by omega, by go_num, HS, HK1, HK2, HB⟩
                  case measure => simp [intOf]; omega
              · have ht : (d != 0) = true := by simp [h0]
                have hf := hid (show eqQ x y = false by
                  have := eqAs_at k hlt hlt2 (key_vars (x := x.2.1[k]) (y := y.2.1[k]) (fun e => h0 (by rw [← HD.out, e]; exact cmpL_self _)))
                  simp [eqQ, this])
                clear h0
                go_upto_region 6 with fail
                go_cut [63] (fun s wx => s = .bool true ∧ Kp wr 0 wx)
                case first =>
                  go_region_held3 (fun w' => w'.cell? ⟨w.heap.size, 1, none⟩ = some (.slice (some ⟨b, off, none⟩) x.2.1.length cap) ∧ w'.cell? ⟨w.heap.size + 1, 1, none⟩ = some (.slice (some ⟨b', off', none⟩) y.2.1.length cap') ∧ w'.cell? ⟨b, off + k * 2, none⟩ = some (.string x.2.1[k].1) ∧ w'.cell? ⟨b, off + k * 2 + 1, none⟩ = some (.slice aj x.2.1[k].2.length capj) ∧ w'.cell? ⟨b', off' + k * 2, none⟩ = some (.string y.2.1[k].1) ∧ w'.cell? ⟨b', off' + k * 2 + 1, none⟩ = some (.slice aj' y.2.1[k].2.length capj') ∧ Kp wr 0 w')
                    (first
                      | (go_split_ands
                         repeat' apply And.intro
                         all_goals (first | (with_reducible assumption) | (with_reducible exact cell_drew (by assumption)) | (with_reducible exact Kp.drew (by assumption)) | (with_reducible exact Kp.cell (by assumption) hb1 (by omega) (by assumption)) | (with_reducible exact Kp.call (by assumption) hb1))))
                    (first
                      | (go_split_ands; go_at_call 86; (with_reducible refine (E.out _ (Kp.bel (n := 0) (by with_reducible assumption))).mono ?_); rintro e wU ⟨rfl, hb1⟩))
                  all_goals
                    go_wp2_with fail
                    go_meet
                    go_split_ands
                    exact ⟨by first | rfl | trivial, by with_reducible assumption⟩
                case rest =>
                  obtain ⟨rfl, hkp⟩ := hcut
                  have HB := hid (hb.out.trans (hkp.bel.mono hsz))
                  clear hkp hk0
                  go_wp2
                  go_ret
                  exact ⟨by rw [hf.out]; rfl, HB.out⟩
          · have hf := hid (show eqQ x y = true by
              have := eqAs_all H3.out (fun j h1 h2 => hsame.out j h1 h2 (by omega))
              simp [eqQ, H1.out, H2.out, this])
            go_wp2
            go_ret
            exact ⟨by rw [hf.out]; rfl, hb.out⟩
      · have t3 : ((x.2.1.length : Int) != (y.2.1.length : Int)) = true := by simp only [bne_iff_ne]; omega
        have hf := hid (show eqQ x y = false by simp [eqQ, eqAs_len h3])
        clear h3
        go_enter Try.func42, Try.ntmps42
        go_wp2_with fail
        refine E.out.mono ?_
        rintro e w1 ⟨rfl, hb⟩
        have HB := hid (B2.out.trans (hb.mono (by simp; omega)))
        obtain ⟨_, p1, _, _, _, _, _⟩ := (K1.out.below hb).three
        obtain ⟨_, q1, _, _, _, _, _⟩ := (K2.out.below hb).three
        clear hb E K1 K2
        go_wp2
        go_ret
        exact ⟨by rw [hf.out]; rfl, HB.out⟩
    · have t2 : (c != 0) = true := by simp [h2]
      have hf := hid (show eqQ x y = false by
        have : x.2.2 ≠ y.2.2 := fun e => h2 (by rw [← hcc, e]; exact cmpL_self _)
        simp [eqQ, this])
      clear h2 hcc
      go_enter Try.func42, Try.ntmps42
      go_wp2_with fail
      refine E.out.mono ?_
      rintro e w1 ⟨rfl, hb⟩
      have HB := hid (B2.out.trans (hb.mono (by simp; omega)))
      clear hb E K1 K2
      go_wp2
      go_ret
      exact ⟨by rw [hf.out]; rfl, HB.out⟩
  · have t1 : (x.1 != y.1) = true := by simp [h1]
    have hf := hid (show eqQ x y = false by simp [eqQ, h1])
    clear h1 hcc
    go_enter Try.func42, Try.ntmps42
    go_wp2
    go_ret
    exact ⟨by rw [hf.out]; rfl, B2.out⟩
end Go.Proofs.Ytdpecjfamcefbaa.QryEqS
