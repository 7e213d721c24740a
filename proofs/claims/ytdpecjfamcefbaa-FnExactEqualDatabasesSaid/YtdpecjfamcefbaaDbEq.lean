/- The equality of databases, the model's and the program's (spec.EqualDatabases, impl.EqualDatabases). -/
import Derived.Test.YtdpecjfamcefbaaRelEqI
import Derived.Test.YtdpecjfamcefbaaRelEqS
import Derived.Test.YtdpecjfamcefbaaDbP
import Derived.Test.YtdpecjfamcefbaaHasL
import Derived.Test.YtdpecjfamcefbaaLawKit
import Derived.Deep.RegionHeld3
import Derived.Deep.DeepCutAuto
namespace Go.Proofs.Ytdpecjfamcefbaa.DbEq
open Go.RowKit
open Go.Proofs.Ytdpecjfamcefbaa.Num Go.Proofs.Ytdpecjfamcefbaa.IntRow Go.Proofs.Ytdpecjfamcefbaa.Rdr Go.Proofs.Ytdpecjfamcefbaa.Dat Go.Proofs.Ytdpecjfamcefbaa.HasL Go.Proofs.Ytdpecjfamcefbaa.LawKit Go.Proofs.Ytdpecjfamcefbaa.QryP Go.Proofs.Ytdpecjfamcefbaa.RelEqS Go.Proofs.Ytdpecjfamcefbaa.RelEqI Go.Proofs.Ytdpecjfamcefbaa.DbP Go.Proofs.Ytdpecjfamcefbaa.Keep Go.Proofs.Ytdpecjfamcefbaa.Kept
set_option linter.unusedVariables false

theorem impl_eqt (cs ds : List Value) (x y : TableD) (lo hi lo' hi' : Nat) (w : World) (hx : szT x ≤ 1048576) (hy : szT y ≤ 1048576) (h : rTable w lo hi cs x) (h' : rTable w lo' hi' ds y) (hh : hi ≤ w.heap.size) (hh' : hi' ≤ w.heap.size) :
    Calls Try.prog 70 #[.agg cs.toArray, .agg ds.toArray] w fun e w' => e = .returned (.bool (decide (keyT x = keyT y))) ∧ Below w.heap.size w w' := by
  obtain ⟨a, cap, rfl, _, _, hr⟩ := table_open h
  obtain ⟨a', cap', rfl, _, _, hr'⟩ := table_open h'
  obtain ⟨_, hx2, hx3⟩ := rows_le hx
  obtain ⟨_, hy2, hy3⟩ := rows_le hy
  have B2 := hid (((Below.refl w.heap.size w).alloc (Nat.le_refl _) (.cells #[.string x.1, .int .i64 x.2.1, .slice a x.2.2.length cap] 77)).alloc (by simp) (.cells #[.string y.1, .int .i64 y.2.1, .slice a' y.2.2.length cap'] 77))
  have E := hid (impl_eqr x.2.1 y.2.1 a a' x.2.2.length y.2.2.length cap cap' hi hi' x.2.2 y.2.2 _ rfl rfl hx2 hy2 hx3 hy3 ((grd_of hr).below (B2.out.mono hh)) ((grd_of hr').below (B2.out.mono hh')) (by simp; omega) (by simp; omega))
  clear h h' hr hr' hx hy hx3 hy3
  cases he : (x.1.toList == y.1.toList) with
  | false =>
    have hf := hid (show decide (keyT x = keyT y) = false by simpa using kt_name he)
    clear E
    go_enter Try.func70, Try.ntmps70
    go_wp2
    go_ret
    exact ⟨by rw [hf.out]; rfl, B2.out⟩
  | true =>
    have hk := hid (kt_dec he)
    go_enter Try.func70, Try.ntmps70
    go_wp2_with fail
    refine E.out.mono ?_
    rintro e w1 ⟨rfl, hb⟩
    have HB := hid (B2.out.trans (hb.mono (by simp; omega)))
    clear hb
    go_wp2
    go_ret
    exact ⟨by rw [hk.out]; rfl, HB.out⟩

set_option maxRecDepth 100000 in
theorem lib_eqt (a a' : Option Addr) (cap cap' : Nat) (xs ys : List TableD) (lo hi lo' hi' : Nat) (w : World) (hx : tots szT xs ≤ 1048576) (hy : tots szT ys ≤ 1048576)
    (h : Els 3 rTable w lo hi a xs) (h' : Els 3 rTable w lo' hi' a' ys) (hh : hi ≤ w.heap.size) (hh' : hi' ≤ w.heap.size) :
    Calls Try.prog 69 #[.slice a xs.length cap, .slice a' ys.length cap', .func (.func 70) #[] #[]] w fun e w' => e = .returned (.bool (eqTs xs ys)) ∧ Below w.heap.size w w' := by
  have hn1 : xs.length ≤ 1048576 := by have := tots_len szT xs; omega
  have hn2 : ys.length ≤ 1048576 := by have := tots_len szT ys; omega
  by_cases hl : xs.length = ys.length
  · have hne : ((xs.length : Int) != (ys.length : Int)) = false := by simp [hl]
    have HL := hid hl
    have HX := hid (table_le hx)
    have HY := hid (table_le hy)
    have HG := hid h
    have HG' := hid h'
    clear h h' hl hx hy
    go_enter Try.func69, Try.ntmps69
    go_wp2
    go_loopw [7, 8, 9, 17] (fun _ _ _ i wr => ∃ k : Nat, k ≤ xs.length ∧ i = .int .i64 k ∧ Hid (∀ j (h1 : j < xs.length) (h2 : j < ys.length), j < k → keyT xs[j] = keyT ys[j]) ∧ Hid (Below w.heap.size w wr)) (fun _ _ _ i _ => xs.length - (intOf i).toNat)
    case atStart => exact ⟨0, Nat.zero_le _, rfl, hid (fun j _ _ h => by omega), hid (Below.refl _ _)⟩
    case round =>
      obtain ⟨k, hk, rfl, hsame, hb⟩ := hrel
      by_cases hlt : k < xs.length
      · have hlt2 : k < ys.length := by have := HL.out; omega
        obtain ⟨b, off, aj, capj, rfl, _, hbB, c0, c1, c2, rx⟩ := tables_at (HG.out.grow good_table hb.out hh) k hlt
        obtain ⟨b', off', aj', capj', rfl, _, hbB', d0, d1, d2, ry⟩ := tables_at (HG'.out.grow good_table hb.out hh') k hlt2
        have hsz := hb.out.size
        obtain ⟨c, hcc⟩ : ∃ c, decide (keyT xs[k] = keyT ys[k]) = c := ⟨_, rfl⟩
        have B2 := hid (((Below.refl wr.heap.size wr).alloc (Nat.le_refl _) (.cells #[.string xs[k].1, .int .i64 xs[k].2.1, .slice aj xs[k].2.2.length capj] 77)).alloc (by simp) (.cells #[.string ys[k].1, .int .i64 ys[k].2.1, .slice aj' ys[k].2.2.length capj'] 77))
        have E := hid (by
          have := impl_eqt _ _ xs[k] ys[k] lo hi lo' hi' _ (HX.out k hlt) (HY.out k hlt2) (good_table.keep rx (sm_below B2.out (by omega))) (good_table.keep ry (sm_below B2.out (by omega))) (by simp; omega) (by simp; omega)
          rw [hcc] at this
          exact this)
        have HC := hid hcc
        have HB2 := hid (hb.out.trans (B2.out.mono hsz))
        have hbo : b < wr.heap.size := by omega
        have hbo' : b' < wr.heap.size := by omega
        have hlt' : (k : Int) < (xs.length : Int) := by omega
        have hlt2' : (k : Int) < (ys.length : Int) := by omega
        have h0' : (0 : Int) ≤ (k : Int) := by omega
        clear hcc rx ry
        cases c with
        | true =>
          have HS := hid (show ∀ j (h1 : j < xs.length) (h2 : j < ys.length), j < k + 1 → keyT xs[j] = keyT ys[j] from fun j h1 h2 hj => by
            by_cases e : j = k
            · subst e; exact of_decide_eq_true HC.out
            · exact hsame.out j h1 h2 (by omega))
          clear hsame
          go_wp2_with fail
          refine E.out.mono ?_
          rintro e w2 ⟨rfl, hb2⟩
          have HB := hid (HB2.out.trans (hb2.mono (by simp; omega)))
          clear hb2
          go_wp2
          go_roundw
          case rel => exact ⟨k + 1, by omega, by go_num, HS, HB⟩
          case measure => simp [intOf]; omega
        | false =>
          have hf := hid (eqTs_at k hlt hlt2 (of_decide_eq_false HC.out))
          clear hsame
          go_wp2_with fail
          refine E.out.mono ?_
          rintro e w2 ⟨rfl, hb2⟩
          have HB := hid (HB2.out.trans (hb2.mono (by simp; omega)))
          clear hb2
          go_wp2
          go_ret
          exact ⟨by rw [hf.out]; rfl, HB.out⟩
      · have hf := hid (eqTs_all HL.out (fun j h1 h2 => hsame.out j h1 h2 (by omega)))
        clear hsame
        go_wp2
        go_ret
        exact ⟨by rw [hf.out]; rfl, hb.out⟩
  · have hne : ((xs.length : Int) != (ys.length : Int)) = true := by simp only [bne_iff_ne]; omega
    have hf := hid (eqTs_len hl)
    clear h h' hl hx hy
    go_enter Try.func69, Try.ntmps69
    go_wp2
    go_ret
    exact ⟨by rw [hf.out]; rfl, Below.refl _ _⟩

theorem impl_eqd (cs ds : List Value) (x y : List TableD) (lo hi lo' hi' : Nat) (w : World) (hx : szD x ≤ 1048576) (hy : szD y ≤ 1048576) (h : rDb w lo hi cs x) (h' : rDb w lo' hi' ds y) (hh : hi ≤ w.heap.size) (hh' : hi' ≤ w.heap.size) :
    Calls Try.prog 30 #[.agg cs.toArray, .agg ds.toArray] w fun e w' => e = .returned (.bool (eqTs x y)) ∧ Below w.heap.size w w' := by
  obtain ⟨a, cap, rfl, _, ha⟩ := db_open h
  obtain ⟨a', cap', rfl, _, ha'⟩ := db_open h'
  have B2 := hid (((Below.refl w.heap.size w).alloc (Nat.le_refl _) (.cells #[.slice a x.length cap] 29)).alloc (by simp) (.cells #[.slice a' y.length cap'] 29))
  have E := hid (lib_eqt a a' cap cap' x y lo hi lo' hi' _ hx hy (ha.keep good_table (sm_below B2.out hh)) (ha'.keep good_table (sm_below B2.out hh')) (by simp; omega) (by simp; omega))
  clear h h' ha ha' hx hy
  go_enter Try.func30, Try.ntmps30
  go_wp2_with fail
  refine E.out.mono ?_
  rintro e w1 ⟨rfl, hb⟩
  have HB := hid (B2.out.trans (hb.mono (by simp; omega)))
  clear hb
  go_wp2
  go_ret
  exact ⟨rfl, HB.out⟩

set_option maxRecDepth 100000 in
set_option maxHeartbeats 4000000 in
theorem spec_eqd (cs ds : List Value) (x y : List TableD) (lo hi lo' hi' : Nat) (w : World) (hx : szD x ≤ 1048576) (hy : szD y ≤ 1048576) (h : rDb w lo hi cs x) (h' : rDb w lo' hi' ds y) (hh : hi ≤ w.heap.size) (hh' : hi' ≤ w.heap.size) :
    Calls Try.prog 29 #[.agg cs.toArray, .agg ds.toArray] w fun e w' => e = .returned (.bool (eqTs x y)) ∧ Below w.heap.size w w' := by
  obtain ⟨a, cap, rfl, _, ha⟩ := db_open h
  obtain ⟨a', cap', rfl, _, ha'⟩ := db_open h'
  have hxn : x.length ≤ 1048576 := by have := tots_len szT x; unfold szD at hx; omega
  have hyn : y.length ≤ 1048576 := by have := tots_len szT y; unfold szD at hy; omega
  have K1 := hid ((hasl_new w [.slice a x.length cap] 29).alloc (.cells #[.slice a' y.length cap'] 29))
  have K2 := hid (hasl_new (w.alloc (.cells #[.slice a x.length cap] 29)) [.slice a' y.length cap'] 29)
  have B2 := hid (((Below.refl w.heap.size w).alloc (Nat.le_refl _) (.cells #[.slice a x.length cap] 29)).alloc (by simp) (.cells #[.slice a' y.length cap'] 29))
  have HA := hid ha
  have HA' := hid ha'
  have HXL := hid (table_le hx)
  have HYL := hid (table_le hy)
  simp only [World.size_alloc] at K2
  clear h h' ha ha' hx hy
  by_cases h3 : x.length = y.length
  · have t3 : ((x.length : Int) != (y.length : Int)) = false := by simp [h3]
    have H3 := hid h3
    clear h3
    go_enter Try.func29, Try.ntmps29
    go_wp2
    go_loopw [5] (fun i wr => ∃ k : Nat, k ≤ x.length ∧ i = .int .i64 k ∧ Hid (∀ j (h1 : j < x.length) (h2 : j < y.length), j < k → keyT x[j] = keyT y[j]) ∧ Hid (HasL wr w.heap.size [.slice a x.length cap]) ∧ Hid (HasL wr (w.heap.size + 1) [.slice a' y.length cap']) ∧ Hid (Below w.heap.size w wr)) (fun i _ => x.length - (intOf i).toNat)
    case atStart => exact ⟨0, Nat.zero_le _, rfl, hid (fun j _ _ h => by omega), K1, K2, B2⟩
    case round =>
      obtain ⟨k, hk, rfl, hsame, k1, k2, hb⟩ := hrel
      obtain ⟨p1, _, p6⟩ := k1.out.one
      obtain ⟨q1, _, q6⟩ := k2.out.one
      by_cases hlt : k < x.length
      · have hlt2 : k < y.length := by have := H3.out; omega
        obtain ⟨b, off, aj, capj, rfl, _, hbB, c0, c1, c2, rx⟩ := tables_at (HA.out.grow good_table hb.out hh) k hlt
        obtain ⟨b', off', aj', capj', rfl, _, hbB', d0, d1, d2, ry⟩ := tables_at (HA'.out.grow good_table hb.out hh') k hlt2
        have hsz := hb.out.size
        obtain ⟨_, hx2, hx3⟩ := rows_le (HXL.out k hlt)
        obtain ⟨_, hy2, hy3⟩ := rows_le (HYL.out k hlt2)
        have hlt' : (k : Int) < (x.length : Int) := by omega
        have hlt2' : (k : Int) < (y.length : Int) := by omega
        have h0' : (0 : Int) ≤ (k : Int) := by omega
        have hbo : b < wr.heap.size := by omega
        have hbo' : b' < wr.heap.size := by omega
        cases hne : (x[k].1.toList == y[k].1.toList) with
        | false =>
          have hf := hid (eqTs_at k hlt hlt2 (kt_name hne))
          clear rx ry hx3 hy3
          go_wp2
          go_quiet (fail)
          go_wp2
          go_ret
          exact ⟨by rw [hf.out]; rfl, ⟨hb.out.os, hb.out.tape, hb.out.output, hb.out.size, hb.out.block⟩⟩
        | true =>
          have HN := hid hne
          obtain ⟨aa, cc, hcs, _, _, rr⟩ := table_open rx
          obtain ⟨aa', cc', hcs', _, _, rr'⟩ := table_open ry
          simp only [List.cons.injEq, Value.slice.injEq, and_true, true_and] at hcs hcs'
          obtain ⟨rfl, rfl⟩ := hcs
          obtain ⟨rfl, rfl⟩ := hcs'
          obtain ⟨d, hdd⟩ : ∃ d, eqR x[k].2.1 y[k].2.1 x[k].2.2 y[k].2.2 = d := ⟨_, rfl⟩
          have E := hid (fun W (hW : Below wr.heap.size wr W) => by
            have := spec_eqr x[k].2.1 y[k].2.1 aj aj' x[k].2.2.length y[k].2.2.length capj capj' hi hi' x[k].2.2 y[k].2.2 W rfl rfl hx2 hy2 hx3 hy3 ((grd_of rr).below (hW.mono (by omega))) ((grd_of rr').below (hW.mono (by omega))) (by have := hW.size; omega) (by have := hW.size; omega)
            rw [hdd] at this
            exact this)
          have HD := hid hdd
          have hk0 := kp_refl wr
          clear rx ry rr rr' hdd hx3 hy3
          cases d with
          | true =>
            have hs := hid (kt_same HN.out HD.out)
            go_upto_region 6 with fail
            go_cut [48] (fun s wx => s = .bool false ∧ Kp wr 0 wx)
            case first =>
              go_region_held3 (fun w' => w'.cell? ⟨w.heap.size, 0, none⟩ = some (.slice (some ⟨b, off, none⟩) x.length cap) ∧ w'.cell? ⟨w.heap.size + 1, 0, none⟩ = some (.slice (some ⟨b', off', none⟩) y.length cap') ∧ w'.cell? ⟨b, off + k * 3, none⟩ = some (.string x[k].1) ∧ w'.cell? ⟨b, off + k * 3 + 1, none⟩ = some (.int .i64 x[k].2.1) ∧ w'.cell? ⟨b, off + k * 3 + 2, none⟩ = some (.slice aj x[k].2.2.length capj) ∧ w'.cell? ⟨b', off' + k * 3, none⟩ = some (.string y[k].1) ∧ w'.cell? ⟨b', off' + k * 3 + 1, none⟩ = some (.int .i64 y[k].2.1) ∧ w'.cell? ⟨b', off' + k * 3 + 2, none⟩ = some (.slice aj' y[k].2.2.length capj') ∧ Kp wr 0 w')
                (first
                  | (go_split_ands
                     repeat' apply And.intro
                     all_goals (first | (with_reducible assumption) | (with_reducible exact cell_drew (by assumption)) | (with_reducible exact Kp.drew (by assumption)) | (with_reducible exact Kp.cell (by assumption) hb1 (by omega) (by assumption)) | (with_reducible exact Kp.call (by assumption) hb1))))
                (first
                  | (go_split_ands; go_at_call 68; (with_reducible refine (E.out _ (Kp.bel (n := 0) (by with_reducible assumption))).mono ?_); rintro e wU ⟨rfl, hb1⟩))
              all_goals
                go_wp2_with fail
                go_meet
                go_split_ands
                exact ⟨by first | rfl | trivial, by with_reducible assumption⟩
            case rest =>
              obtain ⟨rfl, hkp⟩ := hcut
              have HK1 := hid (k1.out.below hkp.bel)
              have HK2 := hid (k2.out.below hkp.bel)
              have HB := hid (hb.out.trans (hkp.bel.mono hsz))
              have HS := hid (show ∀ j (h1 : j < x.length) (h2 : j < y.length), j < k + 1 → keyT x[j] = keyT y[j] from fun j h1 h2 hj => by
                by_cases e : j = k
                · subst e; exact hs.out
                · exact hsame.out j h1 h2 (by omega))
              clear hkp hk0
              go_wp2
              go_roundw
              case rel => exact ⟨k + 1, by omega, by go_num, HS, HK1, HK2, HB⟩
              case measure => simp [intOf]; omega
          | false =>
            have hf := hid (eqTs_at k hlt hlt2 (kt_rel HD.out))
            go_upto_region 6 with fail
            go_cut [48] (fun s wx => s = .bool true ∧ Kp wr 0 wx)
            case first =>
              go_region_held3 (fun w' => w'.cell? ⟨w.heap.size, 0, none⟩ = some (.slice (some ⟨b, off, none⟩) x.length cap) ∧ w'.cell? ⟨w.heap.size + 1, 0, none⟩ = some (.slice (some ⟨b', off', none⟩) y.length cap') ∧ w'.cell? ⟨b, off + k * 3, none⟩ = some (.string x[k].1) ∧ w'.cell? ⟨b, off + k * 3 + 1, none⟩ = some (.int .i64 x[k].2.1) ∧ w'.cell? ⟨b, off + k * 3 + 2, none⟩ = some (.slice aj x[k].2.2.length capj) ∧ w'.cell? ⟨b', off' + k * 3, none⟩ = some (.string y[k].1) ∧ w'.cell? ⟨b', off' + k * 3 + 1, none⟩ = some (.int .i64 y[k].2.1) ∧ w'.cell? ⟨b', off' + k * 3 + 2, none⟩ = some (.slice aj' y[k].2.2.length capj') ∧ Kp wr 0 w')
                (first
                  | (go_split_ands
                     repeat' apply And.intro
                     all_goals (first | (with_reducible assumption) | (with_reducible exact cell_drew (by assumption)) | (with_reducible exact Kp.drew (by assumption)) | (with_reducible exact Kp.cell (by assumption) hb1 (by omega) (by assumption)) | (with_reducible exact Kp.call (by assumption) hb1))))
                (first
                  | (go_split_ands; go_at_call 68; (with_reducible refine (E.out _ (Kp.bel (n := 0) (by with_reducible assumption))).mono ?_); rintro e wU ⟨rfl, hb1⟩))
              all_goals
                go_wp2_with fail
                go_meet
                go_split_ands
                exact ⟨by first | rfl | trivial, by with_reducible assumption⟩
            case rest =>
              obtain ⟨rfl, hkp⟩ := hcut
              have HB := hid (hb.out.trans (hkp.bel.mono hsz))
              clear hkp hk0
              go_wp2
              go_ret
              exact ⟨by rw [hf.out]; rfl, HB.out⟩
      · have hf := hid (eqTs_all H3.out (fun j h1 h2 => hsame.out j h1 h2 (by omega)))
        go_wp2
        go_ret
        exact ⟨by rw [hf.out]; rfl, hb.out⟩
  · have t3 : ((x.length : Int) != (y.length : Int)) = true := by simp only [bne_iff_ne]; omega
    have hf := hid (eqTs_len h3)
    clear h3
    go_enter Try.func29, Try.ntmps29
    go_wp2
    go_ret
    exact ⟨by rw [hf.out]; rfl, B2.out⟩
end Go.Proofs.Ytdpecjfamcefbaa.DbEq
