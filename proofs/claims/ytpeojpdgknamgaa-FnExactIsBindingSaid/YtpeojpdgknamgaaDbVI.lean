/- The test of validity of databases, the program's (impl.IsValidDatabase). -/
import Derived.Test.YtpeojpdgknamgaaRelValidI
import Derived.Test.YtpeojpdgknamgaaDbP
import Derived.Test.YtpeojpdgknamgaaHasL
import Derived.Test.YtpeojpdgknamgaaLawKit
import Derived.IntWalk
import Derived.Laws.Cover1
import Derived.BigQuiet
import Derived.Deep.QuietTactic
namespace Go.Proofs.Ytpeojpdgknamgaa.DbVI
open Go.RowKit
open Go.Proofs.Ytpeojpdgknamgaa.Num Go.Proofs.Ytpeojpdgknamgaa.IntRow Go.Proofs.Ytpeojpdgknamgaa.Rdr Go.Proofs.Ytpeojpdgknamgaa.Dat Go.Proofs.Ytpeojpdgknamgaa.HasL Go.Proofs.Ytpeojpdgknamgaa.Names Go.Proofs.Ytpeojpdgknamgaa.Asc Go.Proofs.Ytpeojpdgknamgaa.RelValidI Go.Proofs.Ytpeojpdgknamgaa.DbP
set_option linter.unusedVariables false

set_option maxRecDepth 100000 in
theorem impl_table (cs : List Value) (x : TableD) (lo hi : Nat) (w : World) (hs : szT x ≤ 1048576) (h : rTable w lo hi cs x) (hh : hi ≤ w.heap.size) :
    Calls Try.prog 74 #[.agg cs.toArray] w fun e w' => e = .returned (.bool (vT x)) ∧ Below w.heap.size w w' := by
  obtain ⟨a, cap, rfl, _, _, hels⟩ := table_open h
  obtain ⟨hz1, hz2, hz3⟩ := rows_le hs
  have B2 := hid (((Below.refl w.heap.size w).alloc (Nat.le_refl _) (.cells #[.string x.1, .int .i64 x.2.1, .slice a x.2.2.length cap] 73)).alloc (by simp) (.cells #[.int .i64 x.2.1, .slice a x.2.2.length cap] 27))
  obtain ⟨ok, hok⟩ : ∃ z, nameOk x.1 = z := ⟨_, rfl⟩
  have N := hid (fun W => impl_name x.1 W hz1)
  rw [hok] at N
  obtain ⟨vr, hvr⟩ : ∃ z, vrel x.2.1 x.2.2 = z := ⟨_, rfl⟩
  have V := hid (fun W (hW : Below w.heap.size w W) => by
    have := impl_valid x.2.1 a x.2.2.length cap hi x.2.2 W rfl hz2 hz3 ((grd_of hels).below (hW.mono hh)) (Nat.le_trans hh hW.size)
    rw [hvr] at this
    exact this)
  have HO := hid hok
  have HV := hid hvr
  clear h hels hs hok hvr hz3
  cases ok with
  | false =>
    have hf := hid (vT_name HO.out)
    go_enter Try.func74, Try.ntmps74
    go_wp2_with fail
    refine (N.out _).mono ?_
    rintro e w1 ⟨rfl, rfl⟩
    go_wp2
    go_ret
    exact ⟨by rw [hf.out]; rfl, B2.out⟩
  | true =>
    by_cases h1 : 1 ≤ x.2.1
    · by_cases h2 : (x.2.2.length : Int) ≤ 16
      · have hf := hid (show vT x = vr by
          cases vr with
          | true => exact vT_yes HO.out h1 (by omega) HV.out
          | false => exact vT_rel HV.out)
        go_enter Try.func74, Try.ntmps74
        go_wp2_with fail
        refine (N.out _).mono ?_
        rintro e w1 ⟨rfl, rfl⟩
        go_wp2_with fail
        refine (V.out _ B2.out).mono ?_
        rintro e w1 ⟨rfl, hb⟩
        have HB := hid (B2.out.trans (hb.mono (by simp; omega)))
        clear hb
        go_wp2
        go_ret
        exact ⟨by rw [hf.out]; rfl, HB.out⟩
      · have hf := hid (vT_len (t := x) (by omega))
        go_enter Try.func74, Try.ntmps74
        go_wp2_with fail
        refine (N.out _).mono ?_
        rintro e w1 ⟨rfl, rfl⟩
        go_wp2
        go_ret
        exact ⟨by rw [hf.out]; rfl, B2.out⟩
    · have hf := hid (vT_ar h1)
      go_enter Try.func74, Try.ntmps74
      go_wp2_with fail
      refine (N.out _).mono ?_
      rintro e w1 ⟨rfl, rfl⟩
      go_wp2
      go_ret
      exact ⟨by rw [hf.out]; rfl, B2.out⟩

set_option maxRecDepth 100000 in
set_option maxHeartbeats 4000000 in
/-- impl.IsValidDatabase at every database of some size. -/
theorem impl_vdb (cs : List Value) (x : List TableD) (lo hi : Nat) (w : World) (hs : szD x ≤ 1048576) (h : rDb w lo hi cs x) (hh : hi ≤ w.heap.size) :
    Calls Try.prog 47 #[.agg cs.toArray] w fun e w' => e = .returned (.bool (vDb x)) ∧ Below w.heap.size w w' := by
  obtain ⟨a, cap, rfl, _, hels⟩ := db_open h
  have K := hid (hasl_new w [.slice a x.length cap] 44)
  have B1 := hid ((Below.refl w.heap.size w).alloc (Nat.le_refl _) (.cells #[.slice a x.length cap] 44))
  have hn1 : x.length ≤ 1048576 := by have := tots_len szT x; unfold szD at hs; omega
  have HS := hid (table_le hs)
  have HE := hid hels
  clear h hels hs
  by_cases h6 : (6 : Int) < (x.length : Int)
  · have hf := hid (vDb_len (ts := x) (by omega))
    go_enter Try.func47, Try.ntmps47
    go_wp2
    go_ret
    exact ⟨by rw [hf.out]; rfl, B1.out⟩
  · have h6' : x.length ≤ 6 := by omega
    go_enter Try.func47, Try.ntmps47
    go_wp2
    go_loopw [3, 4, 12] (fun _ _ i wr => ∃ k : Nat, k ≤ x.length ∧ i = .int .i64 k ∧ Hid (∀ j, j < k → fitT x j = true) ∧ Hid (HasL wr w.heap.size [.slice a x.length cap]) ∧ Hid (Below w.heap.size w wr)) (fun _ _ i _ => x.length - (intOf i).toNat)
    case atStart => exact ⟨0, Nat.zero_le _, rfl, hid (fun j h => by omega), K, B1⟩
    case round =>
      obtain ⟨k, hk, rfl, hall, hbox, hb⟩ := hrel
      by_cases hlt : k < x.length
      · obtain ⟨b, off, aj, capj, rfl, _, hbB, c0, c1, c2, rx⟩ := tables_at (HE.out.grow good_table hb.out hh) k hlt
        obtain ⟨p0, _, p2⟩ := hbox.out.one
        have hsz := hb.out.size
        have hbo : b < wr.heap.size := by omega
        obtain ⟨vt, hvt⟩ : ∃ z, vT x[k] = z := ⟨_, rfl⟩
        have B2 := hid ((Below.refl wr.heap.size wr).alloc (Nat.le_refl _) (.cells #[.string x[k].1, .int .i64 x[k].2.1, .slice aj x[k].2.2.length capj] 73))
        have E := hid (by
          have := impl_table _ x[k] lo hi _ (HS.out k hlt) (good_table.keep rx (sm_below B2.out (by omega))) (by simp; omega)
          rw [hvt] at this
          exact this)
        have HB2 := hid (hb.out.trans (B2.out.mono hsz))
        have HK2 := hid (hbox.out.alloc (.cells #[.string x[k].1, .int .i64 x[k].2.1, .slice aj x[k].2.2.length capj] 73))
        have HT2 := hid (hasl_new wr [.string x[k].1, .int .i64 x[k].2.1, .slice aj x[k].2.2.length capj] 73)
        have HV := hid hvt
        have hlt' : (k : Int) < (x.length : Int) := by omega
        have h0' : (0 : Int) ≤ (k : Int) := by omega
        clear hvt rx
        cases vt with
        | false =>
          have hf := hid (vDb_no k hlt (fit_t k hlt HV.out))
          go_wp2_with fail
          refine E.out.mono ?_
          rintro e w2 ⟨rfl, hb2⟩
          have HB := hid (HB2.out.trans (hb2.mono (by simp; omega)))
          clear hb2
          go_wp2
          go_ret
          exact ⟨by rw [hf.out]; rfl, HB.out⟩
        | true =>
          by_cases hk0 : 0 < k
          · obtain ⟨lb, hlb⟩ : ∃ z, Op.bytesLess (x[k - 1]'(by omega)).1.toList x[k].1.toList = z := ⟨_, rfl⟩
            have HLB := hid hlb
            cases lb with
            | true =>
              have HF := hid (show ∀ j, j < k + 1 → fitT x j = true from fun j hj => by
                by_cases e : j = k
                · subst e; exact fit_yes j hlt HV.out (fun _ => HLB.out)
                · exact hall.out j (by omega))
              clear hlb
              go_wp2_with fail
              refine E.out.mono ?_
              rintro e w2 ⟨rfl, hb2⟩
              have HB := hid (HB2.out.trans (hb2.mono (by simp; omega)))
              have HK := hid (HK2.out.below hb2)
              obtain ⟨q0, _, q2⟩ := HK.out.one
              obtain ⟨r0, r1, r2, _, _, _, r6⟩ := (HT2.out.below hb2).three
              obtain ⟨bp, offp, ap, capp, hep, _, hbp, d0, _, _, _⟩ := tables_at (HE.out.grow good_table HB.out hh) (k - 1) (by omega)
              simp only [Option.some.injEq, Addr.mk.injEq, and_true] at hep
              obtain ⟨rfl, rfl⟩ := hep
              have g1 : decide ((0 : Int) < (k : Int)) = true := by simp; omega
              have g2 : decide (0 < k) = true := by simp; omega
              have hkp : (0 : Int) < (k : Int) := by omega
              have hk1 : (0 : Int) ≤ (k : Int) - 1 := by omega
              have hk2 : (k : Int) - 1 < (x.length : Int) := by omega
              have hk3 : (1 : Int) ≤ (k : Int) := by omega
              have et : ((k : Int) - 1).toNat = k - 1 := by omega
              have ew : IntKind.i64.wrap ((k : Int) - 1) = (k : Int) - 1 := IntWalk.i64_in _ (by omega)
              have hlb := HLB.out
              clear hb2 c0 c1 c2
              go_wp2
              go_quiet (fail)
              clear ew hlb
              go_wp2
              go_roundw
              case rel => exact ⟨k + 1, by omega, by go_num, HF, hid ⟨HK.out.1, HK.out.2⟩, hid ⟨HB.out.os, HB.out.tape, HB.out.output, HB.out.size, HB.out.block⟩⟩
              case measure => simp [intOf]; omega
            | false =>
              have hf := hid (vDb_no k hlt (fit_o k hlt hk0 HLB.out))
              clear hlb
              go_wp2_with fail
              refine E.out.mono ?_
              rintro e w2 ⟨rfl, hb2⟩
              have HB := hid (HB2.out.trans (hb2.mono (by simp; omega)))
              have HK := hid (HK2.out.below hb2)
              obtain ⟨q0, _, q2⟩ := HK.out.one
              obtain ⟨r0, r1, r2, _, _, _, r6⟩ := (HT2.out.below hb2).three
              obtain ⟨bp, offp, ap, capp, hep, _, hbp, d0, _, _, _⟩ := tables_at (HE.out.grow good_table HB.out hh) (k - 1) (by omega)
              simp only [Option.some.injEq, Addr.mk.injEq, and_true] at hep
              obtain ⟨rfl, rfl⟩ := hep
              have g1 : decide ((0 : Int) < (k : Int)) = true := by simp; omega
              have g2 : decide (0 < k) = true := by simp; omega
              have hkp : (0 : Int) < (k : Int) := by omega
              have hk1 : (0 : Int) ≤ (k : Int) - 1 := by omega
              have hk2 : (k : Int) - 1 < (x.length : Int) := by omega
              have hk3 : (1 : Int) ≤ (k : Int) := by omega
              have et : ((k : Int) - 1).toNat = k - 1 := by omega
              have ew : IntKind.i64.wrap ((k : Int) - 1) = (k : Int) - 1 := IntWalk.i64_in _ (by omega)
              have hlb := HLB.out
              clear hb2 c0 c1 c2
              go_wp2
              go_quiet (fail)
              clear ew hlb
              go_wp2
              go_ret
              exact ⟨by rw [hf.out]; rfl, ⟨HB.out.os, HB.out.tape, HB.out.output, HB.out.size, HB.out.block⟩⟩
          · have HF := hid (show ∀ j, j < k + 1 → fitT x j = true from fun j hj => by
              by_cases e : j = k
              · subst e; exact fit_yes j hlt HV.out (fun h => absurd h hk0)
              · exact hall.out j (by omega))
            have g1 : decide ((0 : Int) < (k : Int)) = false := by simp; omega
            have g2 : decide (0 < k) = false := by simp; omega
            go_wp2_with fail
            refine E.out.mono ?_
            rintro e w2 ⟨rfl, hb2⟩
            have HB := hid (HB2.out.trans (hb2.mono (by simp; omega)))
            have HK := hid (HK2.out.below hb2)
            clear hb2 c0 c1 c2
            go_wp2
            go_quiet (fail)
            go_wp2
            go_roundw
            case rel => exact ⟨k + 1, by omega, by go_num, HF, hid ⟨HK.out.1, HK.out.2⟩, hid ⟨HB.out.os, HB.out.tape, HB.out.output, HB.out.size, HB.out.block⟩⟩
            case measure => simp [intOf]; omega
      · have hf := hid (show vDb x = true by rw [vDb_end (fun j hj => hall.out j (by omega))]; simpa using h6')
        go_wp2
        go_ret
        exact ⟨by rw [hf.out]; rfl, hb.out⟩
end Go.Proofs.Ytpeojpdgknamgaa.DbVI
