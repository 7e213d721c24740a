/- Weights brought to a common denominator, the model's function. -/
import Derived.Test.YtaiimjbdhcjobaaScI
import Derived.Test.YtaiimjbdhcjobaaDrawBig
import Derived.Test.YtaiimjbdhcjobaaKeep
import Derived.Test.YtaiimjbdhcjobaaKept
import Derived.Deep.RegionLaw
namespace Go.Proofs.Ytaiimjbdhcjobaa.ScS
open Go.RowKit
open Go.Proofs.Ytaiimjbdhcjobaa.Num Go.Proofs.Ytaiimjbdhcjobaa.Rat Go.Proofs.Ytaiimjbdhcjobaa.Gcd Go.Proofs.Ytaiimjbdhcjobaa.IntRow Go.Proofs.Ytaiimjbdhcjobaa.IntLaw Go.Proofs.Ytaiimjbdhcjobaa.Rdr Go.Proofs.Ytaiimjbdhcjobaa.HasL Go.Proofs.Ytaiimjbdhcjobaa.OpsSpec Go.Proofs.Ytaiimjbdhcjobaa.Rats Go.Proofs.Ytaiimjbdhcjobaa.Wgt Go.Proofs.Ytaiimjbdhcjobaa.ScP Go.Proofs.Ytaiimjbdhcjobaa.ScI Go.Proofs.Ytaiimjbdhcjobaa.Keep Go.Proofs.Ytaiimjbdhcjobaa.Kept
open Go.Proofs.Ytaiimjbdhcjobaa.DrawBig (step_int)
set_option linter.unusedVariables false

theorem lit_int (w : World) (base : Nat) (e : TypeId) (hb : base ≤ w.heap.size) : Own (w.alloc (.cells #[] e)) base e (.slice (some ⟨w.heap.size, 0, none⟩) 0 0) [] :=
  World.ownsRow_made w #[] 0 hb (by decide) (by decide)
theorem scd_lit {xs : List RatD} {w w' : World} (h : sc xs xs.length = none) (hb : Below w.heap.size w w') : Scd xs w (.returned (.tuple #[.slice (some ⟨w'.heap.size, 0, none⟩) 0 0, .int .i64 0])) (w'.alloc (.cells #[] 3)) := by
  obtain ⟨e1, e2⟩ := out_no h
  unfold Scd
  rw [e1, e2]
  exact ⟨_, 0, rfl, lit_int w' _ _ hb.size, hb.alloc hb.size _⟩
theorem take_zs {xs : List RatD} {d : Int} (k : Nat) (h : k < xs.length) : (zs xs d).take (k + 1) = (zs xs d).take k ++ [xs[k].1 * (d / xs[k].2)] := by
  rw [List.take_succ_eq_append_getElem (by rw [zs_len]; exact h), zs_at xs d k (by rw [zs_len]; exact h) h]

set_option maxRecDepth 100000 in
set_option maxHeartbeats 1000000 in
theorem spec_scale (a : Option Addr) (cap : Nat) (xs : List RatD) (lo hi : Nat) (w : World) (hn : xs.length ≤ 1048576) (h : Els 2 rRat w lo hi a xs) (hh : hi ≤ w.heap.size) :
    Calls Try.prog 96 #[.slice a xs.length cap] w (Scd xs w) := by
  obtain ⟨i0, hi0, hz0, hz1, hz2⟩ := info_parts IntLaw.info
  go_enter Try.func96, Try.ntmps96
  go_wp2
  go_loopw [4, 5] (fun s i wr => ∃ (k : Nat) (d : Int), k ≤ xs.length ∧ i = .int .i64 k ∧ s = .int .i64 d ∧ 1 ≤ d ∧ d ≤ 1000 ∧ Hid (sc xs k = some d) ∧ Hid (Below w.heap.size w wr)) (fun _ i _ => xs.length - (intOf i).toNat)
  case atStart => exact ⟨0, 1, Nat.zero_le _, rfl, rfl, by omega, by omega, hid rfl, hid (Below.refl _ _)⟩
  case round =>
    obtain ⟨k, d, hk, rfl, rfl, hd1, hd2, hsc, hb⟩ := hrel
    by_cases hlt : k < xs.length
    · have hbd := rats_bd h k hlt
      have hlt' : (k : Int) < (xs.length : Int) := by omega
      have h0' : (0 : Int) ≤ (k : Int) := by omega
      have HR := hid (fun W (hW : Below w.heap.size w W) => rats_at (h.grow good_rat hW hh) k hlt)
      obtain ⟨z, hz⟩ : ∃ z, vr xs[k].1 xs[k].2 = z := ⟨_, rfl⟩
      cases z with
      | false =>
        have V := hid (fun W => svalid_no xs[k].1 xs[k].2 W hbd.1 hbd.2 hz)
        have HN := hid (sc_none (sc_w hsc.out hlt (wt_v hz)) (show k + 1 ≤ xs.length by omega))
        obtain ⟨b, off, rfl, _, hbB, c0, c1⟩ := rats_at (h.grow good_rat hb.out hh) k hlt
        clear h hz hbd hsc
        go_wp2_with fail
        refine (V.out _).mono ?_
        rintro e w1 ⟨rfl, hb1⟩
        have HB := hid (hb.out.trans (hb1.mono hb.out.size))
        clear hb1 c0 c1
        go_wp2
        go_ret2
        exact scd_lit HN.out HB.out
      | true =>
        have V := hid (fun W => svalid_yes xs[k].1 xs[k].2 W hz)
        by_cases h1 : xs[k].1 < 0
        · have HN := hid (sc_none (sc_w hsc.out hlt (wt_n h1)) (show k + 1 ≤ xs.length by omega))
          obtain ⟨b, off, he, _, hbB, c0, c1⟩ := HR.out _ hb.out
          subst he
          clear h hz hbd hsc
          go_wp2_with fail
          refine (V.out _).mono ?_
          rintro e w1 ⟨rfl, hb1⟩
          have HB := hid (hb.out.trans (hb1.mono hb.out.size))
          clear hb1 c0 c1
          obtain ⟨b2, off2, he, _, hbB, c0, c1⟩ := HR.out _ HB.out
          obtain ⟨rfl, rfl⟩ : b = b2 ∧ off = off2 := by simpa using he
          go_wp2
          go_ret2
          exact scd_lit HN.out HB.out
        · have hw := wt_yes hz (by omega)
          have hv := vr_true hz
          have hgi := quo_in hd1 hd2 hv.1
          have hmi := mul_in (m := 0) hgi.2.1 hgi.2.2 hv.1 hv.2.1
          have G := hid (fun W => spec_gcd d xs[k].2 W (by omega) (by omega) (by omega) (by omega) (by omega) (by omega))
          have HBIG := hid (sc_big hsc.out hlt)
          have HYES := hid (sc_yes hsc.out hlt hw)
          have hlc : d / ((Int.gcd d xs[k].2 : Nat) : Int) * xs[k].2 = lc d xs[k].2 := rfl
          obtain ⟨d', hd'⟩ : ∃ d', lc d xs[k].2 = d' := ⟨_, rfl⟩
          rw [hd'] at HBIG HYES hlc
          generalize ((Int.gcd d xs[k].2 : Nat) : Int) = g at *
          obtain ⟨q, hq⟩ : ∃ q, d / g = q := ⟨_, rfl⟩
          rw [hq] at hgi hmi hlc
          rw [hlc] at hmi
          obtain ⟨g1, q1, q2⟩ := hgi
          obtain ⟨m1, m2⟩ := hmi
          have g0 : ¬ (g = 0) := by omega
          have w1q : IntKind.i64.wrap (d.tdiv g) = q := by rw [Int.tdiv_eq_ediv_of_nonneg (by omega), hq]; exact IntWalk.i64_in _ (by omega)
          have w2q : IntKind.i64.wrap (q * xs[k].2) = d' := by rw [hlc]; exact IntWalk.i64_in _ (by omega)
          have w3q : IntKind.i64.wrap d' = d' := IntWalk.i64_in _ (by omega)
          obtain ⟨b, off, he, _, hbB, c0, c1⟩ := HR.out _ hb.out
          subst he
          clear h hz hbd hsc hw hv hd'
          go_wp2_with fail
          refine (V.out _).mono ?_
          rintro e w1 ⟨rfl, hb1⟩
          have HB := hid (hb.out.trans (hb1.mono hb.out.size))
          have hsz := HB.out.size
          clear hb1 c0 c1
          obtain ⟨b2, off2, he, _, hbB, c0, c1⟩ := HR.out _ HB.out
          obtain ⟨rfl, rfl⟩ : b = b2 ∧ off = off2 := by simpa using he
          have hk0 := kp_refl w1
          go_upto_region 7 with fail
          go_cut [4] (fun s wx => s = .int .i64 d' ∧ Kp w1 0 wx)
          case first =>
            go_region_held3 (fun w' => w'.cell? ⟨b, off + k * 2, none⟩ = some (.int .i64 xs[k].1) ∧ w'.cell? ⟨b, off + k * 2 + 1, none⟩ = some (.int .i64 xs[k].2) ∧ Kp w1 0 w')
              (first
                | (go_split_ands
                   repeat' apply And.intro
                   all_goals (first | (with_reducible assumption) | (with_reducible exact cell_drew (by assumption)) | (with_reducible exact Kp.drew (by assumption)) | (with_reducible exact Kp.cell (by assumption) hb1 (by omega) (by assumption)) | (with_reducible exact Kp.call (by assumption) hb1))))
              (first
                | (go_split_ands; go_at_call 145; (with_reducible refine (G.out _).mono ?_); rintro e wT ⟨rfl, rfl⟩; have hb1 := Below.refl 0 w1))
            all_goals
              go_wp2_with fail
              go_meet
              go_split_ands
              exact ⟨rfl, by with_reducible assumption⟩
          case rest =>
            obtain ⟨rfl, hkp⟩ := hcut
            have HB2 := hid (HB.out.trans (hkp.bel.mono hsz))
            clear hkp hk0 c0 c1
            by_cases hbig : 1000 < d'
            · have HN := hid (sc_none (HBIG.out hbig) (show k + 1 ≤ xs.length by omega))
              go_wp2
              go_ret2
              exact scd_lit HN.out HB2.out
            · have HS := hid (HYES.out (by omega))
              clear HBIG HYES
              go_wp2
              go_roundw
              case rel => exact ⟨k + 1, d', by omega, by go_num, rfl, by omega, by omega, HS, HB2⟩
              case measure => simp [intOf]; omega
    · have e : k = xs.length := by omega
      subst e
      have HALL := hid (sc_all xs.length (Nat.le_refl _) hsc.out)
      have hlt' : ¬ (xs.length : Int) < (xs.length : Int) := by omega
      have hsb := hb.out.size
      have O0 := hid (lit_int wr w.heap.size 3 hsb)
      have B1 := hid (hb.out.alloc hsb (.cells #[] 3))
      go_wp2
      go_loopw [6, 7] (fun v i wr => ∃ k : Nat, k ≤ xs.length ∧ i = .int .i64 k ∧ Own wr w.heap.size 3 v ((zs xs d).take k) ∧ Hid (Below w.heap.size w wr)) (fun _ i _ => xs.length - (intOf i).toNat)
      case atStart => exact ⟨0, Nat.zero_le _, rfl, O0.out, B1⟩
      case round =>
        obtain ⟨k, hk, rfl, hown, hb2⟩ := hrel
        clear B1 O0
        by_cases hlt : k < xs.length
        · obtain ⟨b, off, rfl, _, hbB, c0, c1⟩ := rats_at (h.grow good_rat hb2.out hh) k hlt
          obtain ⟨hw, _⟩ := HALL.out k hlt hlt
          have hv := vr_true (wt_vr hw).1
          have hin := zs_in hw hd1 hd2
          have htk := hid (take_zs (d := d) k hlt)
          obtain ⟨q, hq⟩ : ∃ q, d / xs[k].2 = q := ⟨_, rfl⟩
          rw [hq] at hin htk
          obtain ⟨r, hr⟩ : ∃ r, xs[k].1 * q = r := ⟨_, rfl⟩
          rw [hr] at hin htk
          obtain ⟨i1, i2, i3, i4⟩ := hin
          have hlt' : (k : Int) < (xs.length : Int) := by omega
          have h0' : (0 : Int) ≤ (k : Int) := by omega
          have y0 : ¬ (xs[k].2 = 0) := by omega
          have w1q : IntKind.i64.wrap (d.tdiv xs[k].2) = q := by rw [Int.tdiv_eq_ediv_of_nonneg (by omega), hq]; exact IntWalk.i64_in _ (by omega)
          have w2q : IntKind.i64.wrap (xs[k].1 * q) = r := by rw [hr]; exact IntWalk.i64_in _ (by omega)
          have w3q : IntKind.i64.wrap r = r := IntWalk.i64_in _ (by omega)
          have y1 := hv.1
          have d0 : wr.drew.cell? ⟨b, off + k * 2, none⟩ = some (.int .i64 xs[k].1) := c0
          have d1 : wr.drew.cell? ⟨b, off + k * 2 + 1, none⟩ = some (.int .i64 xs[k].2) := c1
          have hlen : ((zs xs d).take k).length ≤ k := by simp; omega
          have HO := hid (show Own wr.drew w.heap.size 3 _ ((zs xs d).take k) from hown)
          have hsz2 : w.heap.size ≤ wr.drew.heap.size := hb2.out.size
          have HB2 := hid hb2.out.drew
          have HLT := hid hown.lt
          clear hw hv hsc HALL h hown
          go_wp2
          go_region_law (first
            | (refine step_int rfl _ _ 42 rfl w.heap.size 3 i0 Try.underlying42 hi0 hz0 hz1 hz2 wr.drew _ ((zs xs d).take k) r HO.out (by rfl) hsz2 (by rfl) (by omega) ?_; intro v1 w4 hown4 hgr4))
          all_goals
            have HO4 := hid (htk.out.symm ▸ hown4)
            have HB4 := hid (HB2.out.grown hgr4 hsz2 (fun q hq => (HLT.out q hq).1))
            clear hown4 hgr4
            go_wp2
            go_roundw
            case rel => exact ⟨k + 1, by omega, by go_num, HO4.out, HB4⟩
            case measure => simp [intOf]; omega
        · have e : k = xs.length := by omega
          have hk' : ¬ (k : Int) < (xs.length : Int) := by omega
          have hown2 := hown
          rw [e, List.take_of_length_le (by rw [zs_len]; exact Nat.le_refl _)] at hown2
          obtain ⟨av, capv, hv, _, _, _⟩ := hown2.form
          have HZ := hid (zs_len xs d)
          subst hv
          have HS := hid hsc.out
          have HO := hid hown2
          clear hown hown2 e HALL
          go_wp2
          go_ret2
          exact scd_yes2 HS.out HO.out hb2.out
end Go.Proofs.Ytaiimjbdhcjobaa.ScS
