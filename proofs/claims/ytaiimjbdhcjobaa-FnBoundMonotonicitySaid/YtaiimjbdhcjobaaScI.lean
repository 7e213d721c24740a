/- Weights brought to a common denominator, the program's function. -/
import Derived.Test.YtaiimjbdhcjobaaScP
import Derived.Test.YtaiimjbdhcjobaaGcd
import Derived.Test.YtaiimjbdhcjobaaIntLaw
import Derived.Test.YtaiimjbdhcjobaaHasL
import Derived.Deep.RegionHeld3
import Derived.Deep.DeepCutAuto
namespace Go.Proofs.Ytaiimjbdhcjobaa.ScI
open Go.RowKit
open Go.Proofs.Ytaiimjbdhcjobaa.Num Go.Proofs.Ytaiimjbdhcjobaa.Rat Go.Proofs.Ytaiimjbdhcjobaa.Gcd Go.Proofs.Ytaiimjbdhcjobaa.IntRow Go.Proofs.Ytaiimjbdhcjobaa.IntLaw Go.Proofs.Ytaiimjbdhcjobaa.Rdr Go.Proofs.Ytaiimjbdhcjobaa.HasL Go.Proofs.Ytaiimjbdhcjobaa.Rats Go.Proofs.Ytaiimjbdhcjobaa.Wgt Go.Proofs.Ytaiimjbdhcjobaa.ScP
set_option linter.unusedVariables false

theorem own_nil (w : World) (base : Nat) (e : TypeId) : Own w base e (.slice none 0 0) [] := World.ownsRow_nil w base e 1
theorem impl_lcm (a b : Int) (w : World) (h1 : 1 ≤ a) (h2 : a ≤ 1000) (h3 : 1 ≤ b) (h4 : b ≤ 1000000000) :
    Calls Try.prog 144 #[.int .i64 a, .int .i64 b] w fun e w' => e = .returned (.int .i64 (lc a b)) ∧ Below w.heap.size w w' := by
  obtain ⟨g1, q1, q2⟩ := quo_in h1 h2 h3
  have hp := mul_in (m := 0) q1 q2 h3 h4
  have G := hid (impl_gcd a b w (by omega) (by omega) (by omega) (by omega))
  have HL := hid (show a / ((Int.gcd a b : Nat) : Int) * b = lc a b from rfl)
  generalize ((Int.gcd a b : Nat) : Int) = g at *
  obtain ⟨q, hq⟩ : ∃ q, a / g = q := ⟨_, rfl⟩
  rw [hq] at q1 q2 hp HL
  have g0 : (g == 0) = false := by simp; omega
  go_enter Try.func144, Try.ntmps144
  go_wp2_with fail
  refine G.out.mono ?_
  rintro e w1 ⟨rfl, hb⟩
  go_wp2
  go_ret
  exact ⟨by rw [← HL.out]; rfl, hb⟩

/-- The two results and where the row lies. -/
def Scd (xs : List RatD) (w : World) (e : Ending) (w' : World) : Prop := ∃ a cap, e = .returned (.tuple #[.slice a (outZ xs).length cap, .int .i64 (outD xs)]) ∧ Own w' w.heap.size 3 (.slice a (outZ xs).length cap) (outZ xs) ∧ Below w.heap.size w w'
theorem scd_no {xs : List RatD} {w w' : World} (h : sc xs xs.length = none) (hb : Below w.heap.size w w') : Scd xs w (.returned (.tuple #[.slice none 0 0, .int .i64 0])) w' := by
  obtain ⟨e1, e2⟩ := out_no h
  unfold Scd
  rw [e1, e2]
  exact ⟨none, 0, rfl, own_nil _ _ _, hb⟩
theorem scd_yes {xs : List RatD} {w w' : World} {d : Int} {a : Option Addr} {cap : Nat} (h : sc xs xs.length = some d) (ho : Own w' w.heap.size 3 (.slice a (zs xs d).length cap) (zs xs d)) (hb : Below w.heap.size w w') : Scd xs w (.returned (.tuple #[.slice a xs.length cap, .int .i64 d])) w' := by
  obtain ⟨e1, e2⟩ := out_yes h
  unfold Scd
  rw [e1, e2]
  exact ⟨a, cap, by rw [zs_len], ho, hb⟩

theorem scd_yes2 {xs : List RatD} {w w' : World} {d : Int} {a : Option Addr} {cap : Nat} (h : sc xs xs.length = some d) (ho : Own w' w.heap.size 3 (.slice a (zs xs d).length cap) (zs xs d)) (hb : Below w.heap.size w w') : Scd xs w (.returned (.tuple #[.slice a (zs xs d).length cap, .int .i64 d])) w' := by
  obtain ⟨e1, e2⟩ := out_yes h
  unfold Scd
  rw [e1, e2]
  exact ⟨a, cap, rfl, ho, hb⟩

set_option maxRecDepth 100000 in
set_option maxHeartbeats 1000000 in
theorem impl_scale (a : Option Addr) (cap : Nat) (xs : List RatD) (lo hi : Nat) (w : World) (hn : xs.length ≤ 1048576) (h : Els 2 rRat w lo hi a xs) (hh : hi ≤ w.heap.size) :
    Calls Try.prog 93 #[.slice a xs.length cap] w (Scd xs w) := by
  obtain ⟨i0, hi0, hz0, hz1, hz2⟩ := info_parts IntLaw.info
  go_enter Try.func93, Try.ntmps93
  go_wp2
  go_loopw [4, 6, 12] (fun s _ i wr => ∃ (k : Nat) (d : Int), k ≤ xs.length ∧ i = .int .i64 k ∧ s = .int .i64 d ∧ 1 ≤ d ∧ d ≤ 1000 ∧ Hid (sc xs k = some d) ∧ Hid (Below w.heap.size w wr)) (fun _ _ i _ => xs.length - (intOf i).toNat)
  case atStart => exact ⟨0, 1, Nat.zero_le _, rfl, rfl, by omega, by omega, hid rfl, hid (Below.refl _ _)⟩
  case round =>
    obtain ⟨k, d, hk, rfl, rfl, hd1, hd2, hsc, hb⟩ := hrel
    by_cases hlt : k < xs.length
    · obtain ⟨b, off, rfl, _, hbB, c0, c1⟩ := rats_at (h.grow good_rat hb.out hh) k hlt
      have hbd := rats_bd h k hlt
      have hlt' : (k : Int) < (xs.length : Int) := by omega
      have h0' : (0 : Int) ≤ (k : Int) := by omega
      have K := hid (hasl_new wr [.int .i64 xs[k].1, .int .i64 xs[k].2] 30)
      have B1 := hid (hb.out.alloc hb.out.size (.cells #[.int .i64 xs[k].1, .int .i64 xs[k].2] 30))
      have V0 := hid (fun W => impl_wt xs[k] W hbd.1 hbd.2)
      obtain ⟨z, hz⟩ : ∃ z, wt xs[k] = z := ⟨_, rfl⟩
      rw [hz] at V0
      obtain ⟨p0, p1, p2, p3, p4⟩ := K.out.two
      cases z with
      | false =>
        have HN := hid (sc_none (sc_w hsc.out hlt hz) (show k + 1 ≤ xs.length by omega))
        clear h hz hbd hsc
        go_wp2_with fail
        refine (V0.out _).mono ?_
        rintro e w1 ⟨rfl, hb1⟩
        have HB := hid (B1.out.trans (hb1.mono B1.out.size))
        clear hb1 p0 p1 p2 p3 p4
        go_wp2
        go_ret2
        exact scd_no HN.out HB.out
      | true =>
        have hv := vr_true (wt_vr hz).1
        have LC := hid (fun W => impl_lcm d xs[k].2 W hd1 hd2 hv.1 hv.2.1)
        have hl := lc_in hd1 hd2 hv.1 hv.2.1
        have HBIG := hid (sc_big hsc.out hlt)
        have HYES := hid (sc_yes hsc.out hlt hz)
        obtain ⟨d', hd'⟩ : ∃ d', lc d xs[k].2 = d' := ⟨_, rfl⟩
        rw [hd'] at LC hl HBIG HYES
        clear h hz hbd hsc hv hd'
        go_wp2_with fail
        refine (V0.out _).mono ?_
        rintro e w1 ⟨rfl, hb1⟩
        have HB := hid (B1.out.trans (hb1.mono B1.out.size))
        clear p0 p1 p2 p3 p4
        obtain ⟨p0, p1, p2, p3, p4⟩ := (K.out.below hb1).two
        clear hb1 V0 B1
        go_wp2_with fail
        refine (LC.out _).mono ?_
        rintro e w2 ⟨rfl, hb2⟩
        have HB2 := hid (HB.out.trans (hb2.mono HB.out.size))
        clear p0 p1 p2 p3 p4 hb2 HB
        by_cases hbig : 1000 < d'
        · have HN := hid (sc_none (HBIG.out hbig) (show k + 1 ≤ xs.length by omega))
          go_wp2
          go_ret2
          exact scd_no HN.out HB2.out
        · have HS := hid (HYES.out (by omega))
          clear HBIG HYES
          go_wp2
          go_roundw
          case rel => exact ⟨k + 1, d', by omega, by go_num, rfl, by omega, by omega, HS, HB2⟩
          case measure => simp [intOf]; omega
    · have e : k = xs.length := by omega
      subst e
      have HALL := hid (sc_all xs.length (Nat.le_refl _) hsc.out)
      have hlt' : ¬ (xs.length : Int) < (xs.length : Int) := by omega
      have hmk := make_ints (P := Try.prog) wr 42 3 i0 Try.underlying42 hi0 hz0 hz1 hz2 xs.length (by omega)
      have hat0 := hid (at_made wr 3 xs.length (by omega))
      have hsb := hb.out.size
      have B1 := hid (hb.out.alloc hsb (.cells (Array.replicate xs.length (.int .i64 0)) 3))
      have hzl := zs_len xs d
      obtain ⟨w5, hw5⟩ : ∃ wo : World, wo = wr := ⟨_, rfl⟩
      subst hw5
      go_wp2
      go_loopw [8, 9, 31] (fun _ _ i wr => ∃ k : Nat, k ≤ xs.length ∧ i = .int .i64 k ∧ Hid (At wr w5.heap.size 3 xs.length (filled (zs xs d) k)) ∧ Hid (Below w.heap.size w wr)) (fun _ _ i _ => xs.length - (intOf i).toNat)
      case atStart => exact ⟨0, Nat.zero_le _, rfl, hid (by rw [filled_zero, zs_len]; exact hat0.out), B1⟩
      case round =>
        obtain ⟨k, hk, rfl, hat, hb2⟩ := hrel
        clear hmk B1 hat0
        have hfl := filled_length (zs xs d) k (by rw [zs_len]; exact hk)
        rw [zs_len] at hfl
        by_cases hlt : k < xs.length
        · obtain ⟨b, off, rfl, _, hbB, c0, c1⟩ := rats_at (h.grow good_rat hb2.out hh) k hlt
          obtain ⟨hw, _⟩ := HALL.out k hlt hlt
          have hv := vr_true (wt_vr hw).1
          have hin := zs_in hw hd1 hd2
          have hza := zs_at xs d k (by rw [zs_len]; exact hlt) hlt
          obtain ⟨q, hq⟩ : ∃ q, d / xs[k].2 = q := ⟨_, rfl⟩
          rw [hq] at hin hza
          obtain ⟨r, hr⟩ : ∃ r, xs[k].1 * q = r := ⟨_, rfl⟩
          rw [hr] at hin hza
          have hlt' : (k : Int) < (xs.length : Int) := by omega
          have h0' : (0 : Int) ≤ (k : Int) := by omega
          have y0 : (xs[k].2 == 0) = false := by simp; omega
          have y1 := hv.1
          have KN := hid (hasl_new wr [.int .i64 xs[k].1, .int .i64 xs[k].2] 30)
          have AT := hid (At.alloc hat.out (.cells #[.int .i64 xs[k].1, .int .i64 xs[k].2] 30))
          have B2 := hid (hb2.out.alloc hb2.out.size (.cells #[.int .i64 xs[k].1, .int .i64 xs[k].2] 30))
          obtain ⟨n0, n1, n2, n3, n4⟩ := KN.out.two
          obtain ⟨u, e1⟩ : ∃ u, (wr.alloc (.cells #[.int .i64 xs[k].1, .int .i64 xs[k].2] 30)).cell? ⟨w5.heap.size, k, none⟩ = some u := ⟨_, AT.out.cell k (by omega)⟩
          have e2 := AT.out.free k
          have hset := hid (AT.out.set k r)
          have hfs := filled_step (zs xs d) k (by rw [zs_len]; exact hlt)
          rw [hza] at hfs
          rw [hfs] at hset
          have HB3 := hid (B2.out.setCell (p := ⟨w5.heap.size, k, none⟩) hsb (.int .i64 r))
          clear hat hfl hfs hza hw hv AT KN hsc HALL
          go_wp2
          go_region
          all_goals
            go_wp2
            go_roundw
            case rel => exact ⟨k + 1, by omega, by go_num, hid (by exact hset.out), hid (by exact ⟨HB3.out.os, HB3.out.tape, HB3.out.output, HB3.out.size, HB3.out.block⟩)⟩
            case measure => simp [intOf]; omega
        · have e : k = xs.length := by omega
          have HA := hat.out
          rw [show k = (zs xs d).length by rw [zs_len]; exact e, filled_all] at HA
          have HA2 := hid HA
          have HS := hid hsc.out
          clear hat HA hfl e
          have hk' : ¬ (k : Int) < (xs.length : Int) := by omega
          go_wp2
          go_ret2
          exact scd_yes HS.out (At.own HA2.out hsb) hb2.out
end Go.Proofs.Ytaiimjbdhcjobaa.ScI
