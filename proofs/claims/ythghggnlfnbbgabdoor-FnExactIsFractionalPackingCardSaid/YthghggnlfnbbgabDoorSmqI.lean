/- The addition of two rationals, as an option; whole numbers. -/
import Derived.Test.YthghggnlfnbbgabDoorSmq
import Derived.Test.YthghggnlfnbbgabDoorOpsImpl
import Derived.Test.YthghggnlfnbbgabDoorOpsSpec
namespace Go.Proofs.YthghggnlfnbbgabDoor.SmqI
open Go.RowKit
open Go.Proofs.YthghggnlfnbbgabDoor.Num Go.Proofs.YthghggnlfnbbgabDoor.IntRow Go.Proofs.YthghggnlfnbbgabDoor.Rdr Go.Proofs.YthghggnlfnbbgabDoor.HasL Go.Proofs.YthghggnlfnbbgabDoor.Rat Go.Proofs.YthghggnlfnbbgabDoor.RatLaw Go.Proofs.YthghggnlfnbbgabDoor.Rats Go.Proofs.YthghggnlfnbbgabDoor.Smq Go.Proofs.YthghggnlfnbbgabDoor.Keep Go.Proofs.YthghggnlfnbbgabDoor.Kept Go.Proofs.YthghggnlfnbbgabDoor.OpsImpl Go.Proofs.YthghggnlfnbbgabDoor.OpsSpec
set_option linter.unusedVariables false

def endQ (o : Option RatD) : Ending := .returned (.tuple #[.agg #[.int .i64 (fstQ o), .int .i64 (sndQ o)], .bool (okQ o)])
theorem endQ_some (p : RatD) : endQ (some p) = .returned (.tuple #[.agg #[.int .i64 p.1, .int .i64 p.2], .bool true]) := rfl
theorem endQ_none : endQ none = .returned (.tuple #[.agg #[.int .i64 0, .int .i64 0], .bool false]) := rfl
theorem impl_addQ (p q : RatD) (w : World) (hp : vr p.1 p.2 = true) (h1 : Ib q.1) (h2 : Ib q.2) : Calls Tryd.prog 43 #[.agg #[.int .i64 p.1, .int .i64 p.2], .agg #[.int .i64 q.1, .int .i64 q.2]] w fun e w' => e = endQ (addQ p q) ∧ Below w.heap.size w w' := by
  have hb := vr_true hp
  by_cases hq : vr q.1 q.2 = true
  · refine (impl_add_yes p.1 p.2 q.1 q.2 w hp hq).mono ?_
    rintro e w' ⟨he, hw⟩
    refine ⟨he.trans ?_, hw⟩
    unfold addQ
    rw [hp, hq, Bool.and_self, if_pos rfl]
    cases hn : nok (p.1 * q.2 + q.1 * p.2) (p.2 * q.2) with
    | true => rw [if_pos rfl]; rfl
    | false => rw [if_neg (by decide)]; rfl
  · have hq' : vr q.1 q.2 = false := by simpa using hq
    refine (impl_add_no p.1 p.2 q.1 q.2 w (by omega) (by omega) h1 h2 (by rw [hq', Bool.and_false])).mono ?_
    rintro e w' ⟨he, hw⟩
    refine ⟨he.trans ?_, hw⟩
    unfold addQ
    rw [hq', Bool.and_false, if_neg (by decide)]
    rfl
theorem spec_addQ (p q : RatD) (w : World) (hp : vr p.1 p.2 = true) (h1 : Ib q.1) (h2 : Ib q.2) : Calls Tryd.prog 37 #[.agg #[.int .i64 p.1, .int .i64 p.2], .agg #[.int .i64 q.1, .int .i64 q.2]] w fun e w' => e = endQ (addQ p q) ∧ Below w.heap.size w w' := by
  have hb := vr_true hp
  by_cases hq : vr q.1 q.2 = true
  · refine (spec_add_yes p.1 p.2 q.1 q.2 w hp hq).mono ?_
    rintro e w' ⟨he, hw⟩
    refine ⟨he.trans ?_, hw⟩
    unfold addQ
    rw [hp, hq, Bool.and_self, if_pos rfl]
    cases hn : nok (p.1 * q.2 + q.1 * p.2) (p.2 * q.2) with
    | true => rw [if_pos rfl]; rfl
    | false => rw [if_neg (by decide)]; rfl
  · have hq' : vr q.1 q.2 = false := by simpa using hq
    refine (spec_add_no p.1 p.2 q.1 q.2 w (by omega) (by omega) h1 h2 (by rw [hq', Bool.and_false])).mono ?_
    rintro e w' ⟨he, hw⟩
    refine ⟨he.trans ?_, hw⟩
    unfold addQ
    rw [hq', Bool.and_false, if_neg (by decide)]
    rfl
theorem whole (n : Int) (w : World) : Calls Tryd.prog 28 #[.int .i64 n] w fun e w' => e = .returned (.agg #[.int .i64 n, .int .i64 1]) ∧ Below w.heap.size w w' := by
  go_enter Tryd.func28, Tryd.ntmps28
  go_wp2
  refine bodyPost_ret (v := .agg #[.int .i64 n, .int .i64 1]) (by simp [results, Tryd.results28, go_sem]) rfl ⟨rfl, ?_⟩
  exact (Below.refl w.heap.size w).alloc (Nat.le_refl _) _
set_option maxRecDepth 100000 in
set_option maxHeartbeats 1000000 in
theorem impl_sum (a : Option Addr) (cap : Nat) (xs : List RatD) (lo hi : Nat) (w : World) (hn : xs.length ≤ 9223372036854775806) (h : Els 2 rRat w lo hi a xs) (hh : hi ≤ w.heap.size) :
    Calls Tryd.prog 24 #[.slice a xs.length cap] w fun e w' => e = endQ (sumQ xs) ∧ Below w.heap.size w w' := by
  have B1 := hid ((Below.refl w.heap.size w).alloc (Nat.le_refl _) (.cells #[.int .i64 0, .int .i64 0] 47))
  have K1 := hid (hasl_new w [.int .i64 0, .int .i64 0] 47)
  go_enter Tryd.func24, Tryd.ntmps24
  go_wp2_with fail
  refine (whole 0 _).mono ?_
  rintro e w1 ⟨rfl, hb1⟩
  have s1 := hb1.size
  simp only [World.size_alloc] at s1
  have HB := hid ((B1.out.trans (hb1.mono (by simp))).alloc (by omega) (.cells #[.int .i64 0, .int .i64 1] 47))
  have K2 := hid ((K1.out.below hb1).alloc (.cells #[.int .i64 0, .int .i64 1] 47))
  have K3 := hid (hasl_new w1 [.int .i64 0, .int .i64 1] 47)
  have hgw : w.heap.size < w1.heap.size := by omega
  clear hb1 B1 K1
  go_wp2_with fail
  go_loopw [6, 7, 8, 12] (fun _ _ _ i wr => ∃ (k : Nat) (p : RatD), k ≤ xs.length ∧ i = .int .i64 k ∧ Hid (sm xs k = some p) ∧ Hid (HasL wr w1.heap.size [.int .i64 p.1, .int .i64 p.2]) ∧ Hid (HasL wr w.heap.size [.int .i64 0, .int .i64 0]) ∧ Hid (Below w.heap.size w wr)) (fun _ _ _ i _ => xs.length - (intOf i).toNat)
  case atStart => exact ⟨0, (0, 1), Nat.zero_le _, rfl, hid rfl, K3, K2, HB⟩
  case round =>
    obtain ⟨k, p, hk, rfl, hsm, kp, kr, hb⟩ := hrel
    clear K2 K3 HB
    by_cases hlt : k < xs.length
    · obtain ⟨b, off, rfl, _, hbB, c0, c1⟩ := rats_at (h.grow good_rat hb.out hh) k hlt
      have hbd := rats_bd h k hlt
      have hst := hid (sm_step hsm.out hlt)
      have A := hid (fun W => impl_addQ p xs[k] W (sm_vr hsm.out) hbd.1 hbd.2)
      have hlt' : (k : Int) < (xs.length : Int) := by omega
      have h0' : (0 : Int) ≤ (k : Int) := by omega
      have hsz := hb.out.size
      have hl1 := kp.out.1
      have P1 := hid (kp.out.alloc (.cells #[.int .i64 xs[k].1, .int .i64 xs[k].2] 47))
      have R1 := hid (kr.out.alloc (.cells #[.int .i64 xs[k].1, .int .i64 xs[k].2] 47))
      have N1 := hid (hasl_new wr [.int .i64 xs[k].1, .int .i64 xs[k].2] 47)
      have B1 := hid (hb.out.alloc hsz (.cells #[.int .i64 xs[k].1, .int .i64 xs[k].2] 47))
      clear h hsm kp kr hb hbd
      obtain ⟨p0, p1, p2, p3, p4⟩ := P1.out.two
      obtain ⟨n0, n1, n2, n3, n4⟩ := N1.out.two
      go_wp2_with fail
      refine (A.out _).mono ?_
      rintro e w2 ⟨rfl, hb2⟩
      have s2 := hb2.size
      simp only [World.size_alloc] at s2
      replace P1 := hid (P1.out.below hb2)
      replace R1 := hid (R1.out.below hb2)
      replace B1 := hid (B1.out.trans (hb2.mono (by (try simp only [World.size_alloc]); omega)))
      clear p0 p1 p2 p3 p4 n0 n1 n2 n3 n4 N1 A c0 c1 hb2
      cases hq : addQ p xs[k] with
      | none =>
        have HN := hid (sm_none (hst.out.trans hq) (show k + 1 ≤ xs.length by omega))
        rw [endQ_none]
        obtain ⟨r0, r1, r2, r3, r4⟩ := (R1.out.alloc (.cells #[.int .i64 0, .int .i64 0] 47)).two
        have HB := hid ((((B1.out.alloc (by omega) (.cells #[.int .i64 0, .int .i64 0] 47)).setCell (p := ⟨w.heap.size, 0, none⟩) (Nat.le_refl _) (.int .i64 0)).setCell (p := ⟨w.heap.size, 1, none⟩) (Nat.le_refl _) (.int .i64 0)))
        have HT := hid (((R1.out.alloc (.cells #[.int .i64 0, .int .i64 0] 47)).put 0 (.int .i64 0)).put 1 (.int .i64 0)).two
        obtain ⟨t0, t1, _, _, _⟩ := HT.out
        clear hst hq
        go_wp2_with fail
        refine bodyPost_ret (v := .tuple #[.agg #[.int .i64 0, .int .i64 0], .bool false]) (by simp [results, Tryd.results24, go_sem, t0, t1]) rfl ⟨by rw [sumQ, HN.out]; rfl, HB.out⟩
      | some r =>
        have HSM := hid (hst.out.trans hq)
        rw [endQ_some]
        have hg2 : w1.heap.size ≠ w2.heap.size := by have := P1.out.1; omega
        obtain ⟨r0, r1, r2, r3, r4⟩ := (P1.out.alloc (.cells #[.int .i64 r.1, .int .i64 r.2] 47)).two
        obtain ⟨q0, q1, q2, q3, q4⟩ := (hasl_new w2 [.int .i64 r.1, .int .i64 r.2] 47).two
        have HP := hid (((P1.out.alloc (.cells #[.int .i64 r.1, .int .i64 r.2] 47)).put 0 (.int .i64 r.1)).put 1 (.int .i64 r.2))
        have HR := hid (((R1.out.alloc (.cells #[.int .i64 r.1, .int .i64 r.2] 47)).far (c := w1.heap.size) (o := 0) (by omega) (.int .i64 r.1)).far (c := w1.heap.size) (o := 1) (by omega) (.int .i64 r.2))
        have HB := hid (((B1.out.alloc (by omega) (.cells #[.int .i64 r.1, .int .i64 r.2] 47)).setCell (p := ⟨w1.heap.size, 0, none⟩) (by show w.heap.size ≤ w1.heap.size; omega) (.int .i64 r.1)).setCell (p := ⟨w1.heap.size, 1, none⟩) (by show w.heap.size ≤ w1.heap.size; omega) (.int .i64 r.2))
        clear hst hq
        go_wp2_with fail
        go_roundw
        case rel => exact ⟨k + 1, r, by omega, by go_num, HSM, HP, HR, HB⟩
        case measure => simp [intOf]; omega
    · have e : k = xs.length := by omega
      subst e
      clear h
      obtain ⟨r0, r1, r2, r3, r4⟩ := kp.out.two
      obtain ⟨q0, q1, q2, q3, q4⟩ := kr.out.two
      have HT := hid ((kr.out.put 0 (.int .i64 p.1)).put 1 (.int .i64 p.2)).two
      obtain ⟨t0, t1, _, _, _⟩ := HT.out
      have HB := hid ((hb.out.setCell (p := ⟨w.heap.size, 0, none⟩) (Nat.le_refl _) (.int .i64 p.1)).setCell (p := ⟨w.heap.size, 1, none⟩) (Nat.le_refl _) (.int .i64 p.2))
      go_wp2_with fail
      refine bodyPost_ret (v := .tuple #[.agg #[.int .i64 p.1, .int .i64 p.2], .bool true]) (by simp [results, Tryd.results24, go_sem, t0, t1]) rfl ⟨by rw [sumQ, hsm.out]; rfl, HB.out⟩
end Go.Proofs.YthghggnlfnbbgabDoor.SmqI
