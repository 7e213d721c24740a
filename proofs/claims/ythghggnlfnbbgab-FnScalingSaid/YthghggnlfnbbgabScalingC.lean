/- The walk of law FnScaling: scaled weights are integers with a common divisor that restores the weights. -/
import Derived.Test.YthghggnlfnbbgabDrawWts
import Derived.Test.YthghggnlfnbbgabScS
import Derived.Test.YthghggnlfnbbgabSmqS
import Derived.Test.YthghggnlfnbbgabEqr
import Derived.Test.YthghggnlfnbbgabBig
import Derived.BigQuiet
import Derived.Deep.QuietTactic
namespace Go.Proofs.Ythghggnlfnbbgab.ScalingC
open Go.RowKit
open Go.Proofs.Ythghggnlfnbbgab.Num Go.Proofs.Ythghggnlfnbbgab.Row Go.Proofs.Ythghggnlfnbbgab.Cur Go.Proofs.Ythghggnlfnbbgab.IntRow Go.Proofs.Ythghggnlfnbbgab.IntLaw Go.Proofs.Ythghggnlfnbbgab.Rat Go.Proofs.Ythghggnlfnbbgab.RatLaw Go.Proofs.Ythghggnlfnbbgab.New Go.Proofs.Ythghggnlfnbbgab.Rdr Go.Proofs.Ythghggnlfnbbgab.HasL Go.Proofs.Ythghggnlfnbbgab.Rats Go.Proofs.Ythghggnlfnbbgab.Wgt Go.Proofs.Ythghggnlfnbbgab.ScP Go.Proofs.Ythghggnlfnbbgab.ScI Go.Proofs.Ythghggnlfnbbgab.ScS Go.Proofs.Ythghggnlfnbbgab.Smq Go.Proofs.Ythghggnlfnbbgab.SmqI Go.Proofs.Ythghggnlfnbbgab.SmqS Go.Proofs.Ythghggnlfnbbgab.Eqr Go.Proofs.Ythghggnlfnbbgab.DrawWts
set_option linter.unusedVariables false

/-- A scaled weight over the common denominator is the weight again. -/
theorem restore {p : RatD} {d : Int} (hw : wt p = true) (h1 : 1 ≤ d) (h2 : d ≤ 1000) (hd : p.2 ∣ d) : nok (p.1 * (d / p.2)) d = true ∧ nx (p.1 * (d / p.2)) d = p.1 ∧ ny (p.1 * (d / p.2)) d = p.2 := by
  obtain ⟨hv, h0⟩ := wt_vr hw
  have hr := vr_true hv
  have hin := zs_in hw h1 h2
  have hm : p.1 * d = p.1 * (d / p.2) * p.2 := by rw [Int.mul_assoc, Int.ediv_mul_cancel hd]
  obtain ⟨e1, e2⟩ := nuniq (n := p.1 * (d / p.2)) (d := d) (by omega) hr.1 hr.2.2.2.2 hm
  refine ⟨?_, e1, e2⟩
  unfold nok
  rw [fits_mk (by omega) (by omega) (by omega) (by omega) (by omega), e1, e2, hv]
  rfl
def Good (xs : List RatD) (Z : List Int) (D : Int) : Prop := (D = 0 ∧ Z = []) ∨ (1 ≤ D ∧ D ≤ 1000 ∧ Z.length = xs.length ∧ ∀ j (h : j < xs.length) (h2 : j < Z.length), nok Z[j] D = true ∧ nx Z[j] D = xs[j].1 ∧ ny Z[j] D = xs[j].2 ∧ 0 ≤ Z[j] ∧ Z[j] ≤ 1000000000000)
theorem good_out (xs : List RatD) : Good xs (outZ xs) (outD xs) := by
  cases h : sc xs xs.length with
  | none => exact .inl ⟨(out_no h).2, (out_no h).1⟩
  | some d =>
    obtain ⟨e1, e2⟩ := out_yes h
    have hin := sc_in xs.length (Nat.le_refl _) h
    have hall := sc_all xs.length (Nat.le_refl _) h
    refine .inr ⟨by rw [e2]; exact hin.1, by rw [e2]; exact hin.2, by rw [e1, zs_len], fun j hj h2 => ?_⟩
    obtain ⟨hw, hdv⟩ := hall j hj hj
    have hr := restore hw hin.1 hin.2 hdv
    have hb := zs_in hw hin.1 hin.2
    simp only [e1, e2, zs_at xs d j (by rw [zs_len]; exact hj) hj]
    exact ⟨hr.1, hr.2.1, hr.2.2, hb.2.2.1, hb.2.2.2⟩

theorem same_ints (a a' : Option Addr) (cap cap' : Nat) (xs : List Int) (B B' : Nat) (w : World) (hn : xs.length ≤ 1048576) (h : Rd w B a xs) (h' : Rd w B' a' xs) (hB : B ≤ w.heap.size) (hB' : B' ≤ w.heap.size) :
    Calls Try.prog 21 #[.slice a xs.length cap, .slice a' xs.length cap'] w fun e w' => e = .returned (.bool true) ∧ Below w.heap.size w w' := by
  go_enter Try.func21, Try.ntmps21
  go_wp2
  go_loopw [5] (fun i wr => ∃ k : Nat, k ≤ xs.length ∧ i = .int .i64 k ∧ Below w.heap.size w wr) (fun i _ => xs.length - (intOf i).toNat)
  case atStart => exact ⟨0, Nat.zero_le _, rfl, Below.refl _ _⟩
  case round =>
    obtain ⟨k, hk, rfl, hb⟩ := hrel
    by_cases hlt : k < xs.length
    · obtain ⟨b, off, rfl, hbB, hc⟩ := (h.below (hb.mono hB)) (by omega)
      obtain ⟨b', off', rfl, hbB', hc'⟩ := (h'.below (hb.mono hB')) (by omega)
      have g := hc k hlt
      have g' := hc' k hlt
      clear hc hc' h h'
      have hlt' : (k : Int) < (xs.length : Int) := by omega
      have h0' : (0 : Int) ≤ (k : Int) := by omega
      go_wp2
      go_quiet (fail)
      go_wp2
      go_roundw
      case rel => exact ⟨k + 1, by omega, by go_num, by exact ⟨hb.os, hb.tape, hb.output, hb.size, hb.block⟩⟩
      case measure => simp [intOf]; omega
    · go_wp2
      go_ret
      exact ⟨rfl, hb⟩

set_option maxRecDepth 100000 in
set_option maxHeartbeats 4000000 in
theorem core (w : World) (sv : Value) (l : List UInt8) (hl : l.length ≤ 1048576) (hc : Cur.Code w w.heap.size sv l) :
    Calls Try.prog 5 #[sv] w fun e w' => e = .returned (.bool true) ∧ Below w.heap.size w w' := by
  have BG := hid (Big.big_code sv l w _ hc hl)
  have DR := hid (draw_scale w sv l hl hc)
  clear hc
  go_enter Try.func5, Try.ntmps5
  go_wp2_with fail
  refine BG.out.mono ?_
  rintro e w' ⟨rfl, rfl⟩
  go_wp2_with fail
  refine DR.out.mono ?_
  rintro e w1 ⟨a, cap, xs, rfl, hx, hel, hb1⟩
  have A1 := hid hel
  have B1 := hid hb1
  have s1 := hb1.size
  have HG := good_out xs
  have IS := hid (fun W (h : Els 2 rRat W 0 W.heap.size a xs) => impl_scale a cap xs 0 _ W (by omega) h (Nat.le_refl _))
  have SS := hid (fun W (h : Els 2 rRat W 0 W.heap.size a xs) => spec_scale a cap xs 0 _ W (by omega) h (Nat.le_refl _))
  have SU := hid (fun W (h : Els 2 rRat W 0 W.heap.size a xs) => spec_sum a cap xs 0 _ W (by omega) h (Nat.le_refl _))
  have IU := hid (fun W (h : Els 2 rRat W 0 W.heap.size a xs) => impl_sum a cap xs 0 _ W (by omega) h (Nat.le_refl _))
  have hzl := outZ_len xs
  unfold Scd at IS SS
  simp only [endQ_any] at SU IU
  generalize outZ xs = Z at *
  generalize outD xs = D at *
  generalize fstQ (sumQ xs) = X at *
  generalize sndQ (sumQ xs) = Y at *
  generalize okQ (sumQ xs) = ok at *
  have hDD : (D != D) = false := by simp
  have hkk : (ok == ok) = true := by simp
  have hXX : (X == X) = true := by simp
  have hYY : (Y == Y) = true := by simp
  clear BG DR hel hb1
  go_wp2_with fail
  refine (IS.out _ A1.out).mono ?_
  rintro e w2 ⟨aG, capG, rfl, hown, hb⟩
  have G2 := hid hown
  have A2 := hid (els_grown A1.out hb)
  have B2 := hid (B1.out.trans (hb.mono s1))
  have s2 := hb.size
  clear hown hb A1 B1
  go_wp2_with fail
  refine (SS.out _ A2.out).mono ?_
  rintro e w3 ⟨aV, capV, rfl, hown, hb⟩
  have V3 := hid hown
  have G3 := hid (G2.out.below' hb)
  have A3 := hid (els_grown A2.out hb)
  have B3 := hid (B2.out.trans (hb.mono (by omega)))
  have s3 := hb.size
  clear hown hb A2 B2 G2 IS SS
  go_wp2_with fail
  refine (same_ints _ _ _ _ Z _ _ _ (by omega) (own_rd G3.out) (own_rd V3.out) (Nat.le_refl _) (Nat.le_refl _)).mono ?_
  rintro e w4 ⟨rfl, hb⟩
  have G4 := hid (own_rd (G3.out.below' hb))
  have A4 := hid (els_grown A3.out hb)
  have B4 := hid (B3.out.trans (hb.mono (by omega)))
  have s4 := hb.size
  clear hb A3 B3 G3 V3
  go_wp2
  go_loopw [8, 9, 10] (fun i _ _ wr => ∃ k : Nat, k ≤ xs.length ∧ i = .int .i64 k ∧ Hid (Below w4.heap.size w4 wr)) (fun i _ _ _ => xs.length - (intOf i).toNat)
  case atStart => exact ⟨0, Nat.zero_le _, rfl, hid (Below.refl _ _)⟩
  case round =>
    obtain ⟨k, hk, rfl, hb⟩ := hrel
    have hsb := hb.out.size
    by_cases hgo : k < xs.length ∧ 0 < D
    · obtain ⟨hlt, hD⟩ := hgo
      rcases HG with ⟨h0, _⟩ | ⟨hD1, hD2, hZL, hall⟩
      · omega
      · have hkz : k < Z.length := by omega
        obtain ⟨r1, r2, r3, r4, r5⟩ := hall k hlt hkz
        obtain ⟨bz, offz, hez, hbz, hcz⟩ := (G4.out.below hb.out) (by omega)
        subst hez
        have gz := hcz k hkz
        have HR := hid (fun W (hW : Below w4.heap.size w4 W) => rats_at (A4.out.grow good_rat hW (Nat.le_refl _)) k hlt)
        have NW := hid (fun W => impl_new Z[k] D W (by omega) (by omega) (by omega) (by omega))
        simp only [r1, r2, r3] at NW
        have hlt' : (k : Int) < (xs.length : Int) := by omega
        have hkz' : (k : Int) < (Z.length : Int) := by omega
        have h0' : (0 : Int) ≤ (k : Int) := by omega
        have q1 : (xs[k].1 == xs[k].1) = true := by simp
        have q2 : (xs[k].2 == xs[k].2) = true := by simp
        clear hall hcz r1 r2 r3
        go_wp2_with fail
        refine (NW.out _).mono ?_
        rintro e w5 ⟨rfl, hb5⟩
        have HB5 := hid (hb.out.trans (hb5.mono hsb))
        have s5 := hb5.size
        have KN := hid (hasl_new w5 [.int .i64 xs[k].1, .int .i64 xs[k].2] 25)
        have HB6 := hid (HB5.out.alloc (by omega) (.cells #[.int .i64 xs[k].1, .int .i64 xs[k].2] 25))
        obtain ⟨b, off, he, _, hbB, c0, c1⟩ := HR.out _ HB6.out
        obtain ⟨n0, n1, n2, n3, n4⟩ := KN.out.two
        subst he
        clear hb5 NW gz HR
        rw [ratEnd_is]
        simp only [rx, if_true]
        go_wp2
        go_quiet (fail)
        go_wp2
        go_roundw
        case rel => exact ⟨k + 1, by omega, by go_num, hid (by exact ⟨HB6.out.os, HB6.out.tape, HB6.out.output, HB6.out.size, HB6.out.block⟩)⟩
        case measure => simp [intOf]; omega
    · have AW := hid (els_grown (A4.out) hb.out)
      have BW := hid (B4.out.trans (hb.out.mono (by omega)))
      have hend : ¬ (k : Int) < (xs.length : Int) ∨ ((k : Int) < (xs.length : Int) ∧ ¬ (0 < D)) := by
        by_cases h : k < xs.length
        · exact .inr ⟨by omega, fun h2 => hgo ⟨h, h2⟩⟩
        · exact .inl (by omega)
      have HE : 0 < D ∨ (¬ 0 < D ∧ ((Z.length : Int) == 0) = true) := by
        rcases HG with ⟨h0, h1⟩ | ⟨hD1, _⟩
        · exact .inr ⟨by omega, by subst h1; rfl⟩
        · exact .inl (by omega)
      clear HG hgo
      rcases hend with hend | ⟨hend, hend2⟩
      all_goals
        go_wp2_with fail
        refine (IU.out _ AW.out).mono ?_
        rintro e w5 ⟨rfl, hb5⟩
        have AW5 := hid (els_grown (els_grown AW.out hb5) ((Below.refl _ _).alloc (Nat.le_refl _) (.cells #[.int .i64 X, .int .i64 Y] 25)))
        have BW5 := hid ((BW.out.trans (hb5.mono BW.out.size)).alloc (by have := BW.out.size; have := hb5.size; omega) (.cells #[.int .i64 X, .int .i64 Y] 25))
        have KN := hid (hasl_new w5 [.int .i64 X, .int .i64 Y] 25)
        clear hb5
        go_wp2_with fail
        refine (SU.out _ AW5.out).mono ?_
        rintro e w6 ⟨rfl, hb6⟩
        have BW6 := hid ((BW5.out.trans (hb6.mono BW5.out.size)).alloc (by have := BW5.out.size; have := hb6.size; omega) (.cells #[.int .i64 X, .int .i64 Y] 25))
        have KM := hid (hasl_new w6 [.int .i64 X, .int .i64 Y] 25)
        have KN2 := hid ((KN.out.below hb6).alloc (.cells #[.int .i64 X, .int .i64 Y] 25))
        obtain ⟨n0, n1, n2, n3, n4⟩ := KN2.out.two
        obtain ⟨m0, m1, m2, m3, m4⟩ := KM.out.two
        clear hb6
        rcases HE with hE | ⟨hE, hE2⟩
        all_goals
          first
            | (exfalso; omega)
            | (go_wp2
               go_ret
               exact ⟨rfl, BW6.out⟩)
end Go.Proofs.Ythghggnlfnbbgab.ScalingC
