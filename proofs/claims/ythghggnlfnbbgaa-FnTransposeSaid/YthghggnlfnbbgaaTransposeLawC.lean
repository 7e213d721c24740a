/- The walk of law FnTranspose: transposing twice restores a matrix, and the product of two vectors does not depend on their order. -/
import Derived.Test.YthghggnlfnbbgaaDraw13
import Derived.Test.YthghggnlfnbbgaaTrP
import Derived.Test.YthghggnlfnbbgaaEqr
import Derived.Test.YthghggnlfnbbgaaBig
import Derived.Deep.RegionHeld3
import Derived.Deep.DeepCutAuto
namespace Go.Proofs.Ythghggnlfnbbgaa.TransposeLawC
open Go.RowKit
open Go.Proofs.Ythghggnlfnbbgaa.Num Go.Proofs.Ythghggnlfnbbgaa.Row Go.Proofs.Ythghggnlfnbbgaa.Cur Go.Proofs.Ythghggnlfnbbgaa.IntRow Go.Proofs.Ythghggnlfnbbgaa.Rat Go.Proofs.Ythghggnlfnbbgaa.RatLaw Go.Proofs.Ythghggnlfnbbgaa.Rdr Go.Proofs.Ythghggnlfnbbgaa.HasL Go.Proofs.Ythghggnlfnbbgaa.Rats Go.Proofs.Ythghggnlfnbbgaa.RatRow Go.Proofs.Ythghggnlfnbbgaa.RatOwn Go.Proofs.Ythghggnlfnbbgaa.GridQ Go.Proofs.Ythghggnlfnbbgaa.RatsSS Go.Proofs.Ythghggnlfnbbgaa.Smq Go.Proofs.Ythghggnlfnbbgaa.SmqI Go.Proofs.Ythghggnlfnbbgaa.Qops Go.Proofs.Ythghggnlfnbbgaa.LinP Go.Proofs.Ythghggnlfnbbgaa.Dot Go.Proofs.Ythghggnlfnbbgaa.Mtr Go.Proofs.Ythghggnlfnbbgaa.TrP Go.Proofs.Ythghggnlfnbbgaa.Draw13 Go.Proofs.Ythghggnlfnbbgaa.Eqr Go.Proofs.Ythghggnlfnbbgaa.Keep Go.Proofs.Ythghggnlfnbbgaa.Kept Go.Proofs.Ythghggnlfnbbgaa.Cells
set_option linter.unusedVariables false

set_option maxRecDepth 100000 in
set_option maxHeartbeats 4000000 in
theorem core (w : World) (sv : Value) (l : List UInt8) (hl : l.length ≤ 1048576) (hc : Cur.Code w w.heap.size sv l) :
    Calls Try.prog 7 #[sv] w fun e w' => e = .returned (.bool true) ∧ Below w.heap.size w w' := by
  have BG := hid (Big.big_code sv l w _ hc hl)
  have DR := hid (draw_tr w sv l hl hc)
  have DD := hid (fun W (hW : Below w.heap.size w W) => draw_dot W sv l hl ((hc.below hW (Nat.le_refl _)).higher hW.size))
  clear hc
  go_enter Try.func7, Try.ntmps7
  go_wp2_with fail
  with_reducible refine BG.out.mono ?_
  rintro e w' ⟨rfl, rfl⟩
  go_wp2_with fail
  with_reducible refine DR.out.mono ?_
  rintro e w1 ⟨a, cap, xss, rfl, hx, hrw, hel, hb1⟩
  have M := hid (fun W (h : Below w1.heap.size w1 W) => (hel.keep good_row2 (sm_below h (Nat.le_refl _))).up good_row2 (Nat.le_refl _) h.size)
  have B := hid hb1
  have s1 := hb1.size
  have hx6 : xss.length ≤ 1048576 := by omega
  have HR := hid (fun j (hj : j < xss.length) => show xss[j].length ≤ 1048576 by have := hrw j hj; omega)
  have HTR := hid (tr_rows hx hrw)
  have IT := hid (fun W (h : Below w1.heap.size w1 W) => impl_tr a cap xss 0 _ W hx6 HR (M.out W h) (Nat.le_refl _))
  have ST := hid (fun W (h : Below w1.heap.size w1 W) => spec_tr a cap xss 0 _ W hx6 HR (M.out W h) (Nat.le_refl _))
  have HPOS := hid (fun (h : trOk xss = true) => tr_pos h)
  have HTT := hid (fun (h : trOk xss = true) hp hm => tr_tr h hp hm)
  have I2 := hid (fun W a0 c0 (h : Els 1 rRow2 W 0 W.heap.size a0 (trV xss)) => impl_tr a0 c0 (trV xss) 0 _ W (by have := HTR.out.1; omega) (hid (fun j hj => by have := HTR.out.2 j hj; omega)) h (Nat.le_refl _))
  have HTL := hid HTR.out.1
  clear hel hb1 BG DR hx hrw HTR
  generalize hT : trV xss = T at IT ST HTT I2 HTL
  have HTV := hid hT
  clear hT
  generalize hok : trOk xss = ok at IT ST HPOS HTT
  clear hok
  go_wp2_with fail
  with_reducible refine (IT.out _ (Below.refl _ _)).mono ?_
  rintro e w2 ⟨a2, c2, vs2, rfl, hown, hb⟩
  have G := hid hown
  have BW := hid hb
  have s2 := hb.size
  replace B := hid (B.out.trans (hb.mono s1))
  clear hown hb IT
  go_wp2_with fail
  with_reducible refine (ST.out _ BW.out).mono ?_
  rintro e w3 ⟨a3, c3, vs3, rfl, hown, hb⟩
  replace G := hid (G.out.below' hb)
  replace BW := hid (BW.out.trans (hb.mono s2))
  replace B := hid (B.out.trans (hb.mono (by omega)))
  have s3 := hb.size
  clear hown hb ST
  go_wp2_with fail
  with_reducible refine (DD.out _ B.out).mono ?_
  rintro e w4 ⟨ax, ay, cx, cy, xs, ys, rfl, hxs, hys, ex, ey, hb⟩
  replace G := hid (G.out.below' hb)
  replace BW := hid (BW.out.trans (hb.mono (by omega)))
  replace B := hid (B.out.trans (hb.mono (by omega)))
  have s4 := hb.size
  have X1 := hid (fun W (h : Below w4.heap.size w4 W) => (ex.keep good_rat (sm_below h (Nat.le_refl _))).up good_rat (Nat.le_refl _) h.size)
  have Y1 := hid (fun W (h : Below w4.heap.size w4 W) => (ey.keep good_rat (sm_below h (Nat.le_refl _))).up good_rat (Nat.le_refl _) h.size)
  have D1 := hid (fun W (h : Below w4.heap.size w4 W) => impl_dot ax ay cx cy xs ys 0 _ 0 _ W (by omega) (X1.out W h) (Y1.out W h) (Nat.le_refl _) (Nat.le_refl _))
  have D2 := hid (fun W (h : Below w4.heap.size w4 W) => impl_dot ay ax cy cx ys xs 0 _ 0 _ W (by omega) (Y1.out W h) (X1.out W h) (Nat.le_refl _) (Nat.le_refl _))
  have D3 := hid (fun W (h : Below w4.heap.size w4 W) => spec_dot ax ay cx cy xs ys 0 _ 0 _ W (by omega) (X1.out W h) (Y1.out W h) (Nat.le_refl _) (Nat.le_refl _))
  simp only [dotQ_comm ys xs, endQ_any] at D1 D2 D3
  generalize fstQ (dotQ xs ys) = X at D1 D2 D3
  generalize sndQ (dotQ xs ys) = Y at D1 D2 D3
  generalize okQ (dotQ xs ys) = kd at D1 D2 D3
  clear hb ex ey X1 Y1 DD hxs hys
  go_wp2_with fail
  with_reducible refine (D1.out _ (Below.refl _ _)).mono ?_
  rintro e w5 ⟨rfl, hb⟩
  have s5 := hb.size
  have P := hid (hasl_new w5 [.int .i64 X, .int .i64 Y] 25)
  have H4 := hid (hb.alloc s5 (.cells #[.int .i64 X, .int .i64 Y] 25))
  replace G := hid ((G.out.below' hb).alloc (.cells #[.int .i64 X, .int .i64 Y] 25))
  replace BW := hid ((BW.out.trans (hb.mono (by omega))).alloc (by omega) (.cells #[.int .i64 X, .int .i64 Y] 25))
  replace B := hid ((B.out.trans (hb.mono (by omega))).alloc (by omega) (.cells #[.int .i64 X, .int .i64 Y] 25))
  clear hb D1
  go_wp2_with fail
  with_reducible refine (D2.out _ H4.out).mono ?_
  rintro e w6 ⟨rfl, hb⟩
  have s6 := hb.size
  simp only [World.size_alloc] at s6
  have Q := hid (hasl_new w6 [.int .i64 X, .int .i64 Y] 25)
  replace P := hid ((P.out.below hb).alloc (.cells #[.int .i64 X, .int .i64 Y] 25))
  replace H4 := hid ((H4.out.trans (hb.mono (by simp; omega))).alloc (by omega) (.cells #[.int .i64 X, .int .i64 Y] 25))
  replace G := hid ((G.out.below' hb).alloc (.cells #[.int .i64 X, .int .i64 Y] 25))
  replace BW := hid ((BW.out.trans (hb.mono (by simp; omega))).alloc (by omega) (.cells #[.int .i64 X, .int .i64 Y] 25))
  replace B := hid ((B.out.trans (hb.mono (by simp; omega))).alloc (by omega) (.cells #[.int .i64 X, .int .i64 Y] 25))
  clear hb D2
  go_wp2_with fail
  with_reducible refine (D3.out _ H4.out).mono ?_
  rintro e w7 ⟨rfl, hb⟩
  have s7 := hb.size
  simp only [World.size_alloc] at s7
  have O := hid (hasl_new w7 [.int .i64 X, .int .i64 Y] 25)
  replace P := hid ((P.out.below hb).alloc (.cells #[.int .i64 X, .int .i64 Y] 25))
  replace Q := hid ((Q.out.below hb).alloc (.cells #[.int .i64 X, .int .i64 Y] 25))
  replace G := hid ((G.out.below' hb).alloc (.cells #[.int .i64 X, .int .i64 Y] 25))
  replace BW := hid ((BW.out.trans (hb.mono (by simp; omega))).alloc (by omega) (.cells #[.int .i64 X, .int .i64 Y] 25))
  replace B := hid ((B.out.trans (hb.mono (by simp; omega))).alloc (by omega) (.cells #[.int .i64 X, .int .i64 Y] 25))
  clear hb D3 H4
  obtain ⟨p0, p1, p2, p3, p4⟩ := P.out.two
  obtain ⟨q0, q1, q2, q3, q4⟩ := Q.out.two
  obtain ⟨o0, o1, o2, o3, o4⟩ := O.out.two
  have hkk : (kd != kd) = false := by simp
  have hoo : (ok != ok) = false := by simp
  have hXX : (X == X) = true := by simp
  have hYY : (Y == Y) = true := by simp
  clear P Q O
  cases ok with
  | false =>
    clear HPOS HTT I2 G M
    go_wp2_with fail
    go_ret
    exact ⟨rfl, B.out⟩
  | true =>
    obtain ⟨hp0, _⟩ := HPOS.out (by first | rfl | trivial)
    obtain ⟨b, off, aj, capj, he, hx0, hbB, g, rx, hx1, hx2⟩ := mat_at (M.out _ BW.out) 0 hp0
    subst he
    simp only [Nat.add_zero] at g
    have hp0' : (0 : Int) < (xss.length : Int) := by omega
    clear hx0 hx1 hx2 rx HPOS
    by_cases hm0 : xss[0].length = 0
    · have hq : ((xss[0].length : Int) == 0) = true := by simp [hm0]
      clear hm0 HTT I2 G
      go_wp2_with fail
      go_ret
      exact ⟨rfl, B.out⟩
    · have hq : ((xss[0].length : Int) == 0) = false := by simp only [beq_eq_false_iff_ne, ne_eq]; omega
      obtain ⟨h3, h4, h5⟩ := HTT.out (by first | rfl | trivial) hp0 (by omega)
      have HOK := hid h3
      have HV := hid h4
      have hl5 := hid h5
      have I3 := hid (I2.out _ a2 c2 (G.out.rd.2.up good_row2 (Nat.zero_le _) (Nat.le_refl _)))
      rw [h3, h4] at I3
      clear h3 h4 h5 HTT I2 hm0
      go_wp2_with fail
      with_reducible refine I3.out.mono ?_
      rintro e w8 ⟨a8, c8, vs8, rfl, hown, hb⟩
      have s8 := hb.size
      simp only [World.size_alloc] at s8
      have G8 := hid hown
      replace BW := hid (BW.out.trans (hb.mono (by simp; omega)))
      replace B := hid (B.out.trans (hb.mono (by simp; omega)))
      have g8 := (hb.cell (p := ⟨b, off, none⟩) (by exact hbB)).trans g
      have hn1 : ((xss.length : Int) != (xss.length : Int)) = false := by simp
      have hn2 : ((T.length : Int) != (xss[0].length : Int)) = false := by simp [hl5.out]
      clear hown hb I3 g p0 p1 p2 p3 p4 q0 q1 q2 q3 q4 o0 o1 o2 o3 o4 G HOK HV
      go_wp2_with fail
      go_loopw [18] (fun i wr => ∃ k : Nat, k ≤ xss.length ∧ i = .int .i64 k ∧ Hid (Below w8.heap.size w8 wr)) (fun i _ => xss.length - (intOf i).toNat)
      case atStart => exact ⟨0, Nat.zero_le _, rfl, hid (Below.refl _ _)⟩
      case round =>
        obtain ⟨k, hk, rfl, hb⟩ := hrel
        clear g8
        have hsz := hb.out.size
        by_cases hlt : k < xss.length
        · have BK := hid (BW.out.trans (hb.out.mono (by omega)))
          obtain ⟨b1, off1, aj1, capj1, he1, hy0, hbB1, g1, rx1, hy1, hy2⟩ := mat_at (M.out _ BK.out) k hlt
          simp only [Option.some.injEq, Addr.mk.injEq, and_true] at he1
          obtain ⟨rfl, rfl⟩ := he1
          obtain ⟨b3, off3, aj3, capj3, he3, hz0, hbB3, g3, rx3, hz1, hz2⟩ := mat_at ((G8.out.below' hb.out).rd.2) k hlt
          subst he3
          have hrk := HR.out k hlt
          have E := hid (fun W (hW : Below wr.heap.size wr W) => spec_eqr aj3 aj1 capj3 capj1 xss[k] xss[k] _ _ _ _ W (by omega) (by omega) (rx3.grow good_rat hW (Nat.le_refl _)) (rx1.grow good_rat hW (Nat.le_refl _)) hW.size hW.size)
          simp only [decide_true] at E
          have hlt' : (k : Int) < (xss.length : Int) := by omega
          have h0' : (0 : Int) ≤ (k : Int) := by omega
          have hk0 := kp_refl wr
          clear rx1 rx3 hy0 hy1 hy2 hz0 hz1 hz2 hrk
          go_upto_region 20 with fail
          go_cut [126] (fun s wx => s = .bool false ∧ Kp wr 0 wx)
          case first =>
            go_region_held3 (fun w' => w'.cell? ⟨b3, off3 + k, none⟩ = some (.slice aj3 xss[k].length capj3) ∧ w'.cell? ⟨b, off + k, none⟩ = some (.slice aj1 xss[k].length capj1) ∧ Kp wr 0 w')
              (first
                | (go_split_ands
                   repeat' apply And.intro
                   all_goals (first | (with_reducible assumption) | (with_reducible exact cell_drew (by assumption)) | (with_reducible exact Kp.drew (by assumption)) | (with_reducible exact Kp.cell (by assumption) hb1 (by omega) (by assumption)) | (with_reducible exact Kp.call (by assumption) hb1))))
              (first
                | (go_split_ands; go_at_call 37; (with_reducible refine (E.out _ (Kp.bel (n := 0) (by with_reducible assumption))).mono ?_); rintro e wU ⟨rfl, hb1⟩))
            all_goals
              go_wp2_with fail
              go_meet
              go_split_ands
              exact ⟨rfl, by with_reducible assumption⟩
          case rest =>
            obtain ⟨rfl, hkp⟩ := hcut
            have HB := hid (hb.out.trans (hkp.bel.mono hsz))
            clear hkp hk0
            go_wp2
            go_roundw
            case rel => exact ⟨k + 1, by omega, by go_num, HB⟩
            case measure => simp [intOf]; omega
        · have hlt' : ¬ (k : Int) < (xss.length : Int) := by omega
          have HB := hid (B.out.trans (hb.out.mono (by omega)))
          go_wp2_with fail
          go_ret
          exact ⟨rfl, HB.out⟩
end Go.Proofs.Ythghggnlfnbbgaa.TransposeLawC
