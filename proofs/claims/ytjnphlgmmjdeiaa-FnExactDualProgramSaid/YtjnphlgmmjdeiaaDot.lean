/- Products of two vectors: the program's function and the model's. -/
import Derived.Test.YtjnphlgmmjdeiaaLinP
import Derived.Deep.RegionHeld3
import Derived.Deep.DeepCutAuto
namespace Go.Proofs.Ytjnphlgmmjdeiaa.Dot
open Go.RowKit
open Go.Proofs.Ytjnphlgmmjdeiaa.Num Go.Proofs.Ytjnphlgmmjdeiaa.IntRow Go.Proofs.Ytjnphlgmmjdeiaa.Rdr Go.Proofs.Ytjnphlgmmjdeiaa.HasL Go.Proofs.Ytjnphlgmmjdeiaa.Rat Go.Proofs.Ytjnphlgmmjdeiaa.RatLaw Go.Proofs.Ytjnphlgmmjdeiaa.Rats Go.Proofs.Ytjnphlgmmjdeiaa.Smq Go.Proofs.Ytjnphlgmmjdeiaa.SmqI Go.Proofs.Ytjnphlgmmjdeiaa.Qops Go.Proofs.Ytjnphlgmmjdeiaa.LinP Go.Proofs.Ytjnphlgmmjdeiaa.Keep Go.Proofs.Ytjnphlgmmjdeiaa.Kept Go.Proofs.Ytjnphlgmmjdeiaa.Cells
set_option linter.unusedVariables false

theorem hasl_of2 {w : World} {b : Nat} {x y : Value} (h : Has2 w b x y) : HasL w b [x, y] := ⟨h.2.2.1, fun i hi => by
  match i, hi with
  | 0, _ => exact ⟨h.1, h.2.2.2.1⟩
  | 1, _ => exact ⟨h.2.1, h.2.2.2.2⟩⟩
theorem endQ_any (o : Option RatD) : endQ o = .returned (.tuple #[.agg #[.int .i64 (fstQ o), .int .i64 (sndQ o)], .bool (okQ o)]) := rfl

set_option maxRecDepth 100000 in
set_option maxHeartbeats 2000000 in
theorem impl_dot (a a' : Option Addr) (cap cap' : Nat) (xs ys : List RatD) (lo hi lo' hi' : Nat) (w : World) (hn : xs.length ≤ 9223372036854775806) (h : Els 2 rRat w lo hi a xs) (h' : Els 2 rRat w lo' hi' a' ys) (hh : hi ≤ w.heap.size) (hh' : hi' ≤ w.heap.size) :
    Calls Try.prog 26 #[.slice a xs.length cap, .slice a' ys.length cap'] w fun e w' => e = endQ (dotQ xs ys) ∧ Below w.heap.size w w' := by
  by_cases hl : xs.length = ys.length
  case neg =>
    have hne : ((xs.length : Int) != (ys.length : Int)) = true := by simp; omega
    have HE := hid (show dotQ xs ys = none from if_neg hl)
    have HB := hid ((Below.refl w.heap.size w).alloc (Nat.le_refl _) (.cells #[.int .i64 0, .int .i64 0] 35))
    have HT := hid (hasl_new w [.int .i64 0, .int .i64 0] 35).two
    obtain ⟨t0, t1, _, _, _⟩ := HT.out
    clear hl h h'
    go_enter Try.func26, Try.ntmps26
    go_wp2_with fail
    refine bodyPost_ret (v := .tuple #[.agg #[.int .i64 0, .int .i64 0], .bool false]) (by simp [results, Try.results26, go_sem, t0, t1]) rfl ⟨by rw [HE.out]; rfl, HB.out⟩
  have hne : ((xs.length : Int) != (ys.length : Int)) = false := by simp [hl]
  have HL := hid hl
  have HD := hid (show dotQ xs ys = dt xs ys xs.length from if_pos hl)
  clear hl
  have B1 := hid ((Below.refl w.heap.size w).alloc (Nat.le_refl _) (.cells #[.int .i64 0, .int .i64 0] 35))
  have K1 := hid (hasl_new w [.int .i64 0, .int .i64 0] 35)
  go_enter Try.func26, Try.ntmps26
  go_wp2_with fail
  with_reducible refine (whole 0 _).mono ?_
  rintro e w1 ⟨rfl, hb1⟩
  have s1 := hb1.size
  simp only [World.size_alloc] at s1
  have HB := hid ((B1.out.trans (hb1.mono (by simp))).alloc (by omega) (.cells #[.int .i64 0, .int .i64 1] 35))
  have K2 := hid ((K1.out.below hb1).alloc (.cells #[.int .i64 0, .int .i64 1] 35))
  have K3 := hid (hasl_new w1 [.int .i64 0, .int .i64 1] 35)
  have hgw : w.heap.size < w1.heap.size := by omega
  clear hb1 B1 K1
  go_wp2_with fail
  go_loopw [7, 8, 9, 10, 11, 21] (fun _ _ _ _ _ i wr => ∃ (k : Nat) (p : RatD), k ≤ xs.length ∧ i = .int .i64 k ∧ Hid (dt xs ys k = some p) ∧ Hid (HasL wr w1.heap.size [.int .i64 p.1, .int .i64 p.2]) ∧ Hid (HasL wr w.heap.size [.int .i64 0, .int .i64 0]) ∧ Hid (Below w.heap.size w wr)) (fun _ _ _ _ _ i _ => xs.length - (intOf i).toNat)
  case atStart => exact ⟨0, (0, 1), Nat.zero_le _, rfl, hid rfl, K3, K2, HB⟩
  case round =>
    obtain ⟨k, p, hk, rfl, hsm, kp, kr, hb⟩ := hrel
    clear K2 K3 HB
    by_cases hlt : k < xs.length
    · have hly : k < ys.length := by have := HL.out; omega
      obtain ⟨b, off, rfl, _, hbB, c0, c1⟩ := rats_at (h.grow good_rat hb.out hh) k hlt
      obtain ⟨b', off', rfl, _, hbB', d0, d1⟩ := rats_at (h'.grow good_rat hb.out hh') k hly
      have hbd := rats_bd h k hlt
      have hbd' := rats_bd h' k hly
      have hst := dt_round hsm.out hlt hly
      have HO1 := hid hst.1
      have HO0 := hid hst.2
      have A := hid (fun W => impl_mulQ xs[k] ys[k] W hbd.1 hbd.2 hbd'.1 hbd'.2)
      have hib := mulQ_ib xs[k] ys[k]
      simp only [endQ_any] at A
      generalize fstQ (mulQ xs[k] ys[k]) = X at A HO1 HO0 hib
      generalize sndQ (mulQ xs[k] ys[k]) = Y at A HO1 HO0 hib
      generalize okQ (mulQ xs[k] ys[k]) = ok at A HO1 HO0
      have A2 := hid (fun W => impl_addQ p (X, Y) W (dt_vr hsm.out) hib.1 hib.2)
      have hlt' : (k : Int) < (xs.length : Int) := by omega
      have hly' : (k : Int) < (ys.length : Int) := by omega
      have h0' : (0 : Int) ≤ (k : Int) := by omega
      have hsz := hb.out.size
      have hl1 := kp.out.1
      have hk0 := kp_refl wr
      clear h h' hst hsm hbd hbd' hib
      go_upto_region 7 with fail
      go_cut [8, 9] (fun s8 s9 wx => ∃ g : Nat, s8 = .pointer (some ⟨g, 0, none⟩) ∧ s9 = .bool ok ∧ Has2 wx g (.int .i64 X) (.int .i64 Y) ∧ wr.heap.size ≤ g ∧ Kp wr 0 wx)
      case first =>
        go_region_held3 (fun w' => w'.cell? ⟨b, off + k * 2, none⟩ = some (.int .i64 xs[k].1) ∧ w'.cell? ⟨b, off + k * 2 + 1, none⟩ = some (.int .i64 xs[k].2) ∧ w'.cell? ⟨b', off' + k * 2, none⟩ = some (.int .i64 ys[k].1) ∧ w'.cell? ⟨b', off' + k * 2 + 1, none⟩ = some (.int .i64 ys[k].2) ∧ Kp wr 0 w')
          (first
            | (go_split_ands
               repeat' apply And.intro
               all_goals (first | (with_reducible assumption) | (with_reducible exact cell_drew (by assumption)) | (with_reducible exact Kp.drew (by assumption)) | (with_reducible exact Kp.cell (by assumption) hb1 (by omega) (by assumption)) | (with_reducible exact Kp.call (by assumption) hb1) | (with_reducible exact Kp.cell_alloc (by assumption) _ (by omega) (by assumption)) | (with_reducible exact Kp.alloc (by assumption) _) | (with_reducible exact Kp.cell_alloc_drew (by assumption) _ (by omega) (by assumption)) | (with_reducible exact Kp.alloc_drew (by assumption) _) | (with_reducible exact Kp.reall (by assumption) (by omega) _) | (with_reducible exact cell_realloc (by omega) (by assumption) _) | (with_reducible exact cell_set (by assumption) (by omega)) | (with_reducible exact Kp.set (by assumption) (by omega) _ _))))
          (first | (go_split_ands; go_at_call 78; (with_reducible refine (A.out _).mono ?_); rintro e w1 ⟨rfl, hb1⟩; have hz0 := hb1.size; (try simp only [World.size_alloc] at hz0); have hz1 : wr.heap.size ≤ w1.heap.size := (by have hk0 : Kp wr 0 _ := (by with_reducible assumption); have hk1 := hk0.sz; (try simp only [World.size_alloc] at hk1); omega); (try (first | (with_reducible have HN := hid (new2_kept hb1)) | (with_reducible have HN := hid (new2_kept_drew hb1)))); (try (obtain ⟨m0, m1, mz, m2, m3⟩ := HN.out))))
        all_goals
          go_wp2_with fail
          go_meet
          go_split_ands
          first
            | exact ⟨_, rfl, rfl, has2_new _ _ _ _, by omega, by with_reducible assumption⟩
            | exact ⟨_, rfl, rfl, has2_set HN.out, (by first | exact Nat.le_refl _ | omega), by with_reducible assumption⟩
      case rest =>
        obtain ⟨g, rfl, rfl, hH, hg, hk⟩ := hcut
        obtain ⟨wd, rfl⟩ : ∃ wo : World, wo = wc := ⟨_, rfl⟩
        have hsk := hk.sz
        have B1 := hid (hb.out.trans (hk.bel.mono hsz))
        have P1 := hid (kp.out.below hk.bel)
        have R1 := hid (kr.out.below hk.bel)
        have N1 := hid (hasl_of2 hH)
        clear hH hk hk0 A c0 c1 d0 d1 kp kr hb
        obtain ⟨p0, p1, p2, p3, p4⟩ := P1.out.two
        obtain ⟨n0, n1, n2, n3, n4⟩ := N1.out.two
        go_wp2_with fail
        with_reducible refine (A2.out _).mono ?_
        rintro e w2 ⟨rfl, hb2⟩
        have s2 := hb2.size
        replace P1 := hid (P1.out.below hb2)
        replace R1 := hid (R1.out.below hb2)
        replace B1 := hid (B1.out.trans (hb2.mono (by omega)))
        clear p0 p1 p2 p3 p4 n0 n1 n2 n3 n4 N1 A2 hb2
        cases hq : addQ p (X, Y) with
        | none =>
          have HN := hid (show dt xs ys xs.length = none from dt_none (k := k + 1) (by cases ok with | true => exact (HO1.out (by first | rfl | trivial)).trans hq | false => exact HO0.out (by first | rfl | trivial)) (by omega))
          rw [endQ_none]
          obtain ⟨r0, r1, r2, r3, r4⟩ := (R1.out.alloc (.cells #[.int .i64 0, .int .i64 0] 35)).two
          have HB := hid ((((B1.out.alloc (by omega) (.cells #[.int .i64 0, .int .i64 0] 35)).setCell (p := ⟨w.heap.size, 0, none⟩) (Nat.le_refl _) (.int .i64 0)).setCell (p := ⟨w.heap.size, 1, none⟩) (Nat.le_refl _) (.int .i64 0)))
          have HT := hid (((R1.out.alloc (.cells #[.int .i64 0, .int .i64 0] 35)).put 0 (.int .i64 0)).put 1 (.int .i64 0)).two
          obtain ⟨t0, t1, _, _, _⟩ := HT.out
          clear HO0 HO1 hq
          cases ok <;> (go_wp2_with fail
                        refine bodyPost_ret (v := .tuple #[.agg #[.int .i64 0, .int .i64 0], .bool false]) (by simp [results, Try.results26, go_sem, t0, t1]) rfl ⟨by rw [HD.out, HN.out]; rfl, HB.out⟩)
        | some r =>
          rw [endQ_some]
          cases ok with
          | false =>
            have HN := hid (show dt xs ys xs.length = none from dt_none (k := k + 1) (HO0.out (by first | rfl | trivial)) (by omega))
            obtain ⟨r0, r1, r2, r3, r4⟩ := (R1.out.alloc (.cells #[.int .i64 r.1, .int .i64 r.2] 35)).two
            have HB := hid ((((B1.out.alloc (by omega) (.cells #[.int .i64 r.1, .int .i64 r.2] 35)).setCell (p := ⟨w.heap.size, 0, none⟩) (Nat.le_refl _) (.int .i64 0)).setCell (p := ⟨w.heap.size, 1, none⟩) (Nat.le_refl _) (.int .i64 0)))
            have HT := hid (((R1.out.alloc (.cells #[.int .i64 r.1, .int .i64 r.2] 35)).put 0 (.int .i64 0)).put 1 (.int .i64 0)).two
            obtain ⟨t0, t1, _, _, _⟩ := HT.out
            clear HO0 HO1 hq
            go_wp2_with fail
            refine bodyPost_ret (v := .tuple #[.agg #[.int .i64 0, .int .i64 0], .bool false]) (by simp [results, Try.results26, go_sem, t0, t1]) rfl ⟨by rw [HD.out, HN.out]; rfl, HB.out⟩
          | true =>
            have HSM := hid ((HO1.out (by first | rfl | trivial)).trans hq)
            obtain ⟨r0, r1, r2, r3, r4⟩ := (P1.out.alloc (.cells #[.int .i64 r.1, .int .i64 r.2] 35)).two
            obtain ⟨q0, q1, q2, q3, q4⟩ := (hasl_new w2 [.int .i64 r.1, .int .i64 r.2] 35).two
            have HP := hid (((P1.out.alloc (.cells #[.int .i64 r.1, .int .i64 r.2] 35)).put 0 (.int .i64 r.1)).put 1 (.int .i64 r.2))
            have HR := hid (((R1.out.alloc (.cells #[.int .i64 r.1, .int .i64 r.2] 35)).far (c := w1.heap.size) (o := 0) (by omega) (.int .i64 r.1)).far (c := w1.heap.size) (o := 1) (by omega) (.int .i64 r.2))
            have HB := hid (((B1.out.alloc (by omega) (.cells #[.int .i64 r.1, .int .i64 r.2] 35)).setCell (p := ⟨w1.heap.size, 0, none⟩) (by show w.heap.size ≤ w1.heap.size; omega) (.int .i64 r.1)).setCell (p := ⟨w1.heap.size, 1, none⟩) (by show w.heap.size ≤ w1.heap.size; omega) (.int .i64 r.2))
            clear HO0 HO1 hq
            go_wp2_with fail
            go_roundw
            case rel => exact ⟨k + 1, r, by omega, by go_num, HSM, HP, HR, HB⟩
            case measure => simp [intOf]; omega
    · have e : k = xs.length := by omega
      subst e
      clear h h'
      obtain ⟨r0, r1, r2, r3, r4⟩ := kp.out.two
      obtain ⟨q0, q1, q2, q3, q4⟩ := kr.out.two
      have HT := hid ((kr.out.put 0 (.int .i64 p.1)).put 1 (.int .i64 p.2)).two
      obtain ⟨t0, t1, _, _, _⟩ := HT.out
      have HB := hid ((hb.out.setCell (p := ⟨w.heap.size, 0, none⟩) (Nat.le_refl _) (.int .i64 p.1)).setCell (p := ⟨w.heap.size, 1, none⟩) (Nat.le_refl _) (.int .i64 p.2))
      go_wp2_with fail
      refine bodyPost_ret (v := .tuple #[.agg #[.int .i64 p.1, .int .i64 p.2], .bool true]) (by simp [results, Try.results26, go_sem, t0, t1]) rfl ⟨by rw [HD.out, hsm.out]; rfl, HB.out⟩

set_option maxRecDepth 100000 in
set_option maxHeartbeats 2000000 in
theorem spec_dot (a a' : Option Addr) (cap cap' : Nat) (xs ys : List RatD) (lo hi lo' hi' : Nat) (w : World) (hn : xs.length ≤ 9223372036854775806) (h : Els 2 rRat w lo hi a xs) (h' : Els 2 rRat w lo' hi' a' ys) (hh : hi ≤ w.heap.size) (hh' : hi' ≤ w.heap.size) :
    Calls Try.prog 102 #[.slice a xs.length cap, .slice a' ys.length cap'] w fun e w' => e = endQ (dotQ xs ys) ∧ Below w.heap.size w w' := by
  by_cases hl : xs.length = ys.length
  case neg =>
    have hne : ((xs.length : Int) != (ys.length : Int)) = true := by simp; omega
    have HE := hid (show dotQ xs ys = none from if_neg hl)
    have HB := hid ((Below.refl w.heap.size w).alloc (Nat.le_refl _) (.cells #[.int .i64 0, .int .i64 0] 35))
    have HT := hid (hasl_new w [.int .i64 0, .int .i64 0] 35).two
    obtain ⟨t0, t1, _, _, _⟩ := HT.out
    clear hl h h'
    go_enter Try.func102, Try.ntmps102
    go_wp2_with fail
    refine bodyPost_ret (v := .tuple #[.agg #[.int .i64 0, .int .i64 0], .bool false]) (by simp [results, Try.results102, go_sem, t0, t1]) rfl ⟨by rw [HE.out]; rfl, HB.out⟩
  have hne : ((xs.length : Int) != (ys.length : Int)) = false := by simp [hl]
  have HL := hid hl
  have HD := hid (show dotQ xs ys = dt xs ys xs.length from if_pos hl)
  clear hl
  have HB := hid (((Below.refl w.heap.size w).alloc (Nat.le_refl _) (.cells #[.int .i64 0, .int .i64 0] 35)).alloc (by simp) (.cells #[.int .i64 0, .int .i64 1] 35))
  have K2 := hid ((hasl_new w [.int .i64 0, .int .i64 0] 35).alloc (.cells #[.int .i64 0, .int .i64 1] 35))
  have K3 := hid (hasl_new (w.alloc (.cells #[.int .i64 0, .int .i64 0] 35)) [.int .i64 0, .int .i64 1] 35)
  simp only [World.size_alloc] at K3
  have hgw : w.heap.size < w.heap.size + 1 := by omega
  go_enter Try.func102, Try.ntmps102
  go_wp2_with fail
  go_loopw [7, 8, 9] (fun i _ _ wr => ∃ (k : Nat) (p : RatD), k ≤ xs.length ∧ i = .int .i64 k ∧ Hid (dt xs ys k = some p) ∧ Hid (HasL wr (w.heap.size + 1) [.int .i64 p.1, .int .i64 p.2]) ∧ Hid (HasL wr w.heap.size [.int .i64 0, .int .i64 0]) ∧ Hid (Below w.heap.size w wr)) (fun i _ _ _ => xs.length - (intOf i).toNat)
  case atStart => exact ⟨0, (0, 1), Nat.zero_le _, rfl, hid rfl, K3, K2, HB⟩
  case round =>
    obtain ⟨k, p, hk, rfl, hsm, kp, kr, hb⟩ := hrel
    clear K2 K3 HB
    by_cases hlt : k < xs.length
    · have hly : k < ys.length := by have := HL.out; omega
      obtain ⟨b, off, rfl, _, hbB, c0, c1⟩ := rats_at (h.grow good_rat hb.out hh) k hlt
      obtain ⟨b', off', rfl, _, hbB', d0, d1⟩ := rats_at (h'.grow good_rat hb.out hh') k hly
      have hbd := rats_bd h k hlt
      have hbd' := rats_bd h' k hly
      have hst := dt_round hsm.out hlt hly
      have HO1 := hid hst.1
      have HO0 := hid hst.2
      have A := hid (fun W => spec_mulQ xs[k] ys[k] W hbd.1 hbd.2 hbd'.1 hbd'.2)
      have hib := mulQ_ib xs[k] ys[k]
      simp only [endQ_any] at A
      generalize fstQ (mulQ xs[k] ys[k]) = X at A HO1 HO0 hib
      generalize sndQ (mulQ xs[k] ys[k]) = Y at A HO1 HO0 hib
      generalize okQ (mulQ xs[k] ys[k]) = ok at A HO1 HO0
      have A2 := hid (fun W => spec_addQ p (X, Y) W (dt_vr hsm.out) hib.1 hib.2)
      have hlt' : (k : Int) < (xs.length : Int) := by omega
      have hly' : (k : Int) < (ys.length : Int) := by omega
      have h0' : (0 : Int) ≤ (k : Int) := by omega
      have hsz := hb.out.size
      have hl1 := kp.out.1
      have hk0 := kp_refl wr
      clear h h' hst hsm hbd hbd' hib
      go_upto_region 7 with fail
      go_cut [8, 9] (fun s8 s9 wx => ∃ g : Nat, s8 = .pointer (some ⟨g, 0, none⟩) ∧ s9 = .bool ok ∧ Has2 wx g (.int .i64 X) (.int .i64 Y) ∧ wr.heap.size ≤ g ∧ Kp wr 0 wx)
      case first =>
        go_region_held3 (fun w' => w'.cell? ⟨b, off + k * 2, none⟩ = some (.int .i64 xs[k].1) ∧ w'.cell? ⟨b, off + k * 2 + 1, none⟩ = some (.int .i64 xs[k].2) ∧ w'.cell? ⟨b', off' + k * 2, none⟩ = some (.int .i64 ys[k].1) ∧ w'.cell? ⟨b', off' + k * 2 + 1, none⟩ = some (.int .i64 ys[k].2) ∧ Kp wr 0 w')
          (first
            | (go_split_ands
               repeat' apply And.intro
               all_goals (first | (with_reducible assumption) | (with_reducible exact cell_drew (by assumption)) | (with_reducible exact Kp.drew (by assumption)) | (with_reducible exact Kp.cell (by assumption) hb1 (by omega) (by assumption)) | (with_reducible exact Kp.call (by assumption) hb1) | (with_reducible exact Kp.cell_alloc (by assumption) _ (by omega) (by assumption)) | (with_reducible exact Kp.alloc (by assumption) _) | (with_reducible exact Kp.cell_alloc_drew (by assumption) _ (by omega) (by assumption)) | (with_reducible exact Kp.alloc_drew (by assumption) _) | (with_reducible exact Kp.reall (by assumption) (by omega) _) | (with_reducible exact cell_realloc (by omega) (by assumption) _) | (with_reducible exact cell_set (by assumption) (by omega)) | (with_reducible exact Kp.set (by assumption) (by omega) _ _))))
          (first | (go_split_ands; go_at_call 97; (with_reducible refine (A.out _).mono ?_); rintro e w1 ⟨rfl, hb1⟩; have hz0 := hb1.size; (try simp only [World.size_alloc] at hz0); have hz1 : wr.heap.size ≤ w1.heap.size := (by have hk0 : Kp wr 0 _ := (by with_reducible assumption); have hk1 := hk0.sz; (try simp only [World.size_alloc] at hk1); omega); (try (first | (with_reducible have HN := hid (new2_kept hb1)) | (with_reducible have HN := hid (new2_kept_drew hb1)))); (try (obtain ⟨m0, m1, mz, m2, m3⟩ := HN.out))))
        all_goals
          go_wp2_with fail
          go_meet
          go_split_ands
          first
            | exact ⟨_, rfl, rfl, has2_new _ _ _ _, by omega, by with_reducible assumption⟩
            | exact ⟨_, rfl, rfl, has2_set HN.out, (by first | exact Nat.le_refl _ | omega), by with_reducible assumption⟩
      case rest =>
        obtain ⟨g, rfl, rfl, hH, hg, hk⟩ := hcut
        obtain ⟨wd, rfl⟩ : ∃ wo : World, wo = wc := ⟨_, rfl⟩
        have hsk := hk.sz
        have B1 := hid (hb.out.trans (hk.bel.mono hsz))
        have P1 := hid (kp.out.below hk.bel)
        have R1 := hid (kr.out.below hk.bel)
        have N1 := hid (hasl_of2 hH)
        clear hH hk hk0 A c0 c1 d0 d1 kp kr hb
        cases ok with
        | false =>
          have HN := hid (show dt xs ys xs.length = none from dt_none (k := k + 1) (HO0.out (by first | rfl | trivial)) (by omega))
          obtain ⟨r0, r1, r2, r3, r4⟩ := R1.out.two
          have HB := hid ((B1.out.setCell (p := ⟨w.heap.size, 0, none⟩) (Nat.le_refl _) (.int .i64 0)).setCell (p := ⟨w.heap.size, 1, none⟩) (Nat.le_refl _) (.int .i64 0))
          have HT := hid ((R1.out.put 0 (.int .i64 0)).put 1 (.int .i64 0)).two
          obtain ⟨t0, t1, _, _, _⟩ := HT.out
          clear HO0 HO1 A2
          go_wp2_with fail
          refine bodyPost_ret (v := .tuple #[.agg #[.int .i64 0, .int .i64 0], .bool false]) (by simp [results, Try.results102, go_sem, t0, t1]) rfl ⟨by rw [HD.out, HN.out]; rfl, HB.out⟩
        | true =>
          obtain ⟨p0, p1, p2, p3, p4⟩ := P1.out.two
          obtain ⟨n0, n1, n2, n3, n4⟩ := N1.out.two
          go_wp2_with fail
          with_reducible refine (A2.out _).mono ?_
          rintro e w2 ⟨rfl, hb2⟩
          have s2 := hb2.size
          replace P1 := hid (P1.out.below hb2)
          replace R1 := hid (R1.out.below hb2)
          replace B1 := hid (B1.out.trans (hb2.mono (by omega)))
          clear p0 p1 p2 p3 p4 n0 n1 n2 n3 n4 N1 A2 hb2
          cases hq : addQ p (X, Y) with
          | none =>
            have HN := hid (show dt xs ys xs.length = none from dt_none (k := k + 1) ((HO1.out (by first | rfl | trivial)).trans hq) (by omega))
            rw [endQ_none]
            obtain ⟨p0, p1, p2, p3, p4⟩ := P1.out.two
            have P2 := (P1.out.put 0 (.int .i64 0)).put 1 (.int .i64 0)
            have R2 := hid ((R1.out.far (c := w.heap.size + 1) (o := 0) (by omega) (.int .i64 0)).far (c := w.heap.size + 1) (o := 1) (by omega) (.int .i64 0))
            obtain ⟨r0, r1, r2, r3, r4⟩ := R2.out.two
            have HB := hid ((((B1.out.setCell (p := ⟨w.heap.size + 1, 0, none⟩) (by show w.heap.size ≤ w.heap.size + 1; omega) (.int .i64 0)).setCell (p := ⟨w.heap.size + 1, 1, none⟩) (by show w.heap.size ≤ w.heap.size + 1; omega) (.int .i64 0)).setCell (p := ⟨w.heap.size, 0, none⟩) (Nat.le_refl _) (.int .i64 0)).setCell (p := ⟨w.heap.size, 1, none⟩) (Nat.le_refl _) (.int .i64 0))
            have HT := hid ((R2.out.put 0 (.int .i64 0)).put 1 (.int .i64 0)).two
            obtain ⟨t0, t1, _, _, _⟩ := HT.out
            clear HO0 HO1 hq P2
            go_wp2_with fail
            refine bodyPost_ret (v := .tuple #[.agg #[.int .i64 0, .int .i64 0], .bool false]) (by simp [results, Try.results102, go_sem, t0, t1]) rfl ⟨by rw [HD.out, HN.out]; rfl, HB.out⟩
          | some r =>
            have HSM := hid ((HO1.out (by first | rfl | trivial)).trans hq)
            rw [endQ_some]
            obtain ⟨r0, r1, r2, r3, r4⟩ := P1.out.two
            have HP := hid ((P1.out.put 0 (.int .i64 r.1)).put 1 (.int .i64 r.2))
            have HR := hid ((R1.out.far (c := w.heap.size + 1) (o := 0) (by omega) (.int .i64 r.1)).far (c := w.heap.size + 1) (o := 1) (by omega) (.int .i64 r.2))
            have HB := hid ((B1.out.setCell (p := ⟨w.heap.size + 1, 0, none⟩) (by show w.heap.size ≤ w.heap.size + 1; omega) (.int .i64 r.1)).setCell (p := ⟨w.heap.size + 1, 1, none⟩) (by show w.heap.size ≤ w.heap.size + 1; omega) (.int .i64 r.2))
            clear HO0 HO1 hq
            go_wp2_with fail
            go_roundw
            case rel => exact ⟨k + 1, r, by omega, by go_num, HSM, HP, HR, HB⟩
            case measure => simp [intOf]; omega
    · have e : k = xs.length := by omega
      subst e
      clear h h'
      obtain ⟨r0, r1, r2, r3, r4⟩ := kp.out.two
      obtain ⟨q0, q1, q2, q3, q4⟩ := kr.out.two
      have HT := hid ((kr.out.put 0 (.int .i64 p.1)).put 1 (.int .i64 p.2)).two
      obtain ⟨t0, t1, _, _, _⟩ := HT.out
      have HB := hid ((hb.out.setCell (p := ⟨w.heap.size, 0, none⟩) (Nat.le_refl _) (.int .i64 p.1)).setCell (p := ⟨w.heap.size, 1, none⟩) (Nat.le_refl _) (.int .i64 p.2))
      go_wp2_with fail
      refine bodyPost_ret (v := .tuple #[.agg #[.int .i64 p.1, .int .i64 p.2], .bool true]) (by simp [results, Try.results102, go_sem, t0, t1]) rfl ⟨by rw [HD.out, hsm.out]; rfl, HB.out⟩
end Go.Proofs.Ytjnphlgmmjdeiaa.Dot
