/- Sums of rationals: the model's function. -/
import Derived.Test.YthghggnlfnbbgabDoorSmqI
import Derived.Deep.RegionHeld3
import Derived.Deep.DeepCutAuto
namespace Go.Proofs.YthghggnlfnbbgabDoor.SmqS
open Go.RowKit
open Go.Proofs.YthghggnlfnbbgabDoor.Num Go.Proofs.YthghggnlfnbbgabDoor.IntRow Go.Proofs.YthghggnlfnbbgabDoor.Rdr Go.Proofs.YthghggnlfnbbgabDoor.HasL Go.Proofs.YthghggnlfnbbgabDoor.Rat Go.Proofs.YthghggnlfnbbgabDoor.RatLaw Go.Proofs.YthghggnlfnbbgabDoor.Rats Go.Proofs.YthghggnlfnbbgabDoor.Smq Go.Proofs.YthghggnlfnbbgabDoor.SmqI Go.Proofs.YthghggnlfnbbgabDoor.Keep Go.Proofs.YthghggnlfnbbgabDoor.Kept Go.Proofs.YthghggnlfnbbgabDoor.Cells
set_option linter.unusedVariables false

theorem hasl_of2 {w : World} {b : Nat} {x y : Value} (h : Has2 w b x y) : HasL w b [x, y] := ⟨h.2.2.1, fun i hi => by
  match i, hi with
  | 0, _ => exact ⟨h.1, h.2.2.2.1⟩
  | 1, _ => exact ⟨h.2.1, h.2.2.2.2⟩⟩
theorem endQ_any (o : Option RatD) : endQ o = .returned (.tuple #[.agg #[.int .i64 (fstQ o), .int .i64 (sndQ o)], .bool (okQ o)]) := rfl
theorem okQ_some {o : Option RatD} (h : okQ o = true) : o = some (fstQ o, sndQ o) := by
  cases o with
  | none => cases h
  | some p => rfl
theorem okQ_none {o : Option RatD} (h : okQ o = false) : o = none := by
  cases o with
  | none => rfl
  | some p => cases h

set_option maxRecDepth 100000 in
set_option maxHeartbeats 2000000 in
theorem spec_sum (a : Option Addr) (cap : Nat) (xs : List RatD) (lo hi : Nat) (w : World) (hn : xs.length ≤ 9223372036854775806) (h : Els 2 rRat w lo hi a xs) (hh : hi ≤ w.heap.size) :
    Calls Tryd.prog 17 #[.slice a xs.length cap] w fun e w' => e = endQ (sumQ xs) ∧ Below w.heap.size w w' := by
  have HB := hid (((Below.refl w.heap.size w).alloc (Nat.le_refl _) (.cells #[.int .i64 0, .int .i64 0] 47)).alloc (by simp) (.cells #[.int .i64 0, .int .i64 1] 47))
  have K2 := hid ((hasl_new w [.int .i64 0, .int .i64 0] 47).alloc (.cells #[.int .i64 0, .int .i64 1] 47))
  have K3 := hid (hasl_new (w.alloc (.cells #[.int .i64 0, .int .i64 0] 47)) [.int .i64 0, .int .i64 1] 47)
  simp only [World.size_alloc] at K3
  go_enter Tryd.func17, Tryd.ntmps17
  go_wp2_with fail
  go_loopw [5, 6, 7] (fun i _ _ wr => ∃ (k : Nat) (p : RatD), k ≤ xs.length ∧ i = .int .i64 k ∧ Hid (sm xs k = some p) ∧ Hid (HasL wr (w.heap.size + 1) [.int .i64 p.1, .int .i64 p.2]) ∧ Hid (HasL wr w.heap.size [.int .i64 0, .int .i64 0]) ∧ Hid (Below w.heap.size w wr)) (fun i _ _ _ => xs.length - (intOf i).toNat)
  case atStart => exact ⟨0, (0, 1), Nat.zero_le _, rfl, hid rfl, K3, K2, HB⟩
  case round =>
    obtain ⟨k, p, hk, rfl, hsm, kp, kr, hb⟩ := hrel
    clear K2 K3 HB
    by_cases hlt : k < xs.length
    · obtain ⟨b, off, rfl, _, hbB, c0, c1⟩ := rats_at (h.grow good_rat hb.out hh) k hlt
      have hbd := rats_bd h k hlt
      have hst := hid (sm_step hsm.out hlt)
      have A := hid (fun W => spec_addQ p xs[k] W (sm_vr hsm.out) hbd.1 hbd.2)
      simp only [endQ_any] at A
      have HO1 := hid (fun (e : okQ (addQ p xs[k]) = true) => hst.out.trans (okQ_some e))
      have HO0 := hid (fun (e : okQ (addQ p xs[k]) = false) => hst.out.trans (okQ_none e))
      generalize fstQ (addQ p xs[k]) = X at A HO1 HO0
      generalize sndQ (addQ p xs[k]) = Y at A HO1 HO0
      generalize okQ (addQ p xs[k]) = ok at A HO1 HO0
      have hlt' : (k : Int) < (xs.length : Int) := by omega
      have h0' : (0 : Int) ≤ (k : Int) := by omega
      have hsz := hb.out.size
      have hl1 := kp.out.1
      have hk0 := kp_refl wr
      obtain ⟨p0, p1, p2, p3, p4⟩ := kp.out.two
      clear h hst hsm hbd
      go_upto_region 5 with fail
      go_cut [6, 7] (fun s6 s7 wx => ∃ g : Nat, s6 = .pointer (some ⟨g, 0, none⟩) ∧ s7 = .bool ok ∧ Has2 wx g (.int .i64 X) (.int .i64 Y) ∧ wr.heap.size ≤ g ∧ Kp wr 0 wx)
      case first =>
        go_region_held3 (fun w' => w'.cell? ⟨b, off + k * 2, none⟩ = some (.int .i64 xs[k].1) ∧ w'.cell? ⟨b, off + k * 2 + 1, none⟩ = some (.int .i64 xs[k].2) ∧ w'.cell? ⟨w.heap.size + 1, 0, none⟩ = some (.int .i64 p.1) ∧ w'.cell? ⟨w.heap.size + 1, 1, none⟩ = some (.int .i64 p.2) ∧ Kp wr 0 w')
          (first
            | (go_split_ands
               repeat' apply And.intro
               all_goals (first | (with_reducible assumption) | (with_reducible exact cell_drew (by assumption)) | (with_reducible exact Kp.drew (by assumption)) | (with_reducible exact Kp.cell (by assumption) hb1 (by omega) (by assumption)) | (with_reducible exact Kp.call (by assumption) hb1) | (with_reducible exact Kp.cell_alloc (by assumption) _ (by omega) (by assumption)) | (with_reducible exact Kp.alloc (by assumption) _) | (with_reducible exact Kp.cell_alloc_drew (by assumption) _ (by omega) (by assumption)) | (with_reducible exact Kp.alloc_drew (by assumption) _) | (with_reducible exact Kp.reall (by assumption) (by omega) _) | (with_reducible exact cell_realloc (by omega) (by assumption) _) | (with_reducible exact cell_set (by assumption) (by omega)) | (with_reducible exact Kp.set (by assumption) (by omega) _ _))))
          (first | (go_split_ands; go_at_call 37; (with_reducible refine (A.out _).mono ?_); rintro e w1 ⟨rfl, hb1⟩; have hz0 := hb1.size; (try simp only [World.size_alloc] at hz0); have hz1 : wr.heap.size ≤ w1.heap.size := (by have hk0 : Kp wr 0 _ := (by with_reducible assumption); have hk1 := hk0.sz; (try simp only [World.size_alloc] at hk1); omega); (try (first | (with_reducible have HN := hid (new2_kept hb1)) | (with_reducible have HN := hid (new2_kept_drew hb1)))); (try (obtain ⟨m0, m1, mz, m2, m3⟩ := HN.out))))
        all_goals
          go_wp2_with fail
          go_meet
          go_split_ands
          first
            | exact ⟨_, rfl, rfl, has2_new _ _ _ _, by omega, by with_reducible assumption⟩
            | exact ⟨_, rfl, rfl, has2_set HN.out, (by first | exact Nat.le_refl _ | omega), by with_reducible assumption⟩
      case rest =>
        obtain ⟨g, rfl, rfl, hH, hg, hk⟩ := hcut
        have hsk := hk.sz
        have HB := hid (hb.out.trans (hk.bel.mono hsz))
        have P1 := hid (kp.out.below hk.bel)
        have R1 := hid (kr.out.below hk.bel)
        have N1 := hid (hasl_of2 hH)
        clear hH hk hk0 A p0 p1 p2 p3 p4 c0 c1 kp kr hb
        cases ok with
        | false =>
          have HN := hid (sm_none (HO0.out rfl) (show k + 1 ≤ xs.length by omega))
          obtain ⟨r0, r1, r2, r3, r4⟩ := R1.out.two
          have HB2 := hid ((HB.out.setCell (p := ⟨w.heap.size, 0, none⟩) (Nat.le_refl _) (.int .i64 0)).setCell (p := ⟨w.heap.size, 1, none⟩) (Nat.le_refl _) (.int .i64 0))
          have HT := hid ((R1.out.put 0 (.int .i64 0)).put 1 (.int .i64 0)).two
          obtain ⟨t0, t1, _, _, _⟩ := HT.out
          clear HO0 HO1
          go_wp2_with fail
          refine bodyPost_ret (v := .tuple #[.agg #[.int .i64 0, .int .i64 0], .bool false]) (by simp [results, Tryd.results17, go_sem, t0, t1]) rfl ⟨by rw [sumQ, HN.out]; rfl, HB2.out⟩
        | true =>
          have HSM := hid (HO1.out rfl)
          obtain ⟨r0, r1, r2, r3, r4⟩ := P1.out.two
          obtain ⟨q0, q1, q2, q3, q4⟩ := N1.out.two
          have HP := hid ((P1.out.put 0 (.int .i64 X)).put 1 (.int .i64 Y))
          have HR := hid ((R1.out.far (c := w.heap.size + 1) (o := 0) (by omega) (.int .i64 X)).far (c := w.heap.size + 1) (o := 1) (by omega) (.int .i64 Y))
          have HB2 := hid ((HB.out.setCell (p := ⟨w.heap.size + 1, 0, none⟩) (by show w.heap.size ≤ w.heap.size + 1; omega) (.int .i64 X)).setCell (p := ⟨w.heap.size + 1, 1, none⟩) (by show w.heap.size ≤ w.heap.size + 1; omega) (.int .i64 Y))
          clear HO0 HO1
          go_wp2_with fail
          go_roundw
          case rel => exact ⟨k + 1, (X, Y), by omega, by go_num, HSM, HP, HR, HB2⟩
          case measure => simp [intOf]; omega
    · have e : k = xs.length := by omega
      subst e
      clear h
      obtain ⟨r0, r1, r2, r3, r4⟩ := kp.out.two
      obtain ⟨q0, q1, q2, q3, q4⟩ := kr.out.two
      have HT := hid ((kr.out.put 0 (.int .i64 p.1)).put 1 (.int .i64 p.2)).two
      obtain ⟨t0, t1, _, _, _⟩ := HT.out
      have HB := hid ((hb.out.setCell (p := ⟨w.heap.size, 0, none⟩) (Nat.le_refl _) (.int .i64 p.1)).setCell (p := ⟨w.heap.size, 1, none⟩) (Nat.le_refl _) (.int .i64 p.2))
      go_wp2_with fail
      refine bodyPost_ret (v := .tuple #[.agg #[.int .i64 p.1, .int .i64 p.2], .bool true]) (by simp [results, Tryd.results17, go_sem, t0, t1]) rfl ⟨by rw [sumQ, hsm.out]; rfl, HB.out⟩
end Go.Proofs.YthghggnlfnbbgabDoor.SmqS
