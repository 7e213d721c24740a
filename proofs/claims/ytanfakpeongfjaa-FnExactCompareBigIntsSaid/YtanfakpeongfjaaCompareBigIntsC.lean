/- The walk of law FnExactCompareBigInts. -/
import Derived.Test.YtanfakpeongfjaaIntLaw
import Derived.Test.YtanfakpeongfjaaKept
import Derived.Deep.RegionHeld3
import Derived.Deep.DeepCutAuto
namespace Go.Proofs.Ytanfakpeongfjaa.CompareBigIntsC
open Go.RowKit
open Go.Proofs.Ytanfakpeongfjaa.Num Go.Proofs.Ytanfakpeongfjaa.IntRow Go.Proofs.Ytanfakpeongfjaa.IntLaw Go.Proofs.Ytanfakpeongfjaa.Keep Go.Proofs.Ytanfakpeongfjaa.Kept
set_option linter.unusedVariables false

set_option maxRecDepth 100000 in
set_option maxHeartbeats 2000000 in
theorem core (a1 a2 : Option Addr) (cap1 cap2 : Nat) (xs ys : List Int) (c : Int) (w : World) (hx : xs.length + ys.length ≤ 1048576) (r1 : Rd w w.heap.size a1 xs) (r2 : Rd w w.heap.size a2 ys)
    (S : RowKit.Hid (∀ (W : World) (g1 g2 : Nat), At W g1 3 xs.length xs → At W g2 3 ys.length ys → Calls Try.prog 45 #[.agg #[.slice (some ⟨g1, 0, none⟩) xs.length xs.length], .agg #[.slice (some ⟨g2, 0, none⟩) ys.length ys.length]] W fun e w' => e = .returned (.int .i64 c) ∧ Below W.heap.size W w'))
    (I : RowKit.Hid (∀ (W : World) (g1 g2 : Nat), At W g1 3 xs.length xs → At W g2 3 ys.length ys → Calls Try.prog 29 #[.agg #[.slice (some ⟨g1, 0, none⟩) xs.length xs.length], .agg #[.slice (some ⟨g2, 0, none⟩) ys.length ys.length]] W fun e w' => e = .returned (.int .i64 c) ∧ Below W.heap.size W w')) :
    Calls Try.prog 11 #[.agg #[.slice a1 xs.length cap1], .agg #[.slice a2 ys.length cap2]] w fun e w' => e = .returned (.bool true) ∧ Below w.heap.size w w' := by
  have OA := hid ((one_new w (.slice a1 xs.length cap1) 47).alloc (.cells #[.slice a2 ys.length cap2] 47))
  have OB := hid (one_new (w.alloc (.cells #[.slice a1 xs.length cap1] 47)) (.slice a2 ys.length cap2) 47)
  simp only [World.size_alloc] at OB
  have B := hid (((Below.refl w.heap.size w).alloc (Nat.le_refl _) (.cells #[.slice a1 xs.length cap1] 47)).alloc (by simp) (.cells #[.slice a2 ys.length cap2] 47))
  have t1 : ¬ (1048576 - (xs.length : Int) < 0) := by omega
  have t2 : ¬ (1048576 - (xs.length : Int) - (ys.length : Int) < 0) := by omega
  have hnb : (c != c) = false := by simp
  go_enter Try.func11, Try.ntmps11
  go_wp2_with fail
  refine (sz_big_ok a1 xs.length cap1 1048576 _ (by omega) (by omega)).mono ?_
  rintro e w1 ⟨rfl, hb⟩
  replace OA := hid (OA.out.below' hb)
  replace OB := hid (OB.out.below' hb)
  replace B := hid (B.out.trans (hb.mono B.out.size))
  clear hb
  obtain ⟨cOA_1, _, zOA_1⟩ := OA.out
  obtain ⟨cOB_1, _, zOB_1⟩ := OB.out
  go_wp2_with fail
  refine (sz_big_ok a2 ys.length cap2 (1048576 - (xs.length : Int)) _ (by omega) (by omega)).mono ?_
  rintro e w2 ⟨rfl, hb⟩
  clear cOA_1 zOA_1 cOB_1 zOB_1
  replace OA := hid (OA.out.below' hb)
  replace OB := hid (OB.out.below' hb)
  replace B := hid (B.out.trans (hb.mono B.out.size))
  clear hb
  have R1 := hid (r1.below B.out)
  have R2 := hid (r2.below B.out)
  have hs2 : w.heap.size + 2 ≤ w2.heap.size := by have := OB.out.2.2; omega
  have hk2 := kp_refl w2
  obtain ⟨cOA_2, _, zOA_2⟩ := OA.out
  obtain ⟨cOB_2, _, zOB_2⟩ := OB.out
  go_upto_region 8 with fail
  go_cut [6] (fun s6 wx => s6 = .int .i64 c ∧ Kp w2 0 wx)
  case first =>
    go_region_held3 (fun w' => w'.cell? ⟨w.heap.size, 0, none⟩ = some (.slice a1 xs.length cap1) ∧ w'.cell? ⟨w.heap.size + 1, 0, none⟩ = some (.slice a2 ys.length cap2) ∧ Kp w2 0 w')
      (first
        | (go_split_ands
           repeat' apply And.intro
           all_goals (first | (with_reducible assumption) | (with_reducible exact cell_drew (by assumption)) | (with_reducible exact Kp.drew (by assumption)) | (with_reducible exact Kp.cell (by assumption) hb1 (by omega) (by assumption)) | (with_reducible exact Kp.call (by assumption) hb1) | (with_reducible exact Kp.cell_alloc (by assumption) _ (by omega) (by assumption)) | (with_reducible exact Kp.alloc (by assumption) _) | (with_reducible exact Kp.cell_alloc_drew (by assumption) _ (by omega) (by assumption)) | (with_reducible exact Kp.alloc_drew (by assumption) _) | (with_reducible exact Kp.reall (by assumption) (by omega) _) | (with_reducible exact cell_realloc (by omega) (by assumption) _) | (with_reducible exact cell_set1 (by assumption) (by omega)) | (with_reducible exact Kept.Kp.set1 (by assumption) (by omega) _))))
      (first | (go_split_ands; go_at_call 40; (with_reducible refine (to_big a1 cap1 w.heap.size xs _ (by omega) (rd_kp R1.out (by with_reducible assumption) (by omega)) (kp_le (by with_reducible assumption) (by omega))).mono ?_); rintro e wA ⟨gA, rfl, hgA, hatA, hb1⟩; have HATA := hid hatA) | (go_split_ands; go_at_call 40; (with_reducible refine (to_big a2 cap2 w.heap.size ys _ (by omega) (rd_kp R2.out (by with_reducible assumption) (by omega)) (kp_le (by with_reducible assumption) (by omega))).mono ?_); rintro e wB ⟨gB, rfl, hgB, hatB, hb1⟩; have HATB := hid hatB; have HATA : Hid (At wB gA 3 xs.length xs) := hid (by first | (with_reducible exact at_below' HATA.out hb1) | (with_reducible exact at_below' HATA.out.drew hb1))) | (go_split_ands; go_at_call 45; (with_reducible refine (S.out _ gA gB (by first | (with_reducible exact HATA.out) | (with_reducible exact HATA.out.drew)) (by first | (with_reducible exact HATB.out) | (with_reducible exact HATB.out.drew))).mono ?_); rintro e wC ⟨rfl, hb1⟩))
    all_goals
      go_wp2_with fail
      go_meet
      go_split_ands
      exact ⟨rfl, by with_reducible assumption⟩
  case rest =>
    obtain ⟨rfl, hk⟩ := hcut
    obtain ⟨wd, rfl⟩ : ∃ wo : World, wo = wc := ⟨_, rfl⟩
    have hb := hk.bel
    have hsd := hb.size
    clear hk hk2
    replace OA := hid (OA.out.below' hb)
    replace OB := hid (OB.out.below' hb)
    replace B := hid (B.out.trans (hb.mono B.out.size))
    clear hb
    obtain ⟨cOA_3, _, zOA_3⟩ := OA.out
    go_wp2_with fail
    refine (to_big a1 cap1 w.heap.size xs _ (by omega) (r1.below B.out) B.out.size).mono ?_
    rintro e w3 ⟨gx, rfl, hgx, X0, hb⟩
    clear cOA_3 zOA_3
    replace OA := hid (OA.out.below' hb)
    replace OB := hid (OB.out.below' hb)
    replace B := hid (B.out.trans (hb.mono B.out.size))
    clear hb
    have hx1 := X0.lt
    have X : RowKit.Hid (Own w3 gx 3 (.slice (some ⟨gx, 0, none⟩) xs.length xs.length) xs) := hid (X0.own (Nat.le_refl _))
    clear X0
    obtain ⟨cOB_4, _, zOB_4⟩ := OB.out
    go_wp2_with fail
    clear cOB_4 zOB_4
    have O8 := hid (one_new w3 (.slice (some ⟨gx, 0, none⟩) xs.length xs.length) 34)
    replace OA := hid (OA.out.alloc (.cells #[(.slice (some ⟨gx, 0, none⟩) xs.length xs.length)] 34))
    replace OB := hid (OB.out.alloc (.cells #[(.slice (some ⟨gx, 0, none⟩) xs.length xs.length)] 34))
    replace X := hid (X.out.alloc (.cells #[(.slice (some ⟨gx, 0, none⟩) xs.length xs.length)] 34))
    replace B := hid (B.out.alloc B.out.size (.cells #[(.slice (some ⟨gx, 0, none⟩) xs.length xs.length)] 34))
    refine (to_big a2 cap2 w.heap.size ys _ (by omega) (r2.below B.out) B.out.size).mono ?_
    rintro e w4 ⟨gy, rfl, hgy, Y0, hb⟩
    simp only [World.size_alloc] at hgy
    have hs4 := hb.size
    (try simp only [World.size_alloc] at hs4)
    replace OA := hid (OA.out.below' hb)
    replace OB := hid (OB.out.below' hb)
    replace O8 := hid (O8.out.below' hb)
    replace X := hid (X.out.below' hb)
    replace B := hid (B.out.trans (hb.mono B.out.size))
    clear hb
    have hy1 := Y0.lt
    have Y : RowKit.Hid (Own w4 gy 3 (.slice (some ⟨gy, 0, none⟩) ys.length ys.length) ys) := hid (Y0.own (Nat.le_refl _))
    clear Y0
    obtain ⟨cO8_5, _, zO8_5⟩ := O8.out
    go_wp2_with fail
    clear cO8_5 zO8_5
    have O9 := hid (one_new w4 (.slice (some ⟨gy, 0, none⟩) ys.length ys.length) 34)
    replace OA := hid (OA.out.alloc (.cells #[(.slice (some ⟨gy, 0, none⟩) ys.length ys.length)] 34))
    replace OB := hid (OB.out.alloc (.cells #[(.slice (some ⟨gy, 0, none⟩) ys.length ys.length)] 34))
    replace O8 := hid (O8.out.alloc (.cells #[(.slice (some ⟨gy, 0, none⟩) ys.length ys.length)] 34))
    replace X := hid (X.out.alloc (.cells #[(.slice (some ⟨gy, 0, none⟩) ys.length ys.length)] 34))
    replace Y := hid (Y.out.alloc (.cells #[(.slice (some ⟨gy, 0, none⟩) ys.length ys.length)] 34))
    replace B := hid (B.out.alloc B.out.size (.cells #[(.slice (some ⟨gy, 0, none⟩) ys.length ys.length)] 34))
    refine (I.out _ gx gy X.out Y.out).mono ?_
    rintro e w6 ⟨rfl, hb⟩
    have hs6 := hb.size
    (try simp only [World.size_alloc] at hs6)
    replace OA := hid (OA.out.below' hb)
    replace OB := hid (OB.out.below' hb)
    replace O8 := hid (O8.out.below' hb)
    replace O9 := hid (O9.out.below' hb)
    replace X := hid (X.out.below' hb)
    replace Y := hid (Y.out.below' hb)
    replace B := hid (B.out.trans (hb.mono B.out.size))
    clear hb
    have R3 := hid (r1.below B.out)
    obtain ⟨cO8_6, _, zO8_6⟩ := O8.out
    obtain ⟨cOA_6, _, zOA_6⟩ := OA.out
    have hk0 := kp_refl w6
    go_upto_region 14 with fail
    go_cut [39] (fun s wx => s = .bool false ∧ Kp w6 0 wx)
    case first =>
      go_region_held3 (fun w' => w'.cell? ⟨w.heap.size, 0, none⟩ = some (.slice a1 xs.length cap1) ∧ w'.cell? ⟨w3.heap.size, 0, none⟩ = some (.slice (some ⟨gx, 0, none⟩) xs.length xs.length) ∧ Kp w6 0 w')
        (first
          | (go_split_ands
             repeat' apply And.intro
             all_goals (first | (with_reducible assumption) | (with_reducible exact cell_drew (by assumption)) | (with_reducible exact Kp.drew (by assumption)) | (with_reducible exact Kp.cell (by assumption) hb1 (by omega) (by assumption)) | (with_reducible exact Kp.call (by assumption) hb1) | (with_reducible exact Kp.cell_alloc (by assumption) _ (by omega) (by assumption)) | (with_reducible exact Kp.alloc (by assumption) _) | (with_reducible exact Kp.cell_alloc_drew (by assumption) _ (by omega) (by assumption)) | (with_reducible exact Kp.alloc_drew (by assumption) _) | (with_reducible exact Kp.reall (by assumption) (by omega) _) | (with_reducible exact cell_realloc (by omega) (by assumption) _) | (with_reducible exact cell_set1 (by assumption) (by omega)) | (with_reducible exact Kept.Kp.set1 (by assumption) (by omega) _))))
        (first
          | (go_split_ands; go_at_call 40; (with_reducible refine (to_big _ _ w.heap.size xs _ (by omega) (rd_kp R3.out (by with_reducible assumption) (by omega)) (kp_le (by with_reducible assumption) (by omega))).mono ?_); rintro e wT ⟨gT, rfl, hgT, hatT, hb1⟩)
          | (go_split_ands; go_at_call 42; (with_reducible refine (eq_big _ _ _ _ xs w6.heap.size (gT + 1) _ (by omega) (rd_kp (own_rd X.out) (by with_reducible assumption) (Nat.le_refl _)) (by first | exact hatT.rd | exact hatT.drew.rd) (kp_le (by with_reducible assumption) (Nat.le_refl _)) (by first | exact Nat.succ_le_of_lt hatT.lt | exact Nat.succ_le_of_lt hatT.drew.lt)).mono ?_); rintro e wU ⟨rfl, hb1⟩))
      all_goals
        go_wp2_with fail
        go_meet
        go_split_ands
        exact ⟨rfl, by with_reducible assumption⟩
    case rest =>
      obtain ⟨rfl, hk⟩ := hcut
      obtain ⟨w7, rfl⟩ : ∃ wo : World, wo = wc := ⟨_, rfl⟩
      clear hk0
      clear cO8_6 zO8_6 cOA_6 zOA_6
      have hb := hk.bel
      clear hk
      replace OA := hid (OA.out.below' hb)
      replace OB := hid (OB.out.below' hb)
      replace O8 := hid (O8.out.below' hb)
      replace O9 := hid (O9.out.below' hb)
      replace X := hid (X.out.below' hb)
      replace Y := hid (Y.out.below' hb)
      replace B := hid (B.out.trans (hb.mono B.out.size))
      clear hb
      have hs7 := B.out.size
      have R5 := hid (r2.below B.out)
      obtain ⟨cO9_7, _, zO9_7⟩ := O9.out
      obtain ⟨cOB_7, _, zOB_7⟩ := OB.out
      have hk0 := kp_refl w7
      go_upto_region 16 with fail
      go_cut [44] (fun s wx => s = .bool false ∧ Kp w7 0 wx)
      case first =>
        go_region_held3 (fun w' => w'.cell? ⟨w.heap.size + 1, 0, none⟩ = some (.slice a2 ys.length cap2) ∧ w'.cell? ⟨w4.heap.size, 0, none⟩ = some (.slice (some ⟨gy, 0, none⟩) ys.length ys.length) ∧ Kp w7 0 w')
          (first
            | (go_split_ands
               repeat' apply And.intro
               all_goals (first | (with_reducible assumption) | (with_reducible exact cell_drew (by assumption)) | (with_reducible exact Kp.drew (by assumption)) | (with_reducible exact Kp.cell (by assumption) hb1 (by omega) (by assumption)) | (with_reducible exact Kp.call (by assumption) hb1) | (with_reducible exact Kp.cell_alloc (by assumption) _ (by omega) (by assumption)) | (with_reducible exact Kp.alloc (by assumption) _) | (with_reducible exact Kp.cell_alloc_drew (by assumption) _ (by omega) (by assumption)) | (with_reducible exact Kp.alloc_drew (by assumption) _) | (with_reducible exact Kp.reall (by assumption) (by omega) _) | (with_reducible exact cell_realloc (by omega) (by assumption) _) | (with_reducible exact cell_set1 (by assumption) (by omega)) | (with_reducible exact Kept.Kp.set1 (by assumption) (by omega) _))))
          (first
            | (go_split_ands; go_at_call 40; (with_reducible refine (to_big _ _ w.heap.size ys _ (by omega) (rd_kp R5.out (by with_reducible assumption) (by omega)) (kp_le (by with_reducible assumption) (by omega))).mono ?_); rintro e wT ⟨gT, rfl, hgT, hatT, hb1⟩)
            | (go_split_ands; go_at_call 42; (with_reducible refine (eq_big _ _ _ _ ys w7.heap.size (gT + 1) _ (by omega) (rd_kp (own_rd Y.out) (by with_reducible assumption) (Nat.le_refl _)) (by first | exact hatT.rd | exact hatT.drew.rd) (kp_le (by with_reducible assumption) (Nat.le_refl _)) (by first | exact Nat.succ_le_of_lt hatT.lt | exact Nat.succ_le_of_lt hatT.drew.lt)).mono ?_); rintro e wU ⟨rfl, hb1⟩))
        all_goals
          go_wp2_with fail
          go_meet
          go_split_ands
          exact ⟨rfl, by with_reducible assumption⟩
      case rest =>
        obtain ⟨rfl, hk⟩ := hcut
        obtain ⟨w8, rfl⟩ : ∃ wo : World, wo = wc := ⟨_, rfl⟩
        clear hk0
        clear cO9_7 zO9_7 cOB_7 zOB_7
        have hb := hk.bel
        clear hk
        replace OA := hid (OA.out.below' hb)
        replace OB := hid (OB.out.below' hb)
        replace O8 := hid (O8.out.below' hb)
        replace O9 := hid (O9.out.below' hb)
        replace X := hid (X.out.below' hb)
        replace Y := hid (Y.out.below' hb)
        replace B := hid (B.out.trans (hb.mono B.out.size))
        clear hb
        go_wp2_with fail
        go_ret
        exact ⟨rfl, B.out⟩
end Go.Proofs.Ytanfakpeongfjaa.CompareBigIntsC
