/- The walk of law FnExactAddBigInt. -/
import Derived.Test.YtanfakpeongfjaaIntLaw
import Derived.Test.YtanfakpeongfjaaKept
import Derived.Deep.RegionHeld3
import Derived.Deep.DeepCutAuto
namespace Go.Proofs.Ytanfakpeongfjaa.AddBigIntC
open Go.RowKit
open Go.Proofs.Ytanfakpeongfjaa.Num Go.Proofs.Ytanfakpeongfjaa.IntRow Go.Proofs.Ytanfakpeongfjaa.IntLaw Go.Proofs.Ytanfakpeongfjaa.Keep Go.Proofs.Ytanfakpeongfjaa.Kept
set_option linter.unusedVariables false

set_option maxRecDepth 100000 in
set_option maxHeartbeats 2000000 in
theorem core (a1 a2 : Option Addr) (cap1 cap2 : Nat) (xs ys zs : List Int) (b : Bool) (w : World) (hx : xs.length + ys.length ≤ 1048576) (hz : zs.length ≤ 1048576) (r1 : Rd w w.heap.size a1 xs) (r2 : Rd w w.heap.size a2 ys)
    (S : RowKit.Hid (∀ (W : World) (g1 g2 : Nat), At W g1 3 xs.length xs → At W g2 3 ys.length ys → Calls Try.prog 28 #[.agg #[.slice (some ⟨g1, 0, none⟩) xs.length xs.length], .agg #[.slice (some ⟨g2, 0, none⟩) ys.length ys.length]] W fun e w' => ∃ a cap, e = .returned (.tuple #[.agg #[.slice a zs.length cap], .bool b]) ∧ Own w' W.heap.size 3 (.slice a zs.length cap) zs ∧ Below W.heap.size W w'))
    (I : RowKit.Hid (∀ (W : World) (g1 g2 : Nat), At W g1 3 xs.length xs → At W g2 3 ys.length ys → Calls Try.prog 26 #[.agg #[.slice (some ⟨g1, 0, none⟩) xs.length xs.length], .agg #[.slice (some ⟨g2, 0, none⟩) ys.length ys.length]] W fun e w' => ∃ a cap, e = .returned (.tuple #[.agg #[.slice a zs.length cap], .bool b]) ∧ Own w' W.heap.size 3 (.slice a zs.length cap) zs ∧ Below W.heap.size W w')) :
    Calls Try.prog 9 #[.agg #[.slice a1 xs.length cap1], .agg #[.slice a2 ys.length cap2]] w fun e w' => e = .returned (.bool true) ∧ Below w.heap.size w w' := by
  have OA := hid ((one_new w (.slice a1 xs.length cap1) 47).alloc (.cells #[.slice a2 ys.length cap2] 47))
  have OB := hid (one_new (w.alloc (.cells #[.slice a1 xs.length cap1] 47)) (.slice a2 ys.length cap2) 47)
  simp only [World.size_alloc] at OB
  have B := hid (((Below.refl w.heap.size w).alloc (Nat.le_refl _) (.cells #[.slice a1 xs.length cap1] 47)).alloc (by simp) (.cells #[.slice a2 ys.length cap2] 47))
  have t1 : ¬ (1048576 - (xs.length : Int) < 0) := by omega
  have t2 : ¬ (1048576 - (xs.length : Int) - (ys.length : Int) < 0) := by omega
  have hnb : (b != b) = false := by simp
  go_enter Try.func9, Try.ntmps9
  go_wp2_with fail
  refine (sz_big_ok a1 xs.length cap1 1048576 _ (by omega) (by omega)).mono ?_
  rintro e w1 ⟨rfl, hb⟩
  replace OA := hid (OA.out.below' hb)
  replace OB := hid (OB.out.below' hb)
  replace B := hid (B.out.trans (hb.mono B.out.size))
  clear hb
  obtain ⟨cOA_1, _, zOA_1⟩ := OA.out
  obtain ⟨cOB_1, _, zOB_1⟩ := OB.out
  go_wp2_with fail
  refine (sz_big_ok a2 ys.length cap2 (1048576 - (xs.length : Int)) _ (by omega) (by omega)).mono ?_
  rintro e w2 ⟨rfl, hb⟩
  clear cOA_1 zOA_1 cOB_1 zOB_1
  replace OA := hid (OA.out.below' hb)
  replace OB := hid (OB.out.below' hb)
  replace B := hid (B.out.trans (hb.mono B.out.size))
  clear hb
  have R1 := hid (r1.below B.out)
  have R2 := hid (r2.below B.out)
  have hs2 : w.heap.size + 2 ≤ w2.heap.size := by have := OB.out.2.2; omega
  have hk2 := kp_refl w2
  obtain ⟨cOA_2, _, zOA_2⟩ := OA.out
  obtain ⟨cOB_2, _, zOB_2⟩ := OB.out
  go_upto_region 8 with fail
  go_cut [6, 7] (fun s6 s7 wx => ∃ (g : Nat) (a0 : Option Addr) (cap0 : Nat), s6 = .pointer (some ⟨g, 0, none⟩) ∧ s7 = .bool b ∧ One wx g (.slice a0 zs.length cap0) ∧ Own wx w2.heap.size 3 (.slice a0 zs.length cap0) zs ∧ w2.heap.size ≤ g ∧ Kp w2 0 wx)
  case first =>
    go_region_held3 (fun w' => w'.cell? ⟨w.heap.size, 0, none⟩ = some (.slice a1 xs.length cap1) ∧ w'.cell? ⟨w.heap.size + 1, 0, none⟩ = some (.slice a2 ys.length cap2) ∧ Kp w2 0 w')
      (first
        | (go_split_ands
           repeat' apply And.intro
           all_goals (first | (with_reducible assumption) | (with_reducible exact cell_drew (by assumption)) | (with_reducible exact Kp.drew (by assumption)) | (with_reducible exact Kp.cell (by assumption) hb1 (by omega) (by assumption)) | (with_reducible exact Kp.call (by assumption) hb1) | (with_reducible exact Kp.cell_alloc (by assumption) _ (by omega) (by assumption)) | (with_reducible exact Kp.alloc (by assumption) _) | (with_reducible exact Kp.cell_alloc_drew (by assumption) _ (by omega) (by assumption)) | (with_reducible exact Kp.alloc_drew (by assumption) _) | (with_reducible exact Kp.reall (by assumption) (by omega) _) | (with_reducible exact cell_realloc (by omega) (by assumption) _) | (with_reducible exact cell_set1 (by assumption) (by omega)) | (with_reducible exact Kept.Kp.set1 (by assumption) (by omega) _))))
      (first | (go_split_ands; go_at_call 40; (with_reducible refine (to_big a1 cap1 w.heap.size xs _ (by omega) (rd_kp R1.out (by with_reducible assumption) (by omega)) (kp_le (by with_reducible assumption) (by omega))).mono ?_); rintro e wA ⟨gA, rfl, hgA, hatA, hb1⟩; have hz0 := hb1.size; (try simp only [World.size_alloc] at hz0); have hz1 : w2.heap.size ≤ wA.heap.size := (by have hk0 : Kp w2 0 _ := (by with_reducible assumption); have hk1 := hk0.sz; (try simp only [World.size_alloc] at hk1); omega); have HATA := hid hatA; (try (first | (with_reducible have HN := hid (HN.out.below' hb1)) | (with_reducible have HN := hid (HN.out.drew.below' hb1)) | (with_reducible have HN := hid (one_kept hb1)) | (with_reducible have HN := hid (one_kept_drew hb1)))); (try (obtain ⟨m0, m1, m2⟩ := HN.out))) | (go_split_ands; go_at_call 40; (with_reducible refine (to_big a2 cap2 w.heap.size ys _ (by omega) (rd_kp R2.out (by with_reducible assumption) (by omega)) (kp_le (by with_reducible assumption) (by omega))).mono ?_); rintro e wB ⟨gB, rfl, hgB, hatB, hb1⟩; have hz0 := hb1.size; (try simp only [World.size_alloc] at hz0); have hz1 : w2.heap.size ≤ wB.heap.size := (by have hk0 : Kp w2 0 _ := (by with_reducible assumption); have hk1 := hk0.sz; (try simp only [World.size_alloc] at hk1); omega); have HATB := hid hatB; have HATA : Hid (At wB gA 3 xs.length xs) := hid (by first | (with_reducible exact at_below' HATA.out hb1) | (with_reducible exact at_below' HATA.out.drew hb1) | (with_reducible exact at_below' (HATA.out.alloc _) hb1) | (with_reducible exact at_below' (HATA.out.alloc _).drew hb1)); (try (first | (with_reducible have HN := hid (HN.out.below' hb1)) | (with_reducible have HN := hid (HN.out.drew.below' hb1)) | (with_reducible have HN := hid (one_kept hb1)) | (with_reducible have HN := hid (one_kept_drew hb1)))); (try (obtain ⟨m0, m1, m2⟩ := HN.out))) | (go_split_ands; go_at_call 28; (with_reducible refine (S.out _ gA gB (by first | (with_reducible exact HATA.out) | (with_reducible exact HATA.out.drew) | (with_reducible exact HATA.out.alloc _) | (with_reducible exact (HATA.out.alloc _).drew)) (by first | (with_reducible exact HATB.out) | (with_reducible exact HATB.out.drew) | (with_reducible exact HATB.out.alloc _) | (with_reducible exact (HATB.out.alloc _).drew))).mono ?_); rintro e wC ⟨a0, cap0, rfl, hown, hb1⟩; have hz0 := hb1.size; (try simp only [World.size_alloc] at hz0); have hz1 : w2.heap.size ≤ wC.heap.size := (by have hk0 : Kp w2 0 _ := (by with_reducible assumption); have hk1 := hk0.sz; (try simp only [World.size_alloc] at hk1); omega); have HO := hid hown; clear hown; (try (first | (with_reducible have HN := hid (HN.out.below' hb1)) | (with_reducible have HN := hid (HN.out.drew.below' hb1)) | (with_reducible have HN := hid (one_kept hb1)) | (with_reducible have HN := hid (one_kept_drew hb1)))); (try (obtain ⟨m0, m1, m2⟩ := HN.out))))
    all_goals
      go_wp2_with fail
      go_meet
      go_split_ands
      first
        | exact ⟨_, a0, cap0, rfl, rfl, one_new _ _ _, (HO.out.alloc _).mono (by (try simp only [World.size_alloc]); omega), by omega, by with_reducible assumption⟩
        | exact ⟨_, a0, cap0, rfl, rfl, HN.out.set _, (own_far HO.out (by (try simp only [World.size_alloc]); omega) _).mono (by (try simp only [World.size_alloc]); omega), by omega, by with_reducible assumption⟩
  case rest =>
    obtain ⟨g0, a0, cap0, rfl, rfl, OW, V0, hg0, hk⟩ := hcut
    obtain ⟨wd, rfl⟩ : ∃ wo : World, wo = wc := ⟨_, rfl⟩
    have hb := hk.bel
    have hsd := hb.size
    clear hk hk2
    replace OA := hid (OA.out.below' hb)
    replace OB := hid (OB.out.below' hb)
    replace B := hid (B.out.trans (hb.mono B.out.size))
    clear hb
    have hg1 := OW.2.2
    have L0 := hid V0.lt
    replace OW := hid OW
    replace V0 := hid V0
    obtain ⟨cOA_3, _, zOA_3⟩ := OA.out
    go_wp2_with fail
    refine (to_big a1 cap1 w.heap.size xs _ (by omega) (r1.below B.out) B.out.size).mono ?_
    rintro e w3 ⟨gx, rfl, hgx, X0, hb⟩
    clear cOA_3 zOA_3
    replace OA := hid (OA.out.below' hb)
    replace OB := hid (OB.out.below' hb)
    replace OW := hid (OW.out.below' hb)
    replace V0 := hid (V0.out.below' hb)
    replace B := hid (B.out.trans (hb.mono B.out.size))
    clear hb
    have hx1 := X0.lt
    have X : RowKit.Hid (Own w3 gx 3 (.slice (some ⟨gx, 0, none⟩) xs.length xs.length) xs) := hid (X0.own (Nat.le_refl _))
    clear X0
    obtain ⟨cOB_4, _, zOB_4⟩ := OB.out
    go_wp2_with fail
    clear cOB_4 zOB_4
    have O8 := hid (one_new w3 (.slice (some ⟨gx, 0, none⟩) xs.length xs.length) 34)
    replace OA := hid (OA.out.alloc (.cells #[(.slice (some ⟨gx, 0, none⟩) xs.length xs.length)] 34))
    replace OB := hid (OB.out.alloc (.cells #[(.slice (some ⟨gx, 0, none⟩) xs.length xs.length)] 34))
    replace OW := hid (OW.out.alloc (.cells #[(.slice (some ⟨gx, 0, none⟩) xs.length xs.length)] 34))
    replace V0 := hid (V0.out.alloc (.cells #[(.slice (some ⟨gx, 0, none⟩) xs.length xs.length)] 34))
    replace X := hid (X.out.alloc (.cells #[(.slice (some ⟨gx, 0, none⟩) xs.length xs.length)] 34))
    replace B := hid (B.out.alloc B.out.size (.cells #[(.slice (some ⟨gx, 0, none⟩) xs.length xs.length)] 34))
    refine (to_big a2 cap2 w.heap.size ys _ (by omega) (r2.below B.out) B.out.size).mono ?_
    rintro e w4 ⟨gy, rfl, hgy, Y0, hb⟩
    simp only [World.size_alloc] at hgy
    have hs4 := hb.size
    (try simp only [World.size_alloc] at hs4)
    replace OA := hid (OA.out.below' hb)
    replace OB := hid (OB.out.below' hb)
    replace OW := hid (OW.out.below' hb)
    replace O8 := hid (O8.out.below' hb)
    replace V0 := hid (V0.out.below' hb)
    replace X := hid (X.out.below' hb)
    replace B := hid (B.out.trans (hb.mono B.out.size))
    clear hb
    have hy1 := Y0.lt
    have Y : RowKit.Hid (Own w4 gy 3 (.slice (some ⟨gy, 0, none⟩) ys.length ys.length) ys) := hid (Y0.own (Nat.le_refl _))
    clear Y0
    obtain ⟨cO8_5, _, zO8_5⟩ := O8.out
    go_wp2_with fail
    clear cO8_5 zO8_5
    have O9 := hid (one_new w4 (.slice (some ⟨gy, 0, none⟩) ys.length ys.length) 34)
    replace OA := hid (OA.out.alloc (.cells #[(.slice (some ⟨gy, 0, none⟩) ys.length ys.length)] 34))
    replace OB := hid (OB.out.alloc (.cells #[(.slice (some ⟨gy, 0, none⟩) ys.length ys.length)] 34))
    replace OW := hid (OW.out.alloc (.cells #[(.slice (some ⟨gy, 0, none⟩) ys.length ys.length)] 34))
    replace O8 := hid (O8.out.alloc (.cells #[(.slice (some ⟨gy, 0, none⟩) ys.length ys.length)] 34))
    replace V0 := hid (V0.out.alloc (.cells #[(.slice (some ⟨gy, 0, none⟩) ys.length ys.length)] 34))
    replace X := hid (X.out.alloc (.cells #[(.slice (some ⟨gy, 0, none⟩) ys.length ys.length)] 34))
    replace Y := hid (Y.out.alloc (.cells #[(.slice (some ⟨gy, 0, none⟩) ys.length ys.length)] 34))
    replace B := hid (B.out.alloc B.out.size (.cells #[(.slice (some ⟨gy, 0, none⟩) ys.length ys.length)] 34))
    refine (I.out _ gx gy X.out Y.out).mono ?_
    rintro e w5 ⟨a3, cap3, rfl, G0, hb⟩
    have hs5 := hb.size
    (try simp only [World.size_alloc] at hs5)
    have LG := hid G0.lt
    simp only [World.size_alloc] at LG
    replace OA := hid (OA.out.below' hb)
    replace OB := hid (OB.out.below' hb)
    replace OW := hid (OW.out.below' hb)
    replace O8 := hid (O8.out.below' hb)
    replace O9 := hid (O9.out.below' hb)
    replace V0 := hid (V0.out.below' hb)
    replace X := hid (X.out.below' hb)
    replace Y := hid (Y.out.below' hb)
    replace B := hid (B.out.trans (hb.mono B.out.size))
    clear hb
    have G := hid G0
    clear G0
    obtain ⟨cOW_6, _, zOW_6⟩ := OW.out
    go_wp2_with fail
    clear cOW_6 zOW_6
    have O10 := hid (one_new w5 (.slice a3 zs.length cap3) 34)
    replace OA := hid (OA.out.alloc (.cells #[(.slice a3 zs.length cap3)] 34))
    replace OB := hid (OB.out.alloc (.cells #[(.slice a3 zs.length cap3)] 34))
    replace OW := hid (OW.out.alloc (.cells #[(.slice a3 zs.length cap3)] 34))
    replace O8 := hid (O8.out.alloc (.cells #[(.slice a3 zs.length cap3)] 34))
    replace O9 := hid (O9.out.alloc (.cells #[(.slice a3 zs.length cap3)] 34))
    replace V0 := hid (V0.out.alloc (.cells #[(.slice a3 zs.length cap3)] 34))
    replace X := hid (X.out.alloc (.cells #[(.slice a3 zs.length cap3)] 34))
    replace Y := hid (Y.out.alloc (.cells #[(.slice a3 zs.length cap3)] 34))
    replace G := hid (G.out.alloc (.cells #[(.slice a3 zs.length cap3)] 34))
    replace B := hid (B.out.alloc B.out.size (.cells #[(.slice a3 zs.length cap3)] 34))
    refine (eq_big _ _ _ _ zs _ _ _ hz (own_rd G.out) (own_rd V0.out) (Nat.le_refl _) (Nat.le_refl _)).mono ?_
    rintro e w6 ⟨rfl, hb⟩
    have hs6 := hb.size
    (try simp only [World.size_alloc] at hs6)
    replace OA := hid (OA.out.below' hb)
    replace OB := hid (OB.out.below' hb)
    replace OW := hid (OW.out.below' hb)
    replace O8 := hid (O8.out.below' hb)
    replace O9 := hid (O9.out.below' hb)
    replace O10 := hid (O10.out.below' hb)
    replace V0 := hid (V0.out.below' hb)
    replace X := hid (X.out.below' hb)
    replace Y := hid (Y.out.below' hb)
    replace G := hid (G.out.below' hb)
    replace B := hid (B.out.trans (hb.mono B.out.size))
    clear hb
    have R3 := hid (r1.below B.out)
    have R4 := hid (r2.below B.out)
    obtain ⟨cO8_7, _, zO8_7⟩ := O8.out
    obtain ⟨cOA_7, _, zOA_7⟩ := OA.out
    have hk0 := kp_refl w6
    go_upto_region 14 with fail
    go_cut [58] (fun s wx => s = .bool false ∧ Kp w6 0 wx)
    case first =>
      go_region_held3 (fun w' => w'.cell? ⟨w.heap.size, 0, none⟩ = some (.slice a1 xs.length cap1) ∧ w'.cell? ⟨w3.heap.size, 0, none⟩ = some (.slice (some ⟨gx, 0, none⟩) xs.length xs.length) ∧ Kp w6 0 w')
        (first
          | (go_split_ands
             repeat' apply And.intro
             all_goals (first | (with_reducible assumption) | (with_reducible exact cell_drew (by assumption)) | (with_reducible exact Kp.drew (by assumption)) | (with_reducible exact Kp.cell (by assumption) hb1 (by omega) (by assumption)) | (with_reducible exact Kp.call (by assumption) hb1) | (with_reducible exact Kp.cell_alloc (by assumption) _ (by omega) (by assumption)) | (with_reducible exact Kp.alloc (by assumption) _) | (with_reducible exact Kp.cell_alloc_drew (by assumption) _ (by omega) (by assumption)) | (with_reducible exact Kp.alloc_drew (by assumption) _) | (with_reducible exact Kp.reall (by assumption) (by omega) _) | (with_reducible exact cell_realloc (by omega) (by assumption) _) | (with_reducible exact cell_set1 (by assumption) (by omega)) | (with_reducible exact Kept.Kp.set1 (by assumption) (by omega) _))))
        (first
          | (go_split_ands; go_at_call 40; (with_reducible refine (to_big _ _ w.heap.size xs _ (by omega) (rd_kp R3.out (by with_reducible assumption) (by omega)) (kp_le (by with_reducible assumption) (by omega))).mono ?_); rintro e wT ⟨gT, rfl, hgT, hatT, hb1⟩)
          | (go_split_ands; go_at_call 42; (with_reducible refine (eq_big _ _ _ _ xs w6.heap.size (gT + 1) _ (by omega) (rd_kp (own_rd X.out) (by with_reducible assumption) (Nat.le_refl _)) (by first | exact hatT.rd | exact hatT.drew.rd) (kp_le (by with_reducible assumption) (Nat.le_refl _)) (by first | exact Nat.succ_le_of_lt hatT.lt | exact Nat.succ_le_of_lt hatT.drew.lt)).mono ?_); rintro e wU ⟨rfl, hb1⟩))
      all_goals
        go_wp2_with fail
        go_meet
        go_split_ands
        exact ⟨rfl, by with_reducible assumption⟩
    case rest =>
      obtain ⟨rfl, hk⟩ := hcut
      obtain ⟨w7, rfl⟩ : ∃ wo : World, wo = wc := ⟨_, rfl⟩
      clear hk0
      clear cO8_7 zO8_7 cOA_7 zOA_7
      have hb := hk.bel
      clear hk
      replace OA := hid (OA.out.below' hb)
      replace OB := hid (OB.out.below' hb)
      replace OW := hid (OW.out.below' hb)
      replace O8 := hid (O8.out.below' hb)
      replace O9 := hid (O9.out.below' hb)
      replace O10 := hid (O10.out.below' hb)
      replace V0 := hid (V0.out.below' hb)
      replace X := hid (X.out.below' hb)
      replace Y := hid (Y.out.below' hb)
      replace G := hid (G.out.below' hb)
      replace B := hid (B.out.trans (hb.mono B.out.size))
      clear hb
      have hs7 := B.out.size
      have R5 := hid (r2.below B.out)
      obtain ⟨cO9_8, _, zO9_8⟩ := O9.out
      obtain ⟨cOB_8, _, zOB_8⟩ := OB.out
      have hk0 := kp_refl w7
      go_upto_region 16 with fail
      go_cut [63] (fun s wx => s = .bool false ∧ Kp w7 0 wx)
      case first =>
        go_region_held3 (fun w' => w'.cell? ⟨w.heap.size + 1, 0, none⟩ = some (.slice a2 ys.length cap2) ∧ w'.cell? ⟨w4.heap.size, 0, none⟩ = some (.slice (some ⟨gy, 0, none⟩) ys.length ys.length) ∧ Kp w7 0 w')
          (first
            | (go_split_ands
               repeat' apply And.intro
               all_goals (first | (with_reducible assumption) | (with_reducible exact cell_drew (by assumption)) | (with_reducible exact Kp.drew (by assumption)) | (with_reducible exact Kp.cell (by assumption) hb1 (by omega) (by assumption)) | (with_reducible exact Kp.call (by assumption) hb1) | (with_reducible exact Kp.cell_alloc (by assumption) _ (by omega) (by assumption)) | (with_reducible exact Kp.alloc (by assumption) _) | (with_reducible exact Kp.cell_alloc_drew (by assumption) _ (by omega) (by assumption)) | (with_reducible exact Kp.alloc_drew (by assumption) _) | (with_reducible exact Kp.reall (by assumption) (by omega) _) | (with_reducible exact cell_realloc (by omega) (by assumption) _) | (with_reducible exact cell_set1 (by assumption) (by omega)) | (with_reducible exact Kept.Kp.set1 (by assumption) (by omega) _))))
          (first
            | (go_split_ands; go_at_call 40; (with_reducible refine (to_big _ _ w.heap.size ys _ (by omega) (rd_kp R5.out (by with_reducible assumption) (by omega)) (kp_le (by with_reducible assumption) (by omega))).mono ?_); rintro e wT ⟨gT, rfl, hgT, hatT, hb1⟩)
            | (go_split_ands; go_at_call 42; (with_reducible refine (eq_big _ _ _ _ ys w7.heap.size (gT + 1) _ (by omega) (rd_kp (own_rd Y.out) (by with_reducible assumption) (Nat.le_refl _)) (by first | exact hatT.rd | exact hatT.drew.rd) (kp_le (by with_reducible assumption) (Nat.le_refl _)) (by first | exact Nat.succ_le_of_lt hatT.lt | exact Nat.succ_le_of_lt hatT.drew.lt)).mono ?_); rintro e wU ⟨rfl, hb1⟩))
        all_goals
          go_wp2_with fail
          go_meet
          go_split_ands
          exact ⟨rfl, by with_reducible assumption⟩
      case rest =>
        obtain ⟨rfl, hk⟩ := hcut
        obtain ⟨w8, rfl⟩ : ∃ wo : World, wo = wc := ⟨_, rfl⟩
        clear hk0
        clear cO9_8 zO9_8 cOB_8 zOB_8
        have hb := hk.bel
        clear hk
        replace OA := hid (OA.out.below' hb)
        replace OB := hid (OB.out.below' hb)
        replace OW := hid (OW.out.below' hb)
        replace O8 := hid (O8.out.below' hb)
        replace O9 := hid (O9.out.below' hb)
        replace O10 := hid (O10.out.below' hb)
        replace V0 := hid (V0.out.below' hb)
        replace X := hid (X.out.below' hb)
        replace Y := hid (Y.out.below' hb)
        replace G := hid (G.out.below' hb)
        replace B := hid (B.out.trans (hb.mono B.out.size))
        clear hb
        have LX : RowKit.Hid (∀ k, (Value.ownBlock (.slice (some ⟨gx, 0, none⟩) xs.length xs.length)) = some k → k = gx) := hid (fun k hk => (Option.some.inj hk).symm)
        have LY : RowKit.Hid (∀ k, (Value.ownBlock (.slice (some ⟨gy, 0, none⟩) ys.length ys.length)) = some k → k = gy) := hid (fun k hk => (Option.some.inj hk).symm)
        obtain ⟨cO8_9, _, zO8_9⟩ := O8.out
        go_wp2_with fail
        refine (mark_big gx _ 1 xs _ (by omega) (by omega) (by omega) X.out).mono ?_
        rintro e w9 ⟨rfl, X9, hg⟩
        change World.grownBy _ _ (some gx) at hg
        clear cO8_9 zO8_9
        replace OA := hid (OA.out.grown hg (fun e => by have e2 := Option.some.inj e; omega))
        replace OB := hid (OB.out.grown hg (fun e => by have e2 := Option.some.inj e; omega))
        replace OW := hid (OW.out.grown hg (fun e => by have e2 := Option.some.inj e; omega))
        replace O8 := hid (O8.out.grown hg (fun e => by have e2 := Option.some.inj e; omega))
        replace O9 := hid (O9.out.grown hg (fun e => by have e2 := Option.some.inj e; omega))
        replace O10 := hid (O10.out.grown hg (fun e => by have e2 := Option.some.inj e; omega))
        replace V0 := hid (V0.out.grown hg (fun k hk e => by have e2 := Option.some.inj e; have h1 := L0.out k hk; omega))
        replace Y := hid (Y.out.grown hg (fun k hk e => by have e2 := Option.some.inj e; have h1 := LY.out k hk; omega))
        replace G := hid (G.out.grown hg (fun k hk e => by have e2 := Option.some.inj e; have h1 := LG.out k hk; omega))
        replace B := hid (B.out.grown hg B.out.size (fun k hk => by have e2 := Option.some.inj hk; omega))
        clear X X9 hg
        obtain ⟨cO9_10, _, zO9_10⟩ := O9.out
        go_wp2_with fail
        refine (mark_big gy _ (1 + (xs.length : Int)) ys _ (by omega) (by omega) (by omega) Y.out).mono ?_
        rintro e w10 ⟨rfl, Y9, hg⟩
        change World.grownBy _ _ (some gy) at hg
        clear cO9_10 zO9_10
        replace OA := hid (OA.out.grown hg (fun e => by have e2 := Option.some.inj e; omega))
        replace OB := hid (OB.out.grown hg (fun e => by have e2 := Option.some.inj e; omega))
        replace OW := hid (OW.out.grown hg (fun e => by have e2 := Option.some.inj e; omega))
        replace O8 := hid (O8.out.grown hg (fun e => by have e2 := Option.some.inj e; omega))
        replace O9 := hid (O9.out.grown hg (fun e => by have e2 := Option.some.inj e; omega))
        replace O10 := hid (O10.out.grown hg (fun e => by have e2 := Option.some.inj e; omega))
        replace V0 := hid (V0.out.grown hg (fun k hk e => by have e2 := Option.some.inj e; have h1 := L0.out k hk; omega))
        replace G := hid (G.out.grown hg (fun k hk e => by have e2 := Option.some.inj e; have h1 := LG.out k hk; omega))
        replace B := hid (B.out.grown hg B.out.size (fun k hk => by have e2 := Option.some.inj hk; omega))
        clear Y Y9 hg
        have t3 : ¬ (1 + (xs.length : Int) + (ys.length : Int) < 0) := by omega
        obtain ⟨cO10_11, _, zO10_11⟩ := O10.out
        obtain ⟨cOW_11, _, zOW_11⟩ := OW.out
        go_wp2_with fail
        refine (eq_big _ _ _ _ zs _ _ _ hz (own_rd G.out) (own_rd V0.out) (Nat.le_refl _) (Nat.le_refl _)).mono ?_
        rintro e w11 ⟨rfl, hb⟩
        clear cO10_11 zO10_11 cOW_11 zOW_11
        replace OA := hid (OA.out.below' hb)
        replace OB := hid (OB.out.below' hb)
        replace OW := hid (OW.out.below' hb)
        replace O8 := hid (O8.out.below' hb)
        replace O9 := hid (O9.out.below' hb)
        replace O10 := hid (O10.out.below' hb)
        replace V0 := hid (V0.out.below' hb)
        replace G := hid (G.out.below' hb)
        replace B := hid (B.out.trans (hb.mono B.out.size))
        clear hb
        have hneg : ¬ (1 + (zs.length : Int) < 0) := by omega
        have hne : ((1 + (zs.length : Int)) != (1 + (zs.length : Int))) = false := by simp
        obtain ⟨cO10_12, _, zO10_12⟩ := O10.out
        go_wp2_with fail
        refine (mark_big _ _ 1 zs _ hz (by omega) (by omega) G.out).mono ?_
        rintro e w12 ⟨rfl, G4, hg⟩
        clear cO10_12 zO10_12
        replace OA := hid (OA.out.grown hg (fun e => by have h0 := LG.out _ e; omega))
        replace OB := hid (OB.out.grown hg (fun e => by have h0 := LG.out _ e; omega))
        replace OW := hid (OW.out.grown hg (fun e => by have h0 := LG.out _ e; omega))
        replace O10 := hid (O10.out.grown hg (fun e => by have h0 := LG.out _ e; omega))
        replace V0 := hid (V0.out.grown hg (fun k hk e => by have h0 := LG.out _ e; have h1 := L0.out k hk; omega))
        replace B := hid (B.out.grown hg B.out.size (fun k hk => by have h0 := LG.out _ hk; omega))
        clear G
        have G := hid G4
        clear G4 hg
        clear O8 O9
        obtain ⟨cO10_13, _, zO10_13⟩ := O10.out
        go_wp2_with fail
        refine (held_big _ _ 1 zs.length _ _ hz (by omega) (by omega) (own_rd' G.out (marks_length _ _)) (Nat.le_refl _)).mono ?_
        rintro e w13 ⟨rfl, hb⟩
        clear cO10_13 zO10_13
        replace OA := hid (OA.out.below' hb)
        replace OB := hid (OB.out.below' hb)
        replace OW := hid (OW.out.below' hb)
        replace O10 := hid (O10.out.below' hb)
        replace V0 := hid (V0.out.below' hb)
        replace G := hid (G.out.below' hb)
        replace B := hid (B.out.trans (hb.mono B.out.size))
        clear hb
        have R6 := hid (r1.below B.out)
        have R7 := hid (r2.below B.out)
        have hs13 := B.out.size
        have hk2 := kp_refl w13
        have hs14 : w.heap.size + 2 ≤ w13.heap.size := by have := OB.out.2.2; omega
        obtain ⟨cOA_14, _, zOA_14⟩ := OA.out
        obtain ⟨cOB_14, _, zOB_14⟩ := OB.out
        go_upto_region 31 with fail
        go_cut [15, 16] (fun s6 s7 wx => ∃ (g : Nat) (a0 : Option Addr) (cap0 : Nat), s6 = .pointer (some ⟨g, 0, none⟩) ∧ s7 = .bool b ∧ One wx g (.slice a0 zs.length cap0) ∧ Own wx w13.heap.size 3 (.slice a0 zs.length cap0) zs ∧ w13.heap.size ≤ g ∧ Kp w13 0 wx)
        case first =>
          go_region_held3 (fun w' => w'.cell? ⟨w.heap.size, 0, none⟩ = some (.slice a1 xs.length cap1) ∧ w'.cell? ⟨w.heap.size + 1, 0, none⟩ = some (.slice a2 ys.length cap2) ∧ Kp w13 0 w')
            (first
              | (go_split_ands
                 repeat' apply And.intro
                 all_goals (first | (with_reducible assumption) | (with_reducible exact cell_drew (by assumption)) | (with_reducible exact Kp.drew (by assumption)) | (with_reducible exact Kp.cell (by assumption) hb1 (by omega) (by assumption)) | (with_reducible exact Kp.call (by assumption) hb1) | (with_reducible exact Kp.cell_alloc (by assumption) _ (by omega) (by assumption)) | (with_reducible exact Kp.alloc (by assumption) _) | (with_reducible exact Kp.cell_alloc_drew (by assumption) _ (by omega) (by assumption)) | (with_reducible exact Kp.alloc_drew (by assumption) _) | (with_reducible exact Kp.reall (by assumption) (by omega) _) | (with_reducible exact cell_realloc (by omega) (by assumption) _) | (with_reducible exact cell_set1 (by assumption) (by omega)) | (with_reducible exact Kept.Kp.set1 (by assumption) (by omega) _))))
            (first | (go_split_ands; go_at_call 40; (with_reducible refine (to_big a1 cap1 w.heap.size xs _ (by omega) (rd_kp R6.out (by with_reducible assumption) (by omega)) (kp_le (by with_reducible assumption) (by omega))).mono ?_); rintro e wA ⟨gA, rfl, hgA, hatA, hb1⟩; have hz0 := hb1.size; (try simp only [World.size_alloc] at hz0); have hz1 : w13.heap.size ≤ wA.heap.size := (by have hk0 : Kp w13 0 _ := (by with_reducible assumption); have hk1 := hk0.sz; (try simp only [World.size_alloc] at hk1); omega); have HATA := hid hatA; (try (first | (with_reducible have HN := hid (HN.out.below' hb1)) | (with_reducible have HN := hid (HN.out.drew.below' hb1)) | (with_reducible have HN := hid (one_kept hb1)) | (with_reducible have HN := hid (one_kept_drew hb1)))); (try (obtain ⟨m0, m1, m2⟩ := HN.out))) | (go_split_ands; go_at_call 40; (with_reducible refine (to_big a2 cap2 w.heap.size ys _ (by omega) (rd_kp R7.out (by with_reducible assumption) (by omega)) (kp_le (by with_reducible assumption) (by omega))).mono ?_); rintro e wB ⟨gB, rfl, hgB, hatB, hb1⟩; have hz0 := hb1.size; (try simp only [World.size_alloc] at hz0); have hz1 : w13.heap.size ≤ wB.heap.size := (by have hk0 : Kp w13 0 _ := (by with_reducible assumption); have hk1 := hk0.sz; (try simp only [World.size_alloc] at hk1); omega); have HATB := hid hatB; have HATA : Hid (At wB gA 3 xs.length xs) := hid (by first | (with_reducible exact at_below' HATA.out hb1) | (with_reducible exact at_below' HATA.out.drew hb1) | (with_reducible exact at_below' (HATA.out.alloc _) hb1) | (with_reducible exact at_below' (HATA.out.alloc _).drew hb1)); (try (first | (with_reducible have HN := hid (HN.out.below' hb1)) | (with_reducible have HN := hid (HN.out.drew.below' hb1)) | (with_reducible have HN := hid (one_kept hb1)) | (with_reducible have HN := hid (one_kept_drew hb1)))); (try (obtain ⟨m0, m1, m2⟩ := HN.out))) | (go_split_ands; go_at_call 26; (with_reducible refine (I.out _ gA gB (by first | (with_reducible exact HATA.out) | (with_reducible exact HATA.out.drew) | (with_reducible exact HATA.out.alloc _) | (with_reducible exact (HATA.out.alloc _).drew)) (by first | (with_reducible exact HATB.out) | (with_reducible exact HATB.out.drew) | (with_reducible exact HATB.out.alloc _) | (with_reducible exact (HATB.out.alloc _).drew))).mono ?_); rintro e wC ⟨a0, cap0, rfl, hown, hb1⟩; have hz0 := hb1.size; (try simp only [World.size_alloc] at hz0); have hz1 : w13.heap.size ≤ wC.heap.size := (by have hk0 : Kp w13 0 _ := (by with_reducible assumption); have hk1 := hk0.sz; (try simp only [World.size_alloc] at hk1); omega); have HO := hid hown; clear hown; (try (first | (with_reducible have HN := hid (HN.out.below' hb1)) | (with_reducible have HN := hid (HN.out.drew.below' hb1)) | (with_reducible have HN := hid (one_kept hb1)) | (with_reducible have HN := hid (one_kept_drew hb1)))); (try (obtain ⟨m0, m1, m2⟩ := HN.out))))
          all_goals
            go_wp2_with fail
            go_meet
            go_split_ands
            first
              | exact ⟨_, a0, cap0, rfl, rfl, one_new _ _ _, (HO.out.alloc _).mono (by (try simp only [World.size_alloc]); omega), by omega, by with_reducible assumption⟩
              | exact ⟨_, a0, cap0, rfl, rfl, HN.out.set _, (own_far HO.out (by (try simp only [World.size_alloc]); omega) _).mono (by (try simp only [World.size_alloc]); omega), by omega, by with_reducible assumption⟩
        case rest =>
          obtain ⟨g5, a5, cap5, rfl, rfl, O15, H, hg5, hk⟩ := hcut
          obtain ⟨we, rfl⟩ : ∃ wo : World, wo = wc := ⟨_, rfl⟩
          clear cOA_14 zOA_14 cOB_14 zOB_14
          have hb := hk.bel
          clear hk hk2
          replace OA := hid (OA.out.below' hb)
          replace OB := hid (OB.out.below' hb)
          replace OW := hid (OW.out.below' hb)
          replace O10 := hid (O10.out.below' hb)
          replace V0 := hid (V0.out.below' hb)
          replace G := hid (G.out.below' hb)
          replace B := hid (B.out.trans (hb.mono B.out.size))
          clear hb
          replace O15 := hid O15
          replace H := hid H
          obtain ⟨cO15_15, _, zO15_15⟩ := O15.out
          obtain ⟨cOW_15, _, zOW_15⟩ := OW.out
          go_wp2_with fail
          refine (eq_big _ _ _ _ zs _ _ _ hz (own_rd H.out) (own_rd V0.out) (Nat.le_refl _) (Nat.le_refl _)).mono ?_
          rintro e w15 ⟨rfl, hb⟩
          clear cO15_15 zO15_15 cOW_15 zOW_15
          replace OA := hid (OA.out.below' hb)
          replace OB := hid (OB.out.below' hb)
          replace OW := hid (OW.out.below' hb)
          replace O10 := hid (O10.out.below' hb)
          replace O15 := hid (O15.out.below' hb)
          replace V0 := hid (V0.out.below' hb)
          replace G := hid (G.out.below' hb)
          replace H := hid (H.out.below' hb)
          replace B := hid (B.out.trans (hb.mono B.out.size))
          clear hb
          obtain ⟨cO10_16, _, zO10_16⟩ := O10.out
          go_wp2_with fail
          refine (held_big _ _ 1 zs.length _ _ hz (by omega) (by omega) (own_rd' G.out (marks_length _ _)) (Nat.le_refl _)).mono ?_
          rintro e w16 ⟨rfl, hb⟩
          clear cO10_16 zO10_16
          replace OA := hid (OA.out.below' hb)
          replace OB := hid (OB.out.below' hb)
          replace OW := hid (OW.out.below' hb)
          replace O10 := hid (O10.out.below' hb)
          replace O15 := hid (O15.out.below' hb)
          replace V0 := hid (V0.out.below' hb)
          replace G := hid (G.out.below' hb)
          replace H := hid (H.out.below' hb)
          replace B := hid (B.out.trans (hb.mono B.out.size))
          clear hb
          go_wp2_with fail
          go_ret
          exact ⟨rfl, B.out⟩
end Go.Proofs.Ytanfakpeongfjaa.AddBigIntC
