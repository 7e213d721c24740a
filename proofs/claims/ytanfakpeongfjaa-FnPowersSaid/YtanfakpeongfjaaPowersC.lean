/- The walk of law FnPowers. -/
import Derived.Test.YtanfakpeongfjaaBigPow
import Derived.Test.YtanfakpeongfjaaBigPowS
import Derived.Test.YtanfakpeongfjaaBigFmt
import Derived.Test.YtanfakpeongfjaaBigCmp
import Derived.Test.YtanfakpeongfjaaDrawPow
import Derived.Test.YtanfakpeongfjaaBig
import Derived.Test.YtanfakpeongfjaaKept
import Derived.Deep.RegionHeld3
import Derived.Deep.DeepCutAuto
namespace Go.Proofs.Ytanfakpeongfjaa.PowersC
open Go.RowKit
open Go.Proofs.Ytanfakpeongfjaa.Num Go.Proofs.Ytanfakpeongfjaa.IntRow Go.Proofs.Ytanfakpeongfjaa.IntLaw Go.Proofs.Ytanfakpeongfjaa.Dig Go.Proofs.Ytanfakpeongfjaa.BigValid Go.Proofs.Ytanfakpeongfjaa.BigFrom Go.Proofs.Ytanfakpeongfjaa.BigPow Go.Proofs.Ytanfakpeongfjaa.BigPowS Go.Proofs.Ytanfakpeongfjaa.BigFmt Go.Proofs.Ytanfakpeongfjaa.BigCmp Go.Proofs.Ytanfakpeongfjaa.BigMul Go.Proofs.Ytanfakpeongfjaa.DrawPow Go.Proofs.Ytanfakpeongfjaa.Keep Go.Proofs.Ytanfakpeongfjaa.Kept
set_option linter.unusedVariables false

theorem pb_small {b k : Nat} (hb : b ≤ 17) (hk : k ≤ 21) : pb b k = true := by
  simp only [pb, List.all_eq_true, decide_eq_true_eq]
  intro j hj
  have hj' : j ≤ 21 := by simp at hj; omega
  refine dg_length_le _ _ (Nat.lt_of_le_of_lt (Nat.pow_le_pow_left hb j) (Nat.lt_of_le_of_lt (Nat.pow_le_pow_right (by omega) hj') (by decide)))
theorem impl_pow_true (b k : Nat) (w : World) (hb : b ≤ 9223372036854775807) (hk : k ≤ 100) (h : pb b k = true) :
    Calls Try.prog 37 #[.int .i64 b, .int .i64 k] w fun e w' => ∃ a cap, e = .returned (.tuple #[.agg #[.slice a (ci (dg (b ^ k))).length cap], .bool true]) ∧ Own w' w.heap.size 3 (.slice a (ci (dg (b ^ k))).length cap) (ci (dg (b ^ k))) ∧ Below w.heap.size w w' := by
  have H := impl_pow_yes b k w hb hk
  rw [px_yes h, h] at H
  exact H
theorem impl_cmp_dg (a1 a2 : Option Addr) (cap1 cap2 p q : Nat) (s : Int) (w : World) (hp : (dg p).length ≤ 60) (hq : (dg q).length ≤ 60) (hs : sg (p : Int) (q : Int) = s) (h1 : Rd w w.heap.size a1 (ci (dg p))) (h2 : Rd w w.heap.size a2 (ci (dg q))) :
    Calls Try.prog 29 #[.agg #[.slice a1 (ci (dg p)).length cap1], .agg #[.slice a2 (ci (dg q)).length cap2]] w fun e w' => e = .returned (.int .i64 s) ∧ Below w.heap.size w w' := by
  have H := impl_cmp_yes a1 a2 _ _ cap1 cap2 _ _ (dg p) (dg q) w (norm_dg p) (norm_dg q) (ci_length (dg p)).symm (ci_length (dg q)).symm (by rw [ci_length]; exact hp) (by rw [ci_length]; exact hq) h1 h2 (Nat.le_refl _) (Nat.le_refl _)
  rw [vl_dg, vl_dg, hs] at H
  exact H
theorem one_kp {w w' : World} {b : Nat} {x : Value} (h : One w b x) (k : Kp w 0 w') : One w' b x := h.below' k.bel
theorem kp_up {w wE wx : World} (h : Kp w 0 wE) (hz : w.heap.size + 1 ≤ wE.heap.size) (k : Kp wE 0 wx) : Kp w 1 wx :=
  ⟨by have := k.sz; omega, h.bel.trans (k.bel.mono (by omega))⟩
/-- What both powers give at two small ints. -/
theorem both (n k : Int) (hn : n ≤ 16) (hk : k ≤ 101) : ∃ (P : List Nat) (ok : Bool), Norm P ∧ P.length ≤ 60 ∧
    RowKit.Hid (∀ W, Calls Try.prog 37 #[.int .i64 n, .int .i64 k] W fun e w' => ∃ a cap, e = .returned (.tuple #[.agg #[.slice a (ci P).length cap], .bool ok]) ∧ Own w' W.heap.size 3 (.slice a (ci P).length cap) (ci P) ∧ Below W.heap.size W w') ∧
    RowKit.Hid (∀ W, Calls Try.prog 38 #[.int .i64 n, .int .i64 k] W fun e w' => ∃ a cap, e = .returned (.tuple #[.agg #[.slice a (ci P).length cap], .bool ok]) ∧ Own w' W.heap.size 3 (.slice a (ci P).length cap) (ci P) ∧ Below W.heap.size W w') ∧
    (ok = false ∨ 20 < k ∨ ∃ b j : Nat, n = (b : Int) ∧ k = (j : Int) ∧ ok = true ∧ P = dg (b ^ j) ∧ b ≤ 16 ∧ j ≤ 20) := by
  by_cases h : n < 0 ∨ k < 0 ∨ 100 < k
  · refine ⟨[], false, ⟨fun d hd => (by cases hd), fun h => absurd rfl h⟩, by simp, hid fun W => ?_, hid fun W => ?_, .inl rfl⟩
    · refine (impl_pow_no n k W h).mono ?_
      rintro e w' ⟨he, hb⟩
      exact ⟨none, 0, he, Own.nil _ _ _, hb⟩
    · refine (spec_pow_no n k W h).mono ?_
      rintro e w' ⟨he, hb⟩
      exact ⟨none, 0, he, Own.nil _ _ _, hb⟩
  · obtain ⟨b, rfl⟩ := Int.eq_ofNat_of_zero_le (show 0 ≤ n by omega)
    obtain ⟨j, rfl⟩ := Int.eq_ofNat_of_zero_le (show 0 ≤ k by omega)
    cases hp : pb b j with
    | false =>
      refine ⟨[], false, ⟨fun d hd => (by cases hd), fun h => absurd rfl h⟩, by simp, hid fun W => ?_, hid fun W => ?_, .inl rfl⟩
      · have H := impl_pow_yes b j W (by omega) (by omega)
        rw [px_no hp, hp] at H
        exact H
      · have H := spec_pow_yes b j W (by omega) (by omega)
        rw [px_no hp, hp] at H
        exact H
    | true =>
      refine ⟨dg (b ^ j), true, norm_dg _, pb_at hp (Nat.le_refl _), hid fun W => ?_, hid fun W => ?_, ?_⟩
      · have H := impl_pow_yes b j W (by omega) (by omega)
        rw [px_yes hp, hp] at H
        exact H
      · have H := spec_pow_yes b j W (by omega) (by omega)
        rw [px_yes hp, hp] at H
        exact H
      · by_cases hj : 20 < (j : Int)
        · exact .inr (.inl hj)
        · exact .inr (.inr ⟨b, j, rfl, rfl, rfl, rfl, by omega, by omega⟩)

set_option maxRecDepth 100000 in
set_option maxHeartbeats 4000000 in
theorem core (w : World) (sv : Value) (HG : RowKit.Hid (Calls Try.prog 13 #[sv] w fun e w' => e = .returned (.bool false) ∧ w = w'))
    (HD : RowKit.Hid (Calls Try.prog 36 #[sv] w (TwoSmall w))) :
    Calls Try.prog 5 #[sv] w fun e w' => e = .returned (.bool true) ∧ Below w.heap.size w w' := by
  go_enter Try.func5, Try.ntmps5
  go_wp2_with fail
  refine HG.out.mono ?_
  rintro e w0 ⟨rfl, rfl⟩
  go_wp2_with fail
  refine HD.out.mono ?_
  rintro e w1 ⟨n, k, rfl, ⟨hn0, hn1⟩, ⟨hk0, hk1⟩, hb1⟩
  have z1 := hb1.size
  have B := hid hb1
  clear hb1 HG HD
  obtain ⟨P, ok, hP, hPl, I, S, hrest⟩ := both n k (by omega) (by omega)
  have FI := hid fun W (a : Option Addr) (cap B : Nat) (h : Rd W B a (ci P)) (hB : B ≤ W.heap.size) => impl_fmt_yes a (ci P).length cap B P W hP (ci_length P).symm (by rw [ci_length]; exact hPl) h hB
  have FS := hid fun W (a : Option Addr) (cap B : Nat) (h : Rd W B a (ci P)) (hB : B ≤ W.heap.size) => spec_fmt_yes a (ci P).length cap B P W hP (ci_length P).symm (by rw [ci_length]; exact hPl) h hB
  have HR := hid hrest
  have hnb : (ok != ok) = false := by simp
  generalize ht : (⟨(fm P).toArray⟩ : ByteArray) = t at FI FS
  clear hrest hP ht
  go_wp2_with fail
  refine (I.out _).mono ?_
  rintro e w2 ⟨a1, cap1, rfl, V0, hb⟩
  replace B := hid (B.out.trans (hb.mono B.out.size))
  clear hb
  have V := hid V0
  clear V0
  have LV := hid V.out.lt
  go_wp2_with fail
  have O5 := hid (one_new w2 (.slice a1 (ci P).length cap1) 34)
  replace V := hid (V.out.alloc (.cells #[(.slice a1 (ci P).length cap1)] 34))
  replace B := hid (B.out.alloc B.out.size (.cells #[(.slice a1 (ci P).length cap1)] 34))
  refine (S.out _).mono ?_
  rintro e w3 ⟨a2, cap2, rfl, Q0, hb⟩
  have hs3 := hb.size
  (try simp only [World.size_alloc] at hs3)
  replace O5 := hid (O5.out.below' hb)
  replace V := hid (V.out.below' hb)
  replace B := hid (B.out.trans (hb.mono B.out.size))
  clear hb
  have RQ := hid (own_rd Q0)
  have RV := hid (own_rd V.out)
  clear Q0
  obtain ⟨cO5_1, _, zO5_1⟩ := O5.out
  have q7 := (one_new w3 (.slice a2 (ci P).length cap2) 34).1
  have q5 := (O5.out.alloc (.cells #[(.slice a2 (ci P).length cap2)] 34)).1
  have hk3 : Kp w3 1 (w3.alloc (.cells #[(.slice a2 (ci P).length cap2)] 34)) := ⟨by simp, (Below.refl _ _).alloc (Nat.le_refl _) _⟩
  have hz25 : w2.heap.size < w3.heap.size := by omega
  go_upto_region 6 with fail
  go_cut [43] (fun s wx => s = .bool false ∧ Kp w3 1 wx)
  case first =>
    go_region_held3 (fun w' => w'.cell? ⟨w2.heap.size, 0, none⟩ = some (.slice a1 (ci P).length cap1) ∧ w'.cell? ⟨w3.heap.size, 0, none⟩ = some (.slice a2 (ci P).length cap2) ∧ Kp w3 1 w')
      (first
        | (go_split_ands
           repeat' apply And.intro
           all_goals (first | (with_reducible assumption) | (with_reducible exact cell_drew (by assumption)) | (with_reducible exact Kp.drew (by assumption)) | (with_reducible exact Kp.cell (by assumption) hb1 (by omega) (by assumption)) | (with_reducible exact Kp.call (by assumption) hb1) | (with_reducible exact Kp.cell_alloc (by assumption) _ (by omega) (by assumption)) | (with_reducible exact Kp.alloc (by assumption) _) | (with_reducible exact Kp.cell_alloc_drew (by assumption) _ (by omega) (by assumption)) | (with_reducible exact Kp.alloc_drew (by assumption) _) | (with_reducible exact Kp.reall (by assumption) (by omega) _) | (with_reducible exact cell_realloc (by omega) (by assumption) _) | (with_reducible exact cell_set1 (by assumption) (by omega)) | (with_reducible exact Kept.Kp.set1 (by assumption) (by omega) _))))
      (first | (go_split_ands; go_at_call 30; (with_reducible refine (FI.out _ _ _ w3.heap.size (rd_kp RV.out (by with_reducible assumption) (Nat.le_refl _)) (kp_le (by with_reducible assumption) (Nat.le_refl _))).mono ?_); rintro e wF ⟨rfl, hb1⟩) | (go_split_ands; go_at_call 31; (with_reducible refine (FS.out _ _ _ w3.heap.size (rd_kp RQ.out (by with_reducible assumption) (Nat.le_refl _)) (kp_le (by with_reducible assumption) (Nat.le_refl _))).mono ?_); rintro e wG ⟨rfl, hb1⟩))
    all_goals
      go_wp2_with fail
      go_meet
      go_split_ands
      exact ⟨rfl, by with_reducible assumption⟩
  case rest =>
    obtain ⟨rfl, hk⟩ := hcut
    obtain ⟨w4, rfl⟩ : ∃ wo : World, wo = wc := ⟨_, rfl⟩
    have hb := hk.bel
    have hs4 := hk.sz
    clear hk hk3 q5 q7 FI FS RQ RV hnb
    replace O5 := hid (O5.out.below' hb)
    replace V := hid (V.out.below' hb)
    replace B := hid (B.out.trans (hb.mono B.out.size))
    clear hb
    rcases HR.out with hno | hbig | ⟨b, j, rfl, rfl, hok, hPe, hb16, hj20⟩
    · rw [hno]
      go_wp2_with fail
      go_ret
      exact ⟨rfl, B.out⟩
    · cases ok with
      | false =>
        go_wp2_with fail
        go_ret
        exact ⟨rfl, B.out⟩
      | true =>
        go_wp2_with fail
        go_ret
        exact ⟨rfl, B.out⟩
    · subst hok hPe
      have p1 := pb_small (show b ≤ 17 by omega) (show j + 1 ≤ 21 by omega)
      have p2 := pb_small (show b + 1 ≤ 17 by omega) (show j ≤ 21 by omega)
      have C1 := hid fun W => impl_pow_true b (j + 1) W (by omega) (by omega) p1
      have C2 := hid fun W => impl_pow_true (b + 1) j W (by omega) (by omega) p2
      have F := hid fun W => impl_from (b : Int) W (by omega)
      rw [show ((b : Int)).toNat = b by omega] at F
      have d1 := pb_at p1 (show j ≤ j + 1 by omega)
      have d2 := pb_at p1 (Nat.le_refl (j + 1))
      have d3 := pb_at p2 (Nat.le_refl j)
      have db : (dg b).length ≤ 60 := by have := dg_len b (by omega); omega
      have M := hid fun W (a a' : Option Addr) (cap cap' B B' : Nat) (h1 : Rd W B a (ci (dg (b ^ j)))) (h2 : Rd W B' a' (ci (dg b))) (hB : B ≤ W.heap.size) (hB' : B' ≤ W.heap.size) => impl_mul_pow_yes a a' cap cap' B B' b j W d1 db d2 h1 h2 hB hB'
      have Q1 := hid fun W (a a' : Option Addr) (cap cap' : Nat) (h1 : Rd W W.heap.size a (ci (dg (b ^ (j + 1))))) (h2 : Rd W W.heap.size a' (ci (dg (b ^ (j + 1))))) => impl_cmp_dg a a' cap cap' (b ^ (j + 1)) (b ^ (j + 1)) 0 W d2 d2 (sg_eq rfl) h1 h2
      have tj : ¬ (20 : Int) < (j : Int) := by omega
      have tb : (b : Int) ≤ 16 := by omega
      have tj2 : (j : Int) ≤ 20 := by omega
      rw [show ((j + 1 : Nat) : Int) = (j : Int) + 1 by omega] at C1
      rw [show ((b + 1 : Nat) : Int) = (b : Int) + 1 by omega] at C2
      clear p1 p2 hn0 hn1 hk0 hk1 HR
      have hs5 := B.out.size
      go_wp2_with fail
      refine (C1.out _).mono ?_
      rintro e w5 ⟨a3, cap3, rfl, R0, hb⟩
      replace O5 := hid (O5.out.below' hb)
      replace V := hid (V.out.below' hb)
      replace B := hid (B.out.trans (hb.mono B.out.size))
      clear hb
      have R := hid R0
      clear R0
      have hz5 : w2.heap.size < w5.heap.size := O5.out.2.2
      obtain ⟨cO5_2, _, zO5_2⟩ := O5.out
      have RV := hid (own_rd V.out)
      have q5 := (O5.out.alloc (.cells #[(.slice a3 (ci (dg (b ^ (j + 1)))).length cap3)] 34)).1
      have hk5 : Kp w5 0 (w5.alloc (.cells #[(.slice a3 (ci (dg (b ^ (j + 1)))).length cap3)] 34)) := ⟨by simp, (Below.refl _ _).alloc (Nat.le_refl _) _⟩
      have q9 := (one_new w5 (.slice a3 (ci (dg (b ^ (j + 1)))).length cap3) 34)
      have Q9 := hid q9
      clear q9
      go_upto_region 11 with fail
      go_cut [11, 12] (fun s8 s9 wx => ∃ (g : Nat) (a4 : Option Addr) (cap4 : Nat), s8 = .pointer (some ⟨g, 0, none⟩) ∧ s9 = .bool true ∧ One wx g (.slice a4 (ci (dg (b ^ (j + 1)))).length cap4) ∧ Own wx w5.heap.size 3 (.slice a4 (ci (dg (b ^ (j + 1)))).length cap4) (ci (dg (b ^ (j + 1)))) ∧ w5.heap.size + 1 ≤ g ∧ One wx w5.heap.size (.slice a3 (ci (dg (b ^ (j + 1)))).length cap3) ∧ Kp w5 1 wx)
      case first =>
        have hkw := kp_refl (w5.alloc (.cells #[(.slice a3 (ci (dg (b ^ (j + 1)))).length cap3)] 34))
        have hzw : (w5.alloc (.cells #[(.slice a3 (ci (dg (b ^ (j + 1)))).length cap3)] 34)).heap.size = w5.heap.size + 1 := by simp
        have rvw := RV.out.alloc (Nat.le_refl _) (.cells #[(.slice a3 (ci (dg (b ^ (j + 1)))).length cap3)] 34)
        have HZW := hid hzw
        have RVW := hid rvw
        clear hzw rvw
        generalize w5.alloc (.cells #[(.slice a3 (ci (dg (b ^ (j + 1)))).length cap3)] 34) = wE at q5 hk5 hkw HZW RVW Q9 ⊢
        have hze : w5.heap.size + 1 ≤ wE.heap.size := by have := HZW.out; omega
        go_region_held3 (fun w' => w'.cell? ⟨w2.heap.size, 0, none⟩ = some (.slice a1 (ci (dg (b ^ j))).length cap1) ∧ Kp wE 0 w')
          (first
            | (go_split_ands
               repeat' apply And.intro
               all_goals (first | (with_reducible assumption) | (with_reducible exact cell_drew (by assumption)) | (with_reducible exact Kp.drew (by assumption)) | (with_reducible exact Kp.cell (by assumption) hb1 (by omega) (by assumption)) | (with_reducible exact Kp.call (by assumption) hb1) | (with_reducible exact Kp.cell_alloc (by assumption) _ (by omega) (by assumption)) | (with_reducible exact Kp.alloc (by assumption) _) | (with_reducible exact Kp.cell_alloc_drew (by assumption) _ (by omega) (by assumption)) | (with_reducible exact Kp.alloc_drew (by assumption) _) | (with_reducible exact Kp.reall (by assumption) (by omega) _) | (with_reducible exact cell_realloc (by omega) (by assumption) _) | (with_reducible exact cell_set1 (by assumption) (by omega)) | (with_reducible exact Kept.Kp.set1 (by assumption) (by omega) _))))
          (first | (go_split_ands; go_at_call 33; (with_reducible refine (F.out _).mono ?_); rintro e wA ⟨af, capf, rfl, hF, hb1⟩; have hz0 := hb1.size; (try simp only [World.size_alloc] at hz0); have hz1 : wE.heap.size ≤ wA.heap.size := (by have hk0 : Kp wE 0 _ := (by with_reducible assumption); have hk1 := hk0.sz; (try simp only [World.size_alloc] at hk1); omega); have HF := hid hF; clear hF; (try (first | (with_reducible have HN := hid (HN.out.below' hb1)) | (with_reducible have HN := hid (HN.out.drew.below' hb1)) | (with_reducible have HN := hid (one_kept hb1)) | (with_reducible have HN := hid (one_kept_drew hb1)))); (try (obtain ⟨m0, m1, m2⟩ := HN.out))) | (go_split_ands; go_at_call 25; (with_reducible refine (M.out _ a1 af cap1 capf w5.heap.size _ (rd_kp RVW.out (by with_reducible assumption) (by omega)) (by first | (with_reducible exact own_rd HF.out) | (with_reducible exact own_rd HF.out.drew) | (with_reducible exact own_rd (HF.out.alloc _)) | (with_reducible exact own_rd (HF.out.alloc _).drew)) (kp_le (by with_reducible assumption) (by omega)) (Nat.le_refl _)).mono ?_); rintro e wC ⟨a4, cap4, rfl, hown, hb1⟩; have hz0 := hb1.size; (try simp only [World.size_alloc] at hz0); have hz1 : wE.heap.size ≤ wC.heap.size := (by have hk0 : Kp wE 0 _ := (by with_reducible assumption); have hk1 := hk0.sz; (try simp only [World.size_alloc] at hk1); omega); have HO := hid hown; clear hown; (try (first | (with_reducible have HN := hid (HN.out.below' hb1)) | (with_reducible have HN := hid (HN.out.drew.below' hb1)) | (with_reducible have HN := hid (one_kept hb1)) | (with_reducible have HN := hid (one_kept_drew hb1)))); (try (obtain ⟨m0, m1, m2⟩ := HN.out))))
        all_goals
          go_wp2_with fail
          go_meet
          go_split_ands
          first
            | exact ⟨_, a4, cap4, rfl, rfl, one_new _ _ _, (HO.out.alloc _).mono (by (try simp only [World.size_alloc]); omega), by omega, one_kp Q9.out (by with_reducible assumption), kp_up hk5 hze (by with_reducible assumption)⟩
            | exact ⟨_, a4, cap4, rfl, rfl, HN.out.set _, (own_far HO.out (by (try simp only [World.size_alloc]); omega) _).mono (by (try simp only [World.size_alloc]); omega), by omega, one_kp Q9.out (by with_reducible assumption), kp_up hk5 hze (by with_reducible assumption)⟩
      case rest =>
        clear Q9
        obtain ⟨g, a4, cap4, rfl, rfl, O11, X0, hg, Q90, hk⟩ := hcut
        obtain ⟨w6, rfl⟩ : ∃ wo : World, wo = wc := ⟨_, rfl⟩
        have hb := hk.bel
        clear hk hk5 q5 RV
        replace O5 := hid (O5.out.below' hb)
        replace V := hid (V.out.below' hb)
        replace R := hid (R.out.below' hb)
        replace B := hid (B.out.trans (hb.mono B.out.size))
        clear hb
        have Q9 := hid Q90
        clear Q90
        replace O11 := hid O11
        have X := hid X0
        clear X0
        go_wp2_with fail
        refine (C2.out _).mono ?_
        rintro e w7 ⟨a5, cap5, rfl, U0, hb⟩
        replace O5 := hid (O5.out.below' hb)
        replace Q9 := hid (Q9.out.below' hb)
        replace O11 := hid (O11.out.below' hb)
        replace V := hid (V.out.below' hb)
        replace R := hid (R.out.below' hb)
        replace X := hid (X.out.below' hb)
        replace B := hid (B.out.trans (hb.mono B.out.size))
        clear hb
        have U := hid U0
        clear U0
        obtain ⟨cO5_3, _, zO5_3⟩ := O5.out
        obtain ⟨cQ9_3, _, zQ9_3⟩ := Q9.out
        obtain ⟨cO11_3, _, zO11_3⟩ := O11.out
        go_wp2_with fail
        clear cO5_3 zO5_3 cQ9_3 zQ9_3 cO11_3 zO11_3
        have O13 := hid (one_new w7 (.slice a5 (ci (dg ((b + 1) ^ j))).length cap5) 34)
        replace O5 := hid (O5.out.alloc (.cells #[(.slice a5 (ci (dg ((b + 1) ^ j))).length cap5)] 34))
        replace Q9 := hid (Q9.out.alloc (.cells #[(.slice a5 (ci (dg ((b + 1) ^ j))).length cap5)] 34))
        replace O11 := hid (O11.out.alloc (.cells #[(.slice a5 (ci (dg ((b + 1) ^ j))).length cap5)] 34))
        replace V := hid (V.out.alloc (.cells #[(.slice a5 (ci (dg ((b + 1) ^ j))).length cap5)] 34))
        replace R := hid (R.out.alloc (.cells #[(.slice a5 (ci (dg ((b + 1) ^ j))).length cap5)] 34))
        replace X := hid (X.out.alloc (.cells #[(.slice a5 (ci (dg ((b + 1) ^ j))).length cap5)] 34))
        replace U := hid (U.out.alloc (.cells #[(.slice a5 (ci (dg ((b + 1) ^ j))).length cap5)] 34))
        replace B := hid (B.out.alloc B.out.size (.cells #[(.slice a5 (ci (dg ((b + 1) ^ j))).length cap5)] 34))
        refine (Q1.out _ _ _ _ _ (own_rd R.out) (own_rd X.out)).mono ?_
        rintro e w8 ⟨rfl, hb⟩
        replace O5 := hid (O5.out.below' hb)
        replace Q9 := hid (Q9.out.below' hb)
        replace O11 := hid (O11.out.below' hb)
        replace O13 := hid (O13.out.below' hb)
        replace V := hid (V.out.below' hb)
        replace R := hid (R.out.below' hb)
        replace X := hid (X.out.below' hb)
        replace U := hid (U.out.below' hb)
        replace B := hid (B.out.trans (hb.mono B.out.size))
        clear hb
        rcases Nat.eq_zero_or_pos j with hj | hj
        · have tj3 : ((j : Int) == 0) = true := by rw [hj]; rfl
          have Q2 := hid fun W (a a' : Option Addr) (cap cap' : Nat) (h1 : Rd W W.heap.size a (ci (dg (b ^ j)))) (h2 : Rd W W.heap.size a' (ci (dg ((b + 1) ^ j)))) => impl_cmp_dg a a' cap cap' (b ^ j) ((b + 1) ^ j) (0) W d1 d3 (sg_eq (by rw [hj]; simp)) h1 h2
          obtain ⟨cO5_4, _, zO5_4⟩ := O5.out
          obtain ⟨cO13_4, _, zO13_4⟩ := O13.out
          clear hj
          go_wp2_with fail
          refine (Q2.out _ _ _ _ _ (own_rd V.out) (own_rd U.out)).mono ?_
          rintro e w9 ⟨rfl, hb⟩
          clear cO5_4 zO5_4 cO13_4 zO13_4
          replace O5 := hid (O5.out.below' hb)
          replace Q9 := hid (Q9.out.below' hb)
          replace O11 := hid (O11.out.below' hb)
          replace O13 := hid (O13.out.below' hb)
          replace V := hid (V.out.below' hb)
          replace R := hid (R.out.below' hb)
          replace X := hid (X.out.below' hb)
          replace U := hid (U.out.below' hb)
          replace B := hid (B.out.trans (hb.mono B.out.size))
          clear hb
          obtain ⟨cO5_5, _, zO5_5⟩ := O5.out
          obtain ⟨cO13_5, _, zO13_5⟩ := O13.out
          go_wp2_with fail
          refine (Q2.out _ _ _ _ _ (own_rd V.out) (own_rd U.out)).mono ?_
          rintro e w10 ⟨rfl, hb⟩
          clear cO5_5 zO5_5 cO13_5 zO13_5
          replace O5 := hid (O5.out.below' hb)
          replace Q9 := hid (Q9.out.below' hb)
          replace O11 := hid (O11.out.below' hb)
          replace O13 := hid (O13.out.below' hb)
          replace V := hid (V.out.below' hb)
          replace R := hid (R.out.below' hb)
          replace X := hid (X.out.below' hb)
          replace U := hid (U.out.below' hb)
          replace B := hid (B.out.trans (hb.mono B.out.size))
          clear hb
          go_wp2_with fail
          go_ret
          exact ⟨rfl, B.out⟩
        · have tj3 : ((j : Int) == 0) = false := by rw [beq_eq_false_iff_ne]; omega
          have Q2 := hid fun W (a a' : Option Addr) (cap cap' : Nat) (h1 : Rd W W.heap.size a (ci (dg (b ^ j)))) (h2 : Rd W W.heap.size a' (ci (dg ((b + 1) ^ j)))) => impl_cmp_dg a a' cap cap' (b ^ j) ((b + 1) ^ j) (-1) W d1 d3 (sg_lt (by have := Nat.pow_lt_pow_left (show b < b + 1 by omega) (show j ≠ 0 by omega); omega)) h1 h2
          obtain ⟨cO5_6, _, zO5_6⟩ := O5.out
          obtain ⟨cO13_6, _, zO13_6⟩ := O13.out
          clear hj
          go_wp2_with fail
          refine (Q2.out _ _ _ _ _ (own_rd V.out) (own_rd U.out)).mono ?_
          rintro e w9 ⟨rfl, hb⟩
          clear cO5_6 zO5_6 cO13_6 zO13_6
          replace O5 := hid (O5.out.below' hb)
          replace Q9 := hid (Q9.out.below' hb)
          replace O11 := hid (O11.out.below' hb)
          replace O13 := hid (O13.out.below' hb)
          replace V := hid (V.out.below' hb)
          replace R := hid (R.out.below' hb)
          replace X := hid (X.out.below' hb)
          replace U := hid (U.out.below' hb)
          replace B := hid (B.out.trans (hb.mono B.out.size))
          clear hb
          obtain ⟨cO5_7, _, zO5_7⟩ := O5.out
          obtain ⟨cO13_7, _, zO13_7⟩ := O13.out
          go_wp2_with fail
          refine (Q2.out _ _ _ _ _ (own_rd V.out) (own_rd U.out)).mono ?_
          rintro e w10 ⟨rfl, hb⟩
          clear cO5_7 zO5_7 cO13_7 zO13_7
          replace O5 := hid (O5.out.below' hb)
          replace Q9 := hid (Q9.out.below' hb)
          replace O11 := hid (O11.out.below' hb)
          replace O13 := hid (O13.out.below' hb)
          replace V := hid (V.out.below' hb)
          replace R := hid (R.out.below' hb)
          replace X := hid (X.out.below' hb)
          replace U := hid (U.out.below' hb)
          replace B := hid (B.out.trans (hb.mono B.out.size))
          clear hb
          go_wp2_with fail
          go_ret
          exact ⟨rfl, B.out⟩
end Go.Proofs.Ytanfakpeongfjaa.PowersC
