/- The contract of spec.PowBigInt. -/
import Derived.Test.YtaiimjbdhcjobaaBigPow
import Derived.Test.YtaiimjbdhcjobaaKept
import Derived.Deep.RegionHeld3
import Derived.Deep.DeepCutAuto
import Derived.Deep.LoopGhost
namespace Go.Proofs.Ytaiimjbdhcjobaa.BigPowS
open Go.RowKit
open Go.Proofs.Ytaiimjbdhcjobaa.Num Go.Proofs.Ytaiimjbdhcjobaa.IntRow Go.Proofs.Ytaiimjbdhcjobaa.IntLaw Go.Proofs.Ytaiimjbdhcjobaa.Dig Go.Proofs.Ytaiimjbdhcjobaa.BigValid Go.Proofs.Ytaiimjbdhcjobaa.BigFrom Go.Proofs.Ytaiimjbdhcjobaa.BigCols Go.Proofs.Ytaiimjbdhcjobaa.BigPow Go.Proofs.Ytaiimjbdhcjobaa.Keep Go.Proofs.Ytaiimjbdhcjobaa.Kept
set_option linter.unusedVariables false

theorem in_exp (k : Int) (w : World) (h : 0 ≤ k ∧ k ≤ 100) : Calls Try.prog 76 #[.int .i64 k, .int .i64 0, .int .i64 100] w fun e w' => e = .returned (.bool true) ∧ w = w' := by
  obtain ⟨h1, h2⟩ := h
  go_enter Try.func76, Try.ntmps76
  go_wp2
  go_ret
  exact ⟨rfl, rfl⟩
theorem in_exp_no (k : Int) (w : World) (h : k < 0 ∨ 100 < k) : Calls Try.prog 76 #[.int .i64 k, .int .i64 0, .int .i64 100] w fun e w' => e = .returned (.bool false) ∧ w = w' := by
  rcases (by omega : ¬ 0 ≤ k ∨ (0 ≤ k ∧ ¬ k ≤ 100)) with h1 | ⟨h1, h2⟩ <;>
  · go_enter Try.func76, Try.ntmps76
    go_wp2
    go_ret
    exact ⟨rfl, rfl⟩

theorem spec_pow_no (n k : Int) (w : World) (h : n < 0 ∨ k < 0 ∨ 100 < k) :
    Calls Try.prog 101 #[.int .i64 n, .int .i64 k] w fun e w' => e = .returned (.tuple #[.agg #[.slice none 0 0], .bool false]) ∧ Below w.heap.size w w' := by
  have B := hid (((Below.refl w.heap.size w).alloc (Nat.le_refl _) (.cells #[.slice none 0 0] 53)))
  by_cases hn : n < 0
  · go_enter Try.func101, Try.ntmps101
    go_wp2
    exact bodyPost_ret (v := .tuple #[.agg #[.slice none 0 0], .bool false]) (by simp [results, Try.results101, go_sem]) rfl ⟨rfl, B.out⟩
  · have H := hid (show k < 0 ∨ 100 < k by omega)
    clear h
    go_enter Try.func101, Try.ntmps101
    go_wp2_with fail
    refine (in_exp_no k _ H.out).mono ?_
    rintro e w1 ⟨rfl, rfl⟩
    go_wp2
    exact bodyPost_ret (v := .tuple #[.agg #[.slice none 0 0], .bool false]) (by simp [results, Try.results101, go_sem]) rfl ⟨rfl, B.out⟩

set_option maxHeartbeats 1000000 in
set_option maxRecDepth 100000 in
theorem spec_pow_yes (b k : Nat) (w : World) (hb : b ≤ 9223372036854775807) (hk : k ≤ 100) :
    Calls Try.prog 101 #[.int .i64 b, .int .i64 k] w fun e w' => ∃ a cap, e = .returned (.tuple #[.agg #[.slice a (px b k).length cap], .bool (pb b k)]) ∧ Own w' w.heap.size 3 (.slice a (px b k).length cap) (px b k) ∧ Below w.heap.size w w' := by
  have K := hid (one_new w (.slice none 0 0) 53)
  have B := hid ((Below.refl w.heap.size w).alloc (Nat.le_refl _) (.cells #[.slice none 0 0] 53))
  have hk1 : (k : Int) ≤ 100 := by omega
  have hb1 : (b : Int) ≤ 9223372036854775807 := by omega
  have F := hid fun W => spec_from (b : Int) W hb1
  have F1 := hid fun W => spec_from (1 : Int) W (by omega)
  rw [show ((b : Int)).toNat = b by omega] at F
  rw [show ((1 : Int)).toNat = 1 by rfl] at F1
  go_enter Try.func101, Try.ntmps101
  go_wp2_with fail
  refine (in_exp k _ (by omega)).mono ?_
  rintro e w0 ⟨rfl, rfl⟩
  go_wp2_with fail
  refine (F1.out _).mono ?_
  rintro e w1 ⟨ap, capp, rfl, P, hb2⟩
  have LP := hid P.lt
  simp only [World.size_alloc] at LP
  replace K := hid (K.out.below' hb2)
  replace B := hid (B.out.trans (hb2.mono B.out.size))
  have hs1 := K.out.2.2
  clear hb2
  go_wp2
  have O7 := hid (one_new w1 (.slice ap (ci (dg 1)).length capp) 53)
  replace P := hid ((P.mono (show w.heap.size ≤ _ by simp)).alloc (.cells #[.slice ap (ci (dg 1)).length capp] 53))
  replace K := hid (K.out.alloc (.cells #[.slice ap (ci (dg 1)).length capp] 53))
  replace B := hid (B.out.alloc B.out.size (.cells #[.slice ap (ci (dg 1)).length capp] 53))
  have NP := hid (show ∀ q, (Value.slice ap (ci (dg 1)).length capp).ownBlock = some q → q ≠ w1.heap.size ∧ q ≠ w.heap.size from fun q hq => by have := LP.out q hq; omega)
  have hq60 : (dg b).length ≤ 60 := by have := dg_len b hb; omega
  have HQ := hid hq60
  clear F1 LP hq60
  go_loopg [7] k (fun gh iv wr => ∃ (i : Nat) (a : Option Addr) (cap : Nat), gh = k - i ∧ iv = .int .i64 i ∧ i ≤ k ∧ Hid (pb b i = true) ∧ One wr w1.heap.size (.slice a (ci (dg (b ^ i))).length cap) ∧ Own wr w.heap.size 3 (.slice a (ci (dg (b ^ i))).length cap) (ci (dg (b ^ i))) ∧ Hid (∀ q, (Value.slice a (ci (dg (b ^ i))).length cap).ownBlock = some q → q ≠ w1.heap.size ∧ q ≠ w.heap.size) ∧ One wr w.heap.size (.slice none 0 0) ∧ Below w.heap.size w wr)
  case atStart => exact ⟨0, ap, capp, by omega, rfl, Nat.zero_le _, hid (pb_zero b), O7.out, P.out, NP, K.out, B.out⟩
  case round =>
    clear O7 P NP K B
    obtain ⟨i, a, cap, rfl, rfl, hik, hpb, O7, P, NP, K, B⟩ := hrel
    have hp60 := pb_at hpb.out (Nat.le_refl i)
    by_cases hlt : i < k
    · have hzw := K.2.2
      have hz2 := O7.2.2
      have RP := hid (own_rd P)
      have hkr := kp_refl wr
      replace O7 := hid O7
      replace K := hid K
      replace B := hid B
      by_cases hR : (dg (b ^ (i + 1))).length ≤ 60
      · have M := hid fun W (af : Option Addr) (capf : Nat) (h1 : Rd W wr.heap.size a (ci (dg (b ^ i)))) (h2 : Rd W W.heap.size af (ci (dg b))) (hB : wr.heap.size ≤ W.heap.size) => spec_mul_pow_yes a af cap capf wr.heap.size W.heap.size b i W hp60 HQ.out hR h1 h2 hB (Nat.le_refl _)
        have PS := hid (pb_succ hpb.out hR)
        obtain ⟨c7, _, z7⟩ := O7.out
        clear hR hp60 P
        go_upto_region 7 with fail
        go_cut [8, 9] (fun s8 s9 wx => ∃ (g : Nat) (a3 : Option Addr) (cap3 : Nat), s8 = .pointer (some ⟨g, 0, none⟩) ∧ s9 = .bool true ∧ One wx g (.slice a3 (ci (dg (b ^ (i + 1)))).length cap3) ∧ Own wx wr.heap.size 3 (.slice a3 (ci (dg (b ^ (i + 1)))).length cap3) (ci (dg (b ^ (i + 1)))) ∧ wr.heap.size ≤ g ∧ Kp wr 0 wx)
        case first =>
          go_region_held3 (fun w' => w'.cell? ⟨w1.heap.size, 0, none⟩ = some (.slice a (ci (dg (b ^ i))).length cap) ∧ Kp wr 0 w')
            (first
              | (go_split_ands
                 repeat' apply And.intro
                 all_goals (first | (with_reducible assumption) | (with_reducible exact cell_drew (by assumption)) | (with_reducible exact Kp.drew (by assumption)) | (with_reducible exact Kp.cell (by assumption) hb1 (by omega) (by assumption)) | (with_reducible exact Kp.call (by assumption) hb1) | (with_reducible exact Kp.cell_alloc (by assumption) _ (by omega) (by assumption)) | (with_reducible exact Kp.alloc (by assumption) _) | (with_reducible exact Kp.cell_alloc_drew (by assumption) _ (by omega) (by assumption)) | (with_reducible exact Kp.alloc_drew (by assumption) _) | (with_reducible exact Kp.reall (by assumption) (by omega) _) | (with_reducible exact cell_realloc (by omega) (by assumption) _) | (with_reducible exact cell_set1 (by assumption) (by omega)) | (with_reducible exact Kept.Kp.set1 (by assumption) (by omega) _))))
            (first | (go_split_ands; go_at_call 100; (with_reducible refine (F.out _).mono ?_); rintro e wA ⟨af, capf, rfl, hF, hb1⟩; have hz0 := hb1.size; (try simp only [World.size_alloc] at hz0); have hz1 : wr.heap.size ≤ wA.heap.size := (by have hk0 : Kp wr 0 _ := (by with_reducible assumption); have hk1 := hk0.sz; (try simp only [World.size_alloc] at hk1); omega); have HF := hid hF; clear hF; (try (first | (with_reducible have HN := hid (HN.out.below' hb1)) | (with_reducible have HN := hid (HN.out.drew.below' hb1)) | (with_reducible have HN := hid (one_kept hb1)) | (with_reducible have HN := hid (one_kept_drew hb1)))); (try (obtain ⟨m0, m1, m2⟩ := HN.out))) | (go_split_ands; go_at_call 102; (with_reducible refine (M.out _ af capf (rd_kp RP.out (by with_reducible assumption) (Nat.le_refl _)) (by first | (with_reducible exact own_rd HF.out) | (with_reducible exact own_rd HF.out.drew) | (with_reducible exact own_rd (HF.out.alloc _)) | (with_reducible exact own_rd (HF.out.alloc _).drew)) (kp_le (by with_reducible assumption) (Nat.le_refl _))).mono ?_); rintro e wC ⟨a3, cap3, rfl, hown, hb1⟩; have hz0 := hb1.size; (try simp only [World.size_alloc] at hz0); have hz1 : wr.heap.size ≤ wC.heap.size := (by have hk0 : Kp wr 0 _ := (by with_reducible assumption); have hk1 := hk0.sz; (try simp only [World.size_alloc] at hk1); omega); have HO := hid hown; clear hown; (try (first | (with_reducible have HN := hid (HN.out.below' hb1)) | (with_reducible have HN := hid (HN.out.drew.below' hb1)) | (with_reducible have HN := hid (one_kept hb1)) | (with_reducible have HN := hid (one_kept_drew hb1)))); (try (obtain ⟨m0, m1, m2⟩ := HN.out))))
          all_goals
            go_wp2_with fail
            go_meet
            go_split_ands
            first
              | exact ⟨_, a3, cap3, rfl, rfl, one_new _ _ _, (HO.out.alloc _).mono (by (try simp only [World.size_alloc]); omega), by omega, by with_reducible assumption⟩
              | exact ⟨_, a3, cap3, rfl, rfl, HN.out.set _, (own_far HO.out (by (try simp only [World.size_alloc]); omega) _).mono (by (try simp only [World.size_alloc]); omega), by omega, by with_reducible assumption⟩
        case rest =>
          obtain ⟨g, a3, cap3, rfl, rfl, O8, G, hg, hkp⟩ := hcut
          obtain ⟨w3, rfl⟩ : ∃ wo : World, wo = wc := ⟨_, rfl⟩
          have hb3 := hkp.bel
          have hsz3 := hb3.size
          have hg8 := O8.2.2
          have LG := hid G.lt
          replace O7 := hid (O7.out.below' hb3)
          replace K := hid (K.out.below' hb3)
          replace B := hid (B.out.trans (hb3.mono B.out.size))
          have NG := hid (show ∀ q, (Value.slice a3 (ci (dg (b ^ (i + 1)))).length cap3).ownBlock = some q → q ≠ w1.heap.size ∧ q ≠ w.heap.size from fun q hq => by have := LG.out q hq; omega)
          have G3 := hid (own_ne G (p := ⟨w1.heap.size, 0, none⟩) (fun q hq => (NG.out q hq).1) (.slice a3 (ci (dg (b ^ (i + 1)))).length cap3))
          have O73 := hid (O7.out.set (.slice a3 (ci (dg (b ^ (i + 1)))).length cap3))
          have K3 := hid (K.out.far (p := ⟨w1.heap.size, 0, none⟩) (by simp only; omega) (.slice a3 (ci (dg (b ^ (i + 1)))).length cap3))
          have B3 := hid (B.out.setCell (p := ⟨w1.heap.size, 0, none⟩) (by simp only; omega) (.slice a3 (ci (dg (b ^ (i + 1)))).length cap3))
          clear c7 z7 G hb3 hkp hkr
          obtain ⟨c7, _, z7⟩ := O7.out
          obtain ⟨c8, _, z8⟩ := O8
          go_wp2
          go_roundg (k - (i + 1))
          case measure => omega
          case rel => exact ⟨i + 1, a3, cap3, rfl, by go_num, by omega, PS, O73.out, G3.out.mono (by omega), NG, K3.out, B3.out⟩
      · have M := hid fun W (af : Option Addr) (capf : Nat) (h1 : Rd W wr.heap.size a (ci (dg (b ^ i)))) (h2 : Rd W W.heap.size af (ci (dg b))) (hB : wr.heap.size ≤ W.heap.size) => spec_mul_pow_no a af cap capf wr.heap.size W.heap.size b i W hp60 HQ.out hR h1 h2 hB (Nat.le_refl _)
        have PN := hid (pb_no (show i + 1 ≤ k by omega) hR)
        obtain ⟨c7, _, z7⟩ := O7.out
        clear hR hp60 P
        go_upto_region 7 with fail
        go_cut [8, 9] (fun s8 s9 wx => ∃ (g : Nat) (a3 : Option Addr) (cap3 : Nat), s8 = .pointer (some ⟨g, 0, none⟩) ∧ s9 = .bool false ∧ One wx g (.slice a3 0 cap3) ∧ wr.heap.size ≤ g ∧ Kp wr 0 wx)
        case first =>
          go_region_held3 (fun w' => w'.cell? ⟨w1.heap.size, 0, none⟩ = some (.slice a (ci (dg (b ^ i))).length cap) ∧ Kp wr 0 w')
            (first
              | (go_split_ands
                 repeat' apply And.intro
                 all_goals (first | (with_reducible assumption) | (with_reducible exact cell_drew (by assumption)) | (with_reducible exact Kp.drew (by assumption)) | (with_reducible exact Kp.cell (by assumption) hb1 (by omega) (by assumption)) | (with_reducible exact Kp.call (by assumption) hb1) | (with_reducible exact Kp.cell_alloc (by assumption) _ (by omega) (by assumption)) | (with_reducible exact Kp.alloc (by assumption) _) | (with_reducible exact Kp.cell_alloc_drew (by assumption) _ (by omega) (by assumption)) | (with_reducible exact Kp.alloc_drew (by assumption) _) | (with_reducible exact Kp.reall (by assumption) (by omega) _) | (with_reducible exact cell_realloc (by omega) (by assumption) _) | (with_reducible exact cell_set1 (by assumption) (by omega)) | (with_reducible exact Kept.Kp.set1 (by assumption) (by omega) _))))
            (first | (go_split_ands; go_at_call 100; (with_reducible refine (F.out _).mono ?_); rintro e wA ⟨af, capf, rfl, hF, hb1⟩; have hz0 := hb1.size; (try simp only [World.size_alloc] at hz0); have hz1 : wr.heap.size ≤ wA.heap.size := (by have hk0 : Kp wr 0 _ := (by with_reducible assumption); have hk1 := hk0.sz; (try simp only [World.size_alloc] at hk1); omega); have HF := hid hF; clear hF; (try (first | (with_reducible have HN := hid (HN.out.below' hb1)) | (with_reducible have HN := hid (HN.out.drew.below' hb1)) | (with_reducible have HN := hid (one_kept hb1)) | (with_reducible have HN := hid (one_kept_drew hb1)))); (try (obtain ⟨m0, m1, m2⟩ := HN.out))) | (go_split_ands; go_at_call 102; (with_reducible refine (M.out _ af capf (rd_kp RP.out (by with_reducible assumption) (Nat.le_refl _)) (by first | (with_reducible exact own_rd HF.out) | (with_reducible exact own_rd HF.out.drew) | (with_reducible exact own_rd (HF.out.alloc _)) | (with_reducible exact own_rd (HF.out.alloc _).drew)) (kp_le (by with_reducible assumption) (Nat.le_refl _))).mono ?_); rintro e wC ⟨a3, cap3, rfl, hb1⟩; have hz0 := hb1.size; (try simp only [World.size_alloc] at hz0); have hz1 : wr.heap.size ≤ wC.heap.size := (by have hk0 : Kp wr 0 _ := (by with_reducible assumption); have hk1 := hk0.sz; (try simp only [World.size_alloc] at hk1); omega); (try (first | (with_reducible have HN := hid (HN.out.below' hb1)) | (with_reducible have HN := hid (HN.out.drew.below' hb1)) | (with_reducible have HN := hid (one_kept hb1)) | (with_reducible have HN := hid (one_kept_drew hb1)))); (try (obtain ⟨m0, m1, m2⟩ := HN.out))))
          all_goals
            go_wp2_with fail
            go_meet
            go_split_ands
            first
              | exact ⟨_, a3, cap3, rfl, rfl, one_new _ _ _, by omega, by with_reducible assumption⟩
              | exact ⟨_, a3, cap3, rfl, rfl, HN.out.set _, by omega, by with_reducible assumption⟩
        case rest =>
          obtain ⟨g, a3, cap3, rfl, rfl, O8, hg, hkp⟩ := hcut
          obtain ⟨w3, rfl⟩ : ∃ wo : World, wo = wc := ⟨_, rfl⟩
          have hb3 := hkp.bel
          replace K := hid (K.out.below' hb3)
          replace B := hid (B.out.trans (hb3.mono B.out.size))
          have hr := (K.out.set (.slice none 0 0)).1
          have B3 := hid (B.out.setCell (p := ⟨w.heap.size, 0, none⟩) (Nat.le_refl _) (.slice none 0 0))
          clear c7 z7 hb3 hkp hkr
          obtain ⟨c7, _, z7⟩ := K.out
          go_wp2
          refine bodyPost_ret (v := .tuple #[.agg #[.slice none 0 0], .bool false]) (by simp [results, Try.results101, go_sem, hr]) rfl ⟨none, 0, ?_, ?_, B3.out⟩
          · rw [px_no PN.out, PN.out]; rfl
          · rw [px_no PN.out]; exact Own.nil _ _ _
    · have e : i = k := by omega
      subst e
      have hr := (K.set (.slice a (ci (dg (b ^ i))).length cap)).1
      have P3 := hid (own_ne P (p := ⟨w.heap.size, 0, none⟩) (fun q hq => (NP.out q hq).2) (.slice a (ci (dg (b ^ i))).length cap))
      have B3 := hid (B.setCell (p := ⟨w.heap.size, 0, none⟩) (Nat.le_refl _) (.slice a (ci (dg (b ^ i))).length cap))
      obtain ⟨c7, _, z7⟩ := O7
      obtain ⟨c0, _, z0⟩ := K
      clear P B hp60
      go_wp2
      refine bodyPost_ret (v := .tuple #[.agg #[.slice a (ci (dg (b ^ i))).length cap], .bool true]) (by simp [results, Try.results101, go_sem, hr]) rfl ⟨a, cap, ?_, ?_, B3.out⟩
      · rw [px_yes hpb.out, hpb.out]
      · rw [px_yes hpb.out]; exact P3.out
end Go.Proofs.Ytaiimjbdhcjobaa.BigPowS
