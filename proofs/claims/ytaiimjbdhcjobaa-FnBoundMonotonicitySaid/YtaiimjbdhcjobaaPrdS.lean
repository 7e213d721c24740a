/- The contract of spec.ProductOfPowers. -/
import Derived.Test.YtaiimjbdhcjobaaPrdI
import Derived.Deep.RegionHeld3
import Derived.Deep.DeepCutAuto
namespace Go.Proofs.Ytaiimjbdhcjobaa.PrdS
open Go.RowKit
open Go.Proofs.Ytaiimjbdhcjobaa.Num Go.Proofs.Ytaiimjbdhcjobaa.IntRow Go.Proofs.Ytaiimjbdhcjobaa.IntLaw Go.Proofs.Ytaiimjbdhcjobaa.Dig Go.Proofs.Ytaiimjbdhcjobaa.BigValid Go.Proofs.Ytaiimjbdhcjobaa.BigFrom Go.Proofs.Ytaiimjbdhcjobaa.BigCols Go.Proofs.Ytaiimjbdhcjobaa.BigPow Go.Proofs.Ytaiimjbdhcjobaa.PrdP Go.Proofs.Ytaiimjbdhcjobaa.PrdI Go.Proofs.Ytaiimjbdhcjobaa.Keep Go.Proofs.Ytaiimjbdhcjobaa.Kept
set_option linter.unusedVariables false

set_option maxRecDepth 100000 in
theorem spec_prd (a1 a2 : Option Addr) (cap1 cap2 B1 B2 : Nat) (S E : List Int) (w : World) (hS : S.length ≤ 1048576) (hE : E.length ≤ 1048576) (hbd : ∀ j (h : j < S.length), S[j] ≤ 9223372036854775807) (h1 : Rd w B1 a1 S) (h2 : Rd w B2 a2 E) (hB1 : B1 ≤ w.heap.size) (hB2 : B2 ≤ w.heap.size) :
    Calls Try.prog 37 #[.slice a1 S.length cap1, .slice a2 E.length cap2] w (Prd S E w) := by
  have K := hid (one_new w (.slice none 0 0) 53)
  have B := hid ((Below.refl w.heap.size w).alloc (Nat.le_refl _) (.cells #[.slice none 0 0] 53))
  by_cases hl : S.length = E.length
  · have hne : ((S.length : Int) != (E.length : Int)) = false := by simp [hl]
    have F1 := hid fun W => spec_from (1 : Int) W (by omega)
    rw [show ((1 : Int)).toNat = 1 by rfl] at F1
    have HL := hid hl
    clear hl
    go_enter Try.func37, Try.ntmps37
    go_wp2_with fail
    refine (F1.out _).mono ?_
    rintro e w1 ⟨ap, capp, rfl, P, hb2⟩
    have LP := hid P.lt
    simp only [World.size_alloc] at LP
    replace K := hid (K.out.below' hb2)
    replace B := hid (B.out.trans (hb2.mono B.out.size))
    have hs1 := K.out.2.2
    clear hb2
    go_wp2
    have O6 := hid (one_new w1 (.slice ap (ci (dg 1)).length capp) 53)
    replace P := hid ((P.mono (show w.heap.size ≤ _ by simp)).alloc (.cells #[.slice ap (ci (dg 1)).length capp] 53))
    replace K := hid (K.out.alloc (.cells #[.slice ap (ci (dg 1)).length capp] 53))
    replace B := hid (B.out.alloc B.out.size (.cells #[.slice ap (ci (dg 1)).length capp] 53))
    have NP := hid (show ∀ q, (Value.slice ap (ci (dg 1)).length capp).ownBlock = some q → q ≠ w1.heap.size ∧ q ≠ w.heap.size from fun q hq => by have := LP.out q hq; omega)
    clear F1 LP hne
    go_loopw [7] (fun iv wr => ∃ (i p : Nat) (a : Option Addr) (cap : Nat), iv = .int .i64 i ∧ i ≤ S.length ∧ Hid (pp S E i = some p) ∧ One wr w1.heap.size (.slice a (ci (dg p)).length cap) ∧ Own wr w.heap.size 3 (.slice a (ci (dg p)).length cap) (ci (dg p)) ∧ Hid (∀ q, (Value.slice a (ci (dg p)).length cap).ownBlock = some q → q ≠ w1.heap.size ∧ q ≠ w.heap.size) ∧ One wr w.heap.size (.slice none 0 0) ∧ Below w.heap.size w wr) (fun iv _ => S.length - (intOf iv).toNat)
    case atStart => exact ⟨0, 1, ap, capp, rfl, Nat.zero_le _, hid rfl, O6.out, P.out, NP, K.out, B.out⟩
    case round =>
      clear O6 P NP K B
      obtain ⟨i, p, a, cap, rfl, hik, hpp, O6, P, NP, K, B⟩ := hrel
      have hp60 := pp_len hpp.out
      by_cases hlt : i < S.length
      · have hlt2 : i < E.length := by have := HL.out; omega
        have hlt' : (i : Int) < (S.length : Int) := by omega
        have hlt2' : (i : Int) < (E.length : Int) := by omega
        have h0' : (0 : Int) ≤ (i : Int) := by omega
        have hzw := K.2.2
        have hz2 := O6.2.2
        obtain ⟨b1, o1, rfl, hb1, hc1⟩ := (h1.below (B.mono hB1)) (by omega)
        obtain ⟨b2, o2, rfl, hb2, hc2⟩ := (h2.below (B.mono hB2)) (by omega)
        have g1 := hc1 i hlt
        have g2 := hc2 i hlt2
        have M := hid fun W => spec_pow S[i] E[i] W (hbd i hlt)
        have HP := hid fun W (a2 : Option Addr) (c1 c2 Q1 Q2 : Nat) => spec_mul_dg a a2 c1 c2 Q1 Q2 p (pv S[i] E[i]) W hp60 (pv_len _ _)
        replace O6 := hid O6
        replace P := hid P
        replace K := hid K
        replace B := hid B
        clear hc1 hc2 h1 h2 hp60
        obtain ⟨c6, _, z6⟩ := O6.out
        have hkr := kp_refl wr
        go_upto_region 7 with fail
        go_cut [8, 9] (fun s8 s9 wx => ∃ (g : Nat) (a3 : Option Addr) (cap3 : Nat), s8 = .pointer (some ⟨g, 0, none⟩) ∧ s9 = .bool (pk S[i] E[i]) ∧ One wx g (.slice a3 (ci (dg (pv S[i] E[i]))).length cap3) ∧ Own wx wr.heap.size 3 (.slice a3 (ci (dg (pv S[i] E[i]))).length cap3) (ci (dg (pv S[i] E[i]))) ∧ wr.heap.size ≤ g ∧ Kp wr 0 wx)
        case first =>
          go_region_held3 (fun w' => w'.cell? ⟨b1, o1 + i, none⟩ = some (.int .i64 S[i]) ∧ w'.cell? ⟨b2, o2 + i, none⟩ = some (.int .i64 E[i]) ∧ Kp wr 0 w')
            (first
              | (go_split_ands
                 repeat' apply And.intro
                 all_goals (first | (with_reducible assumption) | (with_reducible exact cell_drew (by assumption)) | (with_reducible exact Kp.drew (by assumption)) | (with_reducible exact Kp.cell (by assumption) hb1 (by omega) (by assumption)) | (with_reducible exact Kp.call (by assumption) hb1) | (with_reducible exact Kp.cell_alloc (by assumption) _ (by omega) (by assumption)) | (with_reducible exact Kp.alloc (by assumption) _) | (with_reducible exact Kp.cell_alloc_drew (by assumption) _ (by omega) (by assumption)) | (with_reducible exact Kp.alloc_drew (by assumption) _) | (with_reducible exact Kp.reall (by assumption) (by omega) _) | (with_reducible exact cell_realloc (by omega) (by assumption) _) | (with_reducible exact cell_set1 (by assumption) (by omega)) | (with_reducible exact Kept.Kp.set1 (by assumption) (by omega) _))))
            (first | (go_split_ands; go_at_call 101; (with_reducible refine (M.out _).mono ?_); rintro e wC ⟨a3, cap3, rfl, hown, hb1⟩; have hz0 := hb1.size; (try simp only [World.size_alloc] at hz0); have hz1 : wr.heap.size ≤ wC.heap.size := (by have hk0 : Kp wr 0 _ := (by with_reducible assumption); have hk1 := hk0.sz; (try simp only [World.size_alloc] at hk1); omega); have LH := hown.lt; have HO := hid (Own.mono (lo' := wr.heap.size) hown (kp_le (by with_reducible assumption) (Nat.le_refl _))); clear hown; (try (first | (with_reducible have HN := hid (HN.out.below' hb1)) | (with_reducible have HN := hid (HN.out.drew.below' hb1)) | (with_reducible have HN := hid (one_kept hb1)) | (with_reducible have HN := hid (one_kept_drew hb1)))); (try (obtain ⟨m0, m1, m2⟩ := HN.out))))
          all_goals
            go_wp2_with fail
            go_meet
            go_split_ands
            first
              | exact ⟨_, a3, cap3, rfl, rfl, one_new _ _ _, HO.out.alloc _, by omega, by with_reducible assumption⟩
              | exact ⟨_, a3, cap3, rfl, rfl, HN.out.set _, own_ne HO.out (fun q hq => by have h7 := (LH q hq).1; have h8 : (wr.alloc (Obj.cells #[Value.slice none 0 0] 53)).heap.size ≤ q := h7; simp only [World.size_alloc] at h8; simp only; omega) _, by omega, by with_reducible assumption⟩
        case rest =>
        obtain ⟨g9, a3, cap3, rfl, rfl, O9, X, hg9, hkp⟩ := hcut
        obtain ⟨w2, rfl⟩ : ∃ wo : World, wo = wc := ⟨_, rfl⟩
        have hb3 := hkp.bel
        clear M c6 z6 g1 g2 hkr hkp
        have hsz3 := hb3.size
        have hgz := O9.2.2
        replace O9 := hid O9
        have LX := hid X.lt
        replace X := hid X
        replace O6 := hid (O6.out.below' hb3)
        replace P := hid (P.out.below' hb3)
        replace K := hid (K.out.below' hb3)
        replace B := hid (B.out.trans (hb3.mono B.out.size))
        clear hb3
        obtain ⟨c6, _, z6⟩ := O6.out
        obtain ⟨c9, _, z9⟩ := O9.out
        go_wp2_with fail
        refine (HP.out _ a3 cap cap3 _ _ (own_rd P.out) (own_rd X.out) (Nat.le_refl _) (Nat.le_refl _)).mono ?_
        rintro e w4 ⟨a5, cap5, rfl, Y, hb5⟩
        clear HP c6 z6 c9 z9 X O9 P
        have LY := hid Y.lt
        replace O6 := hid (O6.out.below' hb5)
        replace K := hid (K.out.below' hb5)
        replace B := hid (B.out.trans (hb5.mono B.out.size))
        have hsz5 := hb5.size
        (try simp only [World.size_alloc] at hsz5)
        clear hb5
        have KE := hid ((K.out.set (.slice none 0 0)).alloc (.cells #[.slice a5 (rx (dg (p * pv S[i] E[i]))).length cap5] 53))
        have BE0 := B.out.setCell (p := ⟨w.heap.size, 0, none⟩) (Nat.le_refl _) (.slice none 0 0)
        have BE := hid (BE0.alloc BE0.size (.cells #[.slice a5 (rx (dg (p * pv S[i] E[i]))).length cap5] 53))
        clear BE0
        have KA := hid (K.out.alloc (.cells #[.slice a5 (rx (dg (p * pv S[i] E[i]))).length cap5] 53))
        cases hk : pk S[i] E[i] with
        | false =>
          have PN := hid (prd_noP HL.out hpp.out hlt hlt2 hk)
          obtain ⟨ck, _, zk⟩ := K.out
          have hr := KE.out.1
          clear hk Y
          go_wp2
          exact bodyPost_ret (v := .tuple #[.agg #[.slice none 0 0], .bool false]) (by simp [results, Try.results37, go_sem, hr]) rfl (prd_no PN.out BE.out)
        | true =>
          by_cases hR : (dg (p * pv S[i] E[i])).length ≤ 60
          · have PY := hid (pp_yes hpp.out hlt hlt2 hk hR)
            rw [rx_yes hR] at Y LY ⊢
            rw [rb_yes hR]
            have NG := hid (show ∀ q, (Value.slice a5 (ci (dg (p * pv S[i] E[i]))).length cap5).ownBlock = some q → q ≠ w1.heap.size ∧ q ≠ w.heap.size from fun q hq => by have := LY.out q hq; (try simp only [World.size_alloc] at this); omega)
            have G3 := hid ((own_ne Y (p := ⟨w1.heap.size, 0, none⟩) (fun q hq => (NG.out q hq).1) (.slice a5 (ci (dg (p * pv S[i] E[i]))).length cap5)).alloc (.cells #[.slice a5 (ci (dg (p * pv S[i] E[i]))).length cap5] 53))
            have O63 := hid ((O6.out.set (.slice a5 (ci (dg (p * pv S[i] E[i]))).length cap5)).alloc (.cells #[.slice a5 (ci (dg (p * pv S[i] E[i]))).length cap5] 53))
            have K3 := hid ((K.out.far (p := ⟨w1.heap.size, 0, none⟩) (by simp only; omega) (.slice a5 (ci (dg (p * pv S[i] E[i]))).length cap5)).alloc (.cells #[.slice a5 (ci (dg (p * pv S[i] E[i]))).length cap5] 53))
            have B30 := B.out.setCell (p := ⟨w1.heap.size, 0, none⟩) (by simp only; omega) (.slice a5 (ci (dg (p * pv S[i] E[i]))).length cap5)
            have B3 := hid (B30.alloc B30.size (.cells #[.slice a5 (ci (dg (p * pv S[i] E[i]))).length cap5] 53))
            clear B30
            have hG : w.heap.size ≤ w2.heap.size + 1 := by omega
            obtain ⟨c6, _, z6⟩ := O6.out
            clear hk hR Y KE BE KA
            go_wp2
            go_roundw
            case rel => exact ⟨i + 1, _, a5, cap5, by go_num, by omega, PY, O63.out, G3.out.mono (by (try simp only [World.size_alloc]); omega), NG, K3.out, B3.out⟩
            case measure => simp [intOf]; omega
          · have PN := hid (prd_noM HL.out hpp.out hlt hlt2 hR)
            rw [rb_no hR]
            obtain ⟨ck, _, zk⟩ := K.out
            have hr := KE.out.1
            clear hk hR Y
            go_wp2
            exact bodyPost_ret (v := .tuple #[.agg #[.slice none 0 0], .bool false]) (by simp [results, Try.results37, go_sem, hr]) rfl (prd_no PN.out BE.out)
      · have e : i = S.length := by omega
        subst e
        have PY := hid (prd_end HL.out hpp.out)
        have hr := (K.set (.slice a (ci (dg p)).length cap)).1
        have P3 := hid (own_ne P (p := ⟨w.heap.size, 0, none⟩) (fun q hq => (NP.out q hq).2) (.slice a (ci (dg p)).length cap))
        have B3 := hid (B.setCell (p := ⟨w.heap.size, 0, none⟩) (Nat.le_refl _) (.slice a (ci (dg p)).length cap))
        obtain ⟨c7, _, z7⟩ := O6
        obtain ⟨c0, _, z0⟩ := K
        clear P B hp60 h1 h2
        go_wp2
        exact bodyPost_ret (v := .tuple #[.agg #[.slice a (ci (dg p)).length cap], .bool true]) (by simp [results, Try.results37, go_sem, hr]) rfl (prd_yes PY.out P3.out B3.out)
  · have hne : ((S.length : Int) != (E.length : Int)) = true := by simp [bne_iff_ne]; omega
    have PN := hid (show prd S E = none by unfold prd; rw [if_neg hl])
    clear hl h1 h2
    go_enter Try.func37, Try.ntmps37
    go_wp2
    exact bodyPost_ret (v := .tuple #[.agg #[.slice none 0 0], .bool false]) (by simp [results, Try.results37, go_sem]) rfl (prd_no PN.out B.out)
end Go.Proofs.Ytaiimjbdhcjobaa.PrdS
