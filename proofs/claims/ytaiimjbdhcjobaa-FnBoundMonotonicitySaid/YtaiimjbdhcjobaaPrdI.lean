/- The contract of impl.ProductOfPowers. -/
import Derived.Test.YtaiimjbdhcjobaaPrdP
namespace Go.Proofs.Ytaiimjbdhcjobaa.PrdI
open Go.RowKit
open Go.Proofs.Ytaiimjbdhcjobaa.Num Go.Proofs.Ytaiimjbdhcjobaa.IntRow Go.Proofs.Ytaiimjbdhcjobaa.IntLaw Go.Proofs.Ytaiimjbdhcjobaa.Dig Go.Proofs.Ytaiimjbdhcjobaa.BigValid Go.Proofs.Ytaiimjbdhcjobaa.BigFrom Go.Proofs.Ytaiimjbdhcjobaa.BigCols Go.Proofs.Ytaiimjbdhcjobaa.BigPow Go.Proofs.Ytaiimjbdhcjobaa.PrdP
set_option linter.unusedVariables false

theorem pp_yes {S E : List Int} {k p : Nat} (h : pp S E k = some p) (h1 : k < S.length) (h2 : k < E.length) (e1 : pk S[k] E[k] = true) (e2 : (dg (p * pv S[k] E[k])).length ≤ 60) : pp S E (k + 1) = some (p * pv S[k] E[k]) := by
  rw [pp_step h h1 h2, e1, rb_yes e2]; rfl
theorem prd_noP {S E : List Int} {k p : Nat} (hl : S.length = E.length) (h : pp S E k = some p) (h1 : k < S.length) (h2 : k < E.length) (e1 : pk S[k] E[k] = false) : prd S E = none := by
  unfold prd
  rw [if_pos hl]
  refine pp_none (k := k + 1) ?_ h1
  rw [pp_step h h1 h2, e1]; rfl
theorem prd_noM {S E : List Int} {k p : Nat} (hl : S.length = E.length) (h : pp S E k = some p) (h1 : k < S.length) (h2 : k < E.length) (e2 : ¬ (dg (p * pv S[k] E[k])).length ≤ 60) : prd S E = none := by
  unfold prd
  rw [if_pos hl]
  refine pp_none (k := k + 1) ?_ h1
  rw [pp_step h h1 h2, rb_no e2, Bool.and_false]; rfl
theorem prd_end {S E : List Int} {p : Nat} (hl : S.length = E.length) (h : pp S E S.length = some p) : prd S E = some p := by
  unfold prd
  rw [if_pos hl]; exact h

set_option maxRecDepth 100000 in
theorem impl_prd (a1 a2 : Option Addr) (cap1 cap2 B1 B2 : Nat) (S E : List Int) (w : World) (hS : S.length ≤ 1048576) (hE : E.length ≤ 1048576) (hbd : ∀ j (h : j < S.length), S[j] ≤ 9223372036854775807) (h1 : Rd w B1 a1 S) (h2 : Rd w B2 a2 E) (hB1 : B1 ≤ w.heap.size) (hB2 : B2 ≤ w.heap.size) :
    Calls Try.prog 36 #[.slice a1 S.length cap1, .slice a2 E.length cap2] w (Prd S E w) := by
  have K := hid (one_new w (.slice none 0 0) 53)
  have B := hid ((Below.refl w.heap.size w).alloc (Nat.le_refl _) (.cells #[.slice none 0 0] 53))
  by_cases hl : S.length = E.length
  · have hne : ((S.length : Int) != (E.length : Int)) = false := by simp [hl]
    have F1 := hid fun W => impl_from (1 : Int) W (by omega)
    rw [show ((1 : Int)).toNat = 1 by rfl] at F1
    have HL := hid hl
    clear hl
    go_enter Try.func36, Try.ntmps36
    go_wp2_with fail
    refine (F1.out _).mono ?_
    rintro e w1 ⟨ap, capp, rfl, P, hb2⟩
    have LP := hid P.lt
    simp only [World.size_alloc] at LP
    replace K := hid (K.out.below' hb2)
    replace B := hid (B.out.trans (hb2.mono B.out.size))
    have hs1 := K.out.2.2
    clear hb2
    go_wp2
    have O6 := hid (one_new w1 (.slice ap (ci (dg 1)).length capp) 53)
    replace P := hid ((P.mono (show w.heap.size ≤ _ by simp)).alloc (.cells #[.slice ap (ci (dg 1)).length capp] 53))
    replace K := hid (K.out.alloc (.cells #[.slice ap (ci (dg 1)).length capp] 53))
    replace B := hid (B.out.alloc B.out.size (.cells #[.slice ap (ci (dg 1)).length capp] 53))
    have NP := hid (show ∀ q, (Value.slice ap (ci (dg 1)).length capp).ownBlock = some q → q ≠ w1.heap.size ∧ q ≠ w.heap.size from fun q hq => by have := LP.out q hq; omega)
    clear F1 LP hne
    go_loopw [22] (fun iv wr => ∃ (i p : Nat) (a : Option Addr) (cap : Nat), iv = .int .i64 i ∧ i ≤ S.length ∧ Hid (pp S E i = some p) ∧ One wr w1.heap.size (.slice a (ci (dg p)).length cap) ∧ Own wr w.heap.size 3 (.slice a (ci (dg p)).length cap) (ci (dg p)) ∧ Hid (∀ q, (Value.slice a (ci (dg p)).length cap).ownBlock = some q → q ≠ w1.heap.size ∧ q ≠ w.heap.size) ∧ One wr w.heap.size (.slice none 0 0) ∧ Below w.heap.size w wr) (fun iv _ => S.length - (intOf iv).toNat)
    case atStart => exact ⟨0, 1, ap, capp, rfl, Nat.zero_le _, hid rfl, O6.out, P.out, NP, K.out, B.out⟩
    case round =>
      clear O6 P NP K B
      obtain ⟨i, p, a, cap, rfl, hik, hpp, O6, P, NP, K, B⟩ := hrel
      have hp60 := pp_len hpp.out
      by_cases hlt : i < S.length
      · have hlt2 : i < E.length := by have := HL.out; omega
        have hlt' : (i : Int) < (S.length : Int) := by omega
        have hlt2' : (i : Int) < (E.length : Int) := by omega
        have h0' : (0 : Int) ≤ (i : Int) := by omega
        have hzw := K.2.2
        have hz2 := O6.2.2
        obtain ⟨b1, o1, rfl, hb1, hc1⟩ := (h1.below (B.mono hB1)) (by omega)
        obtain ⟨b2, o2, rfl, hb2, hc2⟩ := (h2.below (B.mono hB2)) (by omega)
        have g1 := hc1 i hlt
        have g2 := hc2 i hlt2
        have M := hid (impl_pow S[i] E[i] wr (hbd i hlt))
        have HP := hid fun W (a2 : Option Addr) (c1 c2 Q1 Q2 : Nat) => impl_mul_dg a a2 c1 c2 Q1 Q2 p (pv S[i] E[i]) W hp60 (pv_len _ _)
        replace O6 := hid O6
        replace P := hid P
        replace K := hid K
        replace B := hid B
        clear hc1 hc2 h1 h2 hp60
        obtain ⟨c6, _, z6⟩ := O6.out
        go_wp2_with fail
        refine M.out.mono ?_
        rintro e w2 ⟨a3, cap3, rfl, X, hb3⟩
        clear M c6 z6 g1 g2
        have hsz3 := hb3.size
        have LX := hid X.lt
        replace O6 := hid (O6.out.below' hb3)
        replace P := hid (P.out.below' hb3)
        replace K := hid (K.out.below' hb3)
        replace B := hid (B.out.trans (hb3.mono B.out.size))
        have O9 := hid (one_new w2 (.slice a3 (ci (dg (pv S[i] E[i]))).length cap3) 53)
        replace X := hid (X.alloc (.cells #[.slice a3 (ci (dg (pv S[i] E[i]))).length cap3] 53))
        replace O6 := hid (O6.out.alloc (.cells #[.slice a3 (ci (dg (pv S[i] E[i]))).length cap3] 53))
        replace P := hid (P.out.alloc (.cells #[.slice a3 (ci (dg (pv S[i] E[i]))).length cap3] 53))
        replace K := hid (K.out.alloc (.cells #[.slice a3 (ci (dg (pv S[i] E[i]))).length cap3] 53))
        replace B := hid (B.out.alloc B.out.size (.cells #[.slice a3 (ci (dg (pv S[i] E[i]))).length cap3] 53))
        clear hb3
        obtain ⟨c6, _, z6⟩ := O6.out
        obtain ⟨c9, _, z9⟩ := O9.out
        go_wp2_with fail
        refine (HP.out _ a3 cap cap3 _ _ (own_rd P.out) (own_rd X.out) (Nat.le_refl _) (Nat.le_refl _)).mono ?_
        rintro e w4 ⟨a5, cap5, rfl, Y, hb5⟩
        clear HP c6 z6 c9 z9 X O9 P
        have LY := hid Y.lt
        replace O6 := hid (O6.out.below' hb5)
        replace K := hid (K.out.below' hb5)
        replace B := hid (B.out.trans (hb5.mono B.out.size))
        have hsz5 := hb5.size
        simp only [World.size_alloc] at hsz5
        clear hb5
        have KE := hid ((K.out.set (.slice none 0 0)).alloc (.cells #[.slice a5 (rx (dg (p * pv S[i] E[i]))).length cap5] 53))
        have BE0 := B.out.setCell (p := ⟨w.heap.size, 0, none⟩) (Nat.le_refl _) (.slice none 0 0)
        have BE := hid (BE0.alloc BE0.size (.cells #[.slice a5 (rx (dg (p * pv S[i] E[i]))).length cap5] 53))
        clear BE0
        have KA := hid (K.out.alloc (.cells #[.slice a5 (rx (dg (p * pv S[i] E[i]))).length cap5] 53))
        cases hk : pk S[i] E[i] with
        | false =>
          have PN := hid (prd_noP HL.out hpp.out hlt hlt2 hk)
          obtain ⟨ck, _, zk⟩ := K.out
          have hr := KE.out.1
          clear hk Y
          go_wp2
          exact bodyPost_ret (v := .tuple #[.agg #[.slice none 0 0], .bool false]) (by simp [results, Try.results36, go_sem, hr]) rfl (prd_no PN.out BE.out)
        | true =>
          by_cases hR : (dg (p * pv S[i] E[i])).length ≤ 60
          · have PY := hid (pp_yes hpp.out hlt hlt2 hk hR)
            rw [rx_yes hR] at Y LY ⊢
            rw [rb_yes hR]
            have NG := hid (show ∀ q, (Value.slice a5 (ci (dg (p * pv S[i] E[i]))).length cap5).ownBlock = some q → q ≠ w1.heap.size ∧ q ≠ w.heap.size from fun q hq => by have := LY.out q hq; simp only [World.size_alloc] at this; omega)
            have G3 := hid ((own_ne Y (p := ⟨w1.heap.size, 0, none⟩) (fun q hq => (NG.out q hq).1) (.slice a5 (ci (dg (p * pv S[i] E[i]))).length cap5)).alloc (.cells #[.slice a5 (ci (dg (p * pv S[i] E[i]))).length cap5] 53))
            have O63 := hid ((O6.out.set (.slice a5 (ci (dg (p * pv S[i] E[i]))).length cap5)).alloc (.cells #[.slice a5 (ci (dg (p * pv S[i] E[i]))).length cap5] 53))
            have K3 := hid ((K.out.far (p := ⟨w1.heap.size, 0, none⟩) (by simp only; omega) (.slice a5 (ci (dg (p * pv S[i] E[i]))).length cap5)).alloc (.cells #[.slice a5 (ci (dg (p * pv S[i] E[i]))).length cap5] 53))
            have B30 := B.out.setCell (p := ⟨w1.heap.size, 0, none⟩) (by simp only; omega) (.slice a5 (ci (dg (p * pv S[i] E[i]))).length cap5)
            have B3 := hid (B30.alloc B30.size (.cells #[.slice a5 (ci (dg (p * pv S[i] E[i]))).length cap5] 53))
            clear B30
            have hG : w.heap.size ≤ w2.heap.size + 1 := by omega
            obtain ⟨c6, _, z6⟩ := O6.out
            clear hk hR Y KE BE KA
            go_wp2
            go_roundw
            case rel => exact ⟨i + 1, _, a5, cap5, by go_num, by omega, PY, O63.out, G3.out.mono (by simp only [World.size_alloc]; omega), NG, K3.out, B3.out⟩
            case measure => simp [intOf]; omega
          · have PN := hid (prd_noM HL.out hpp.out hlt hlt2 hR)
            rw [rb_no hR]
            obtain ⟨ck, _, zk⟩ := K.out
            have hr := KE.out.1
            clear hk hR Y
            go_wp2
            exact bodyPost_ret (v := .tuple #[.agg #[.slice none 0 0], .bool false]) (by simp [results, Try.results36, go_sem, hr]) rfl (prd_no PN.out BE.out)
      · have e : i = S.length := by omega
        subst e
        have PY := hid (prd_end HL.out hpp.out)
        have hr := (K.set (.slice a (ci (dg p)).length cap)).1
        have P3 := hid (own_ne P (p := ⟨w.heap.size, 0, none⟩) (fun q hq => (NP.out q hq).2) (.slice a (ci (dg p)).length cap))
        have B3 := hid (B.setCell (p := ⟨w.heap.size, 0, none⟩) (Nat.le_refl _) (.slice a (ci (dg p)).length cap))
        obtain ⟨c7, _, z7⟩ := O6
        obtain ⟨c0, _, z0⟩ := K
        clear P B hp60 h1 h2
        go_wp2
        exact bodyPost_ret (v := .tuple #[.agg #[.slice a (ci (dg p)).length cap], .bool true]) (by simp [results, Try.results36, go_sem, hr]) rfl (prd_yes PY.out P3.out B3.out)
  · have hne : ((S.length : Int) != (E.length : Int)) = true := by simp [bne_iff_ne]; omega
    have PN := hid (show prd S E = none by unfold prd; rw [if_neg hl])
    clear hl h1 h2
    go_enter Try.func36, Try.ntmps36
    go_wp2
    exact bodyPost_ret (v := .tuple #[.agg #[.slice none 0 0], .bool false]) (by simp [results, Try.results36, go_sem]) rfl (prd_no PN.out B.out)
end Go.Proofs.Ytaiimjbdhcjobaa.PrdI
