/- Powers: plain lemmas, products of numbers in digits, and the contract of impl.PowBigInt. -/
import Derived.Test.YtaiimjbdhcjobaaBigMulS
namespace Go.Proofs.Ytaiimjbdhcjobaa.BigPow
open Go.RowKit
open Go.Proofs.Ytaiimjbdhcjobaa.Num Go.Proofs.Ytaiimjbdhcjobaa.IntRow Go.Proofs.Ytaiimjbdhcjobaa.IntLaw Go.Proofs.Ytaiimjbdhcjobaa.Dig Go.Proofs.Ytaiimjbdhcjobaa.BigValid Go.Proofs.Ytaiimjbdhcjobaa.BigFrom Go.Proofs.Ytaiimjbdhcjobaa.BigCols Go.Proofs.Ytaiimjbdhcjobaa.BigMul Go.Proofs.Ytaiimjbdhcjobaa.BigMulS
set_option linter.unusedVariables false

/-- All powers on the way have 60 digits at most. -/
def pb (b k : Nat) : Bool := (List.range (k + 1)).all fun j => decide ((dg (b ^ j)).length ≤ 60)
def px (b k : Nat) : List Int := if pb b k then ci (dg (b ^ k)) else []
theorem pb_zero (b : Nat) : pb b 0 = true := by
  simp [pb]
  exact decide_eq_true (dg_length_le 1 60 (by omega))
theorem pb_at {b k j : Nat} (h : pb b k = true) (hj : j ≤ k) : (dg (b ^ j)).length ≤ 60 := by
  simp only [pb, List.all_eq_true, decide_eq_true_eq] at h
  exact h j (by simp; omega)
theorem pb_succ {b k : Nat} (h : pb b k = true) (h2 : (dg (b ^ (k + 1))).length ≤ 60) : pb b (k + 1) = true := by
  simp only [pb, List.all_eq_true, decide_eq_true_eq]
  intro j hj
  by_cases e : j = k + 1
  · subst e; exact h2
  · exact pb_at h (by simp at hj; omega)
theorem pb_no {b k j : Nat} (hj : j ≤ k) (h : ¬ (dg (b ^ j)).length ≤ 60) : pb b k = false := by
  cases h2 : pb b k with
  | false => rfl
  | true => exact absurd (pb_at h2 hj) h
theorem px_yes {b k : Nat} (h : pb b k = true) : px b k = ci (dg (b ^ k)) := by simp [px, h]
theorem px_no {b k : Nat} (h : pb b k = false) : px b k = [] := by simp [px, h]
theorem px_length (b k : Nat) : (px b k).length ≤ 60 := by
  cases h : pb b k with
  | false => rw [px_no h]; simp
  | true => rw [px_yes h, ci_length]; exact pb_at h (Nat.le_refl _)

theorem impl_mul_dg (a1 a2 : Option Addr) (cap1 cap2 B1 B2 p q : Nat) (w : World) (hp : (dg p).length ≤ 60) (hq : (dg q).length ≤ 60) (h1 : Rd w B1 a1 (ci (dg p))) (h2 : Rd w B2 a2 (ci (dg q))) (hB1 : B1 ≤ w.heap.size) (hB2 : B2 ≤ w.heap.size) :
    Calls Try.prog 99 #[.agg #[.slice a1 (ci (dg p)).length cap1], .agg #[.slice a2 (ci (dg q)).length cap2]] w fun e w' => ∃ a cap', e = .returned (.tuple #[.agg #[.slice a (rx (dg (p * q))).length cap'], .bool (rb (dg (p * q)))]) ∧ Own w' w.heap.size 3 (.slice a (rx (dg (p * q))).length cap') (rx (dg (p * q))) ∧ Below w.heap.size w w' := by
  have h := impl_mul_yes a1 a2 (ci (dg p)).length (ci (dg q)).length cap1 cap2 B1 B2 (dg p) (dg q) w (norm_dg p) (norm_dg q) (ci_length _).symm (ci_length _).symm (by rw [ci_length]; exact hp) (by rw [ci_length]; exact hq) h1 h2 hB1 hB2
  rw [vl_dg, vl_dg] at h
  exact h
theorem spec_mul_dg (a1 a2 : Option Addr) (cap1 cap2 B1 B2 p q : Nat) (w : World) (hp : (dg p).length ≤ 60) (hq : (dg q).length ≤ 60) (h1 : Rd w B1 a1 (ci (dg p))) (h2 : Rd w B2 a2 (ci (dg q))) (hB1 : B1 ≤ w.heap.size) (hB2 : B2 ≤ w.heap.size) :
    Calls Try.prog 102 #[.agg #[.slice a1 (ci (dg p)).length cap1], .agg #[.slice a2 (ci (dg q)).length cap2]] w fun e w' => ∃ a cap', e = .returned (.tuple #[.agg #[.slice a (rx (dg (p * q))).length cap'], .bool (rb (dg (p * q)))]) ∧ Own w' w.heap.size 3 (.slice a (rx (dg (p * q))).length cap') (rx (dg (p * q))) ∧ Below w.heap.size w w' := by
  have h := spec_mul_yes a1 a2 (ci (dg p)).length (ci (dg q)).length cap1 cap2 B1 B2 (dg p) (dg q) w (norm_dg p) (norm_dg q) (ci_length _).symm (ci_length _).symm (by rw [ci_length]; exact hp) (by rw [ci_length]; exact hq) h1 h2 hB1 hB2
  rw [vl_dg, vl_dg] at h
  exact h

theorem impl_mul_pow_yes (a1 a2 : Option Addr) (cap1 cap2 B1 B2 b i : Nat) (w : World) (hp : (dg (b ^ i)).length ≤ 60) (hq : (dg b).length ≤ 60) (hR : (dg (b ^ (i + 1))).length ≤ 60) (h1 : Rd w B1 a1 (ci (dg (b ^ i)))) (h2 : Rd w B2 a2 (ci (dg b))) (hB1 : B1 ≤ w.heap.size) (hB2 : B2 ≤ w.heap.size) :
    Calls Try.prog 99 #[.agg #[.slice a1 (ci (dg (b ^ i))).length cap1], .agg #[.slice a2 (ci (dg b)).length cap2]] w fun e w' => ∃ a cap', e = .returned (.tuple #[.agg #[.slice a (ci (dg (b ^ (i + 1)))).length cap'], .bool true]) ∧ Own w' w.heap.size 3 (.slice a (ci (dg (b ^ (i + 1)))).length cap') (ci (dg (b ^ (i + 1)))) ∧ Below w.heap.size w w' := by
  have h := impl_mul_dg a1 a2 cap1 cap2 B1 B2 (b ^ i) b w hp hq h1 h2 hB1 hB2
  rw [← Nat.pow_succ, rx_yes hR, rb_yes hR] at h
  exact h
theorem impl_mul_pow_no (a1 a2 : Option Addr) (cap1 cap2 B1 B2 b i : Nat) (w : World) (hp : (dg (b ^ i)).length ≤ 60) (hq : (dg b).length ≤ 60) (hR : ¬ (dg (b ^ (i + 1))).length ≤ 60) (h1 : Rd w B1 a1 (ci (dg (b ^ i)))) (h2 : Rd w B2 a2 (ci (dg b))) (hB1 : B1 ≤ w.heap.size) (hB2 : B2 ≤ w.heap.size) :
    Calls Try.prog 99 #[.agg #[.slice a1 (ci (dg (b ^ i))).length cap1], .agg #[.slice a2 (ci (dg b)).length cap2]] w fun e w' => ∃ a cap', e = .returned (.tuple #[.agg #[.slice a 0 cap'], .bool false]) ∧ Below w.heap.size w w' := by
  have h := impl_mul_dg a1 a2 cap1 cap2 B1 B2 (b ^ i) b w hp hq h1 h2 hB1 hB2
  rw [← Nat.pow_succ, rx_no hR, rb_no hR] at h
  refine h.mono ?_
  rintro e w' ⟨a, cap', he, _, hb⟩
  exact ⟨a, cap', he, hb⟩
theorem spec_mul_pow_yes (a1 a2 : Option Addr) (cap1 cap2 B1 B2 b i : Nat) (w : World) (hp : (dg (b ^ i)).length ≤ 60) (hq : (dg b).length ≤ 60) (hR : (dg (b ^ (i + 1))).length ≤ 60) (h1 : Rd w B1 a1 (ci (dg (b ^ i)))) (h2 : Rd w B2 a2 (ci (dg b))) (hB1 : B1 ≤ w.heap.size) (hB2 : B2 ≤ w.heap.size) :
    Calls Try.prog 102 #[.agg #[.slice a1 (ci (dg (b ^ i))).length cap1], .agg #[.slice a2 (ci (dg b)).length cap2]] w fun e w' => ∃ a cap', e = .returned (.tuple #[.agg #[.slice a (ci (dg (b ^ (i + 1)))).length cap'], .bool true]) ∧ Own w' w.heap.size 3 (.slice a (ci (dg (b ^ (i + 1)))).length cap') (ci (dg (b ^ (i + 1)))) ∧ Below w.heap.size w w' := by
  have h := spec_mul_dg a1 a2 cap1 cap2 B1 B2 (b ^ i) b w hp hq h1 h2 hB1 hB2
  rw [← Nat.pow_succ, rx_yes hR, rb_yes hR] at h
  exact h
theorem spec_mul_pow_no (a1 a2 : Option Addr) (cap1 cap2 B1 B2 b i : Nat) (w : World) (hp : (dg (b ^ i)).length ≤ 60) (hq : (dg b).length ≤ 60) (hR : ¬ (dg (b ^ (i + 1))).length ≤ 60) (h1 : Rd w B1 a1 (ci (dg (b ^ i)))) (h2 : Rd w B2 a2 (ci (dg b))) (hB1 : B1 ≤ w.heap.size) (hB2 : B2 ≤ w.heap.size) :
    Calls Try.prog 102 #[.agg #[.slice a1 (ci (dg (b ^ i))).length cap1], .agg #[.slice a2 (ci (dg b)).length cap2]] w fun e w' => ∃ a cap', e = .returned (.tuple #[.agg #[.slice a 0 cap'], .bool false]) ∧ Below w.heap.size w w' := by
  have h := spec_mul_dg a1 a2 cap1 cap2 B1 B2 (b ^ i) b w hp hq h1 h2 hB1 hB2
  rw [← Nat.pow_succ, rx_no hR, rb_no hR] at h
  refine h.mono ?_
  rintro e w' ⟨a, cap', he, _, hb⟩
  exact ⟨a, cap', he, hb⟩
/-- A store into another block. -/
theorem own_ne {w : World} {lo : Nat} {e : TypeId} {v : Value} {xs : List Int} (h : Own w lo e v xs) {p : Addr} (hp : ∀ k, v.ownBlock = some k → k ≠ p.block) (u : Value) : Own (w.setCell p u) lo e v xs := by
  obtain ⟨h1, h2⟩ := h
  refine ⟨h1, ?_⟩
  rcases h2 with h2 | ⟨g, cap, cur, rfl, hg, hh, r⟩
  · exact .inl h2
  · exact .inr ⟨g, cap, cur, rfl, hg, by rw [Below.heap_setCell _ _ _ _ (hp g rfl)]; exact hh, r⟩

theorem impl_pow_no (n k : Int) (w : World) (h : n < 0 ∨ k < 0 ∨ 100 < k) :
    Calls Try.prog 94 #[.int .i64 n, .int .i64 k] w fun e w' => e = .returned (.tuple #[.agg #[.slice none 0 0], .bool false]) ∧ Below w.heap.size w w' := by
  have K := hid (one_new w (.slice none 0 0) 53)
  have B := hid (((Below.refl w.heap.size w).alloc (Nat.le_refl _) (.cells #[.slice none 0 0] 53)).setCell (p := ⟨w.heap.size, 0, none⟩) (Nat.le_refl _) (.slice none 0 0))
  have B2 := hid ((Below.refl w.heap.size w).alloc (Nat.le_refl _) (.cells #[.slice none 0 0] 53))
  have hr := (K.out.set (.slice none 0 0)).1
  rcases (by omega : n < 0 ∨ (0 ≤ n ∧ k < 0) ∨ (0 ≤ n ∧ 0 ≤ k ∧ 100 < k)) with h | ⟨h0, h⟩ | ⟨h0, h1, h⟩ <;>
  · go_enter Try.func94, Try.ntmps94
    go_wp2
    first
      | exact bodyPost_ret (v := .tuple #[.agg #[.slice none 0 0], .bool false]) (by simp [results, Try.results94, go_sem, hr]) rfl ⟨rfl, B.out⟩
      | exact bodyPost_ret (v := .tuple #[.agg #[.slice none 0 0], .bool false]) (by simp [results, Try.results94, go_sem]) rfl ⟨rfl, B2.out⟩

set_option maxRecDepth 100000 in
theorem impl_pow_yes (b k : Nat) (w : World) (hb : b ≤ 9223372036854775807) (hk : k ≤ 100) :
    Calls Try.prog 94 #[.int .i64 b, .int .i64 k] w fun e w' => ∃ a cap, e = .returned (.tuple #[.agg #[.slice a (px b k).length cap], .bool (pb b k)]) ∧ Own w' w.heap.size 3 (.slice a (px b k).length cap) (px b k) ∧ Below w.heap.size w w' := by
  have K := hid (one_new w (.slice none 0 0) 53)
  have B := hid ((Below.refl w.heap.size w).alloc (Nat.le_refl _) (.cells #[.slice none 0 0] 53))
  have hk1 : (k : Int) ≤ 100 := by omega
  have hb1 : (b : Int) ≤ 9223372036854775807 := by omega
  have F := hid fun W => impl_from (b : Int) W hb1
  have F1 := hid fun W => impl_from (1 : Int) W (by omega)
  rw [show ((b : Int)).toNat = b by omega] at F
  rw [show ((1 : Int)).toNat = 1 by rfl] at F1
  go_enter Try.func94, Try.ntmps94
  go_wp2_with fail
  refine (F.out _).mono ?_
  rintro e w1 ⟨af, capf, rfl, V, hb2⟩
  replace K := hid (K.out.below' hb2)
  replace B := hid (B.out.trans (hb2.mono B.out.size))
  have hs1 := K.out.2.2
  go_wp2_with fail
  have O6 := hid (one_new w1 (.slice af (ci (dg b)).length capf) 53)
  replace V := hid (V.alloc (.cells #[.slice af (ci (dg b)).length capf] 53))
  replace K := hid (K.out.alloc (.cells #[.slice af (ci (dg b)).length capf] 53))
  replace B := hid (B.out.alloc B.out.size (.cells #[.slice af (ci (dg b)).length capf] 53))
  clear hb2
  refine (F1.out _).mono ?_
  rintro e w2 ⟨ap, capp, rfl, P, hb2⟩
  have LV := hid V.out.lt
  have LP := hid P.lt
  simp only [World.size_alloc] at LP LV
  replace V := hid (V.out.below' hb2)
  replace O6 := hid (O6.out.below' hb2)
  replace K := hid (K.out.below' hb2)
  replace B := hid (B.out.trans (hb2.mono B.out.size))
  have hs2 := O6.out.2.2
  clear hb2
  go_wp2
  have O7 := hid (one_new w2 (.slice ap (ci (dg 1)).length capp) 53)
  replace V := hid ((V.out.mono (show w.heap.size ≤ _ by simp)).alloc (.cells #[.slice ap (ci (dg 1)).length capp] 53))
  replace P := hid ((P.mono (show w.heap.size ≤ _ by simp; omega)).alloc (.cells #[.slice ap (ci (dg 1)).length capp] 53))
  replace O6 := hid (O6.out.alloc (.cells #[.slice ap (ci (dg 1)).length capp] 53))
  replace K := hid (K.out.alloc (.cells #[.slice ap (ci (dg 1)).length capp] 53))
  replace B := hid (B.out.alloc B.out.size (.cells #[.slice ap (ci (dg 1)).length capp] 53))
  have NV := hid (show ∀ q, (Value.slice af (ci (dg b)).length capf).ownBlock = some q → q ≠ w2.heap.size ∧ q ≠ w.heap.size from fun q hq => by have := LV.out q hq; omega)
  have NP := hid (show ∀ q, (Value.slice ap (ci (dg 1)).length capp).ownBlock = some q → q ≠ w2.heap.size ∧ q ≠ w.heap.size from fun q hq => by have := LP.out q hq; omega)
  have hq60 : (dg b).length ≤ 60 := by have := dg_len b hb; omega
  have HQ := hid hq60
  clear F F1 LV LP hq60
  go_loopw [25] (fun iv wr => ∃ (i : Nat) (a : Option Addr) (cap : Nat), iv = .int .i64 i ∧ i ≤ k ∧ Hid (pb b i = true) ∧ One wr w2.heap.size (.slice a (ci (dg (b ^ i))).length cap) ∧ Own wr w.heap.size 3 (.slice a (ci (dg (b ^ i))).length cap) (ci (dg (b ^ i))) ∧ Hid (∀ q, (Value.slice a (ci (dg (b ^ i))).length cap).ownBlock = some q → q ≠ w2.heap.size ∧ q ≠ w.heap.size) ∧ One wr w1.heap.size (.slice af (ci (dg b)).length capf) ∧ Own wr w.heap.size 3 (.slice af (ci (dg b)).length capf) (ci (dg b)) ∧ One wr w.heap.size (.slice none 0 0) ∧ Below w.heap.size w wr) (fun iv _ => k - (intOf iv).toNat)
  case atStart => exact ⟨0, ap, capp, rfl, Nat.zero_le _, hid (pb_zero b), O7.out, P.out, NP, O6.out, V.out, K.out, B.out⟩
  case round =>
    clear O7 P NP O6 V K B
    obtain ⟨i, a, cap, rfl, hik, hpb, O7, P, NP, O6, V, K, B⟩ := hrel
    have hp60 := pb_at hpb.out (Nat.le_refl i)
    by_cases hlt : i < k
    · have hzw := K.2.2
      have hz2 := O7.2.2
      by_cases hR : (dg (b ^ (i + 1))).length ≤ 60
      · have M := hid (impl_mul_pow_yes a af cap capf wr.heap.size wr.heap.size b i wr hp60 HQ.out hR (own_rd P) (own_rd V) (Nat.le_refl _) (Nat.le_refl _))
        have PS := hid (pb_succ hpb.out hR)
        replace O7 := hid O7
        replace O6 := hid O6
        replace V := hid V
        replace K := hid K
        replace B := hid B
        obtain ⟨c7, _, z7⟩ := O7.out
        obtain ⟨c6, _, z6⟩ := O6.out
        clear hR hp60 P
        go_wp2_with fail
        refine M.out.mono ?_
        rintro e w3 ⟨a3, cap3, rfl, G, hb3⟩
        have hsz3 := hb3.size
        have LG := hid G.lt
        replace O7 := hid (O7.out.below' hb3)
        replace O6 := hid (O6.out.below' hb3)
        replace V := hid (V.out.below' hb3)
        replace K := hid (K.out.below' hb3)
        replace B := hid (B.out.trans (hb3.mono B.out.size))
        have NG := hid (show ∀ q, (Value.slice a3 (ci (dg (b ^ (i + 1)))).length cap3).ownBlock = some q → q ≠ w2.heap.size ∧ q ≠ w.heap.size from fun q hq => by have := LG.out q hq; omega)
        have G3 := hid ((own_ne G (p := ⟨w2.heap.size, 0, none⟩) (fun q hq => (NG.out q hq).1) (.slice a3 (ci (dg (b ^ (i + 1)))).length cap3)).alloc (.cells #[.slice a3 (ci (dg (b ^ (i + 1)))).length cap3] 53))
        have V3 := hid ((own_ne V.out (p := ⟨w2.heap.size, 0, none⟩) (fun q hq => (NV.out q hq).1) (.slice a3 (ci (dg (b ^ (i + 1)))).length cap3)).alloc (.cells #[.slice a3 (ci (dg (b ^ (i + 1)))).length cap3] 53))
        have O73 := hid ((O7.out.set (.slice a3 (ci (dg (b ^ (i + 1)))).length cap3)).alloc (.cells #[.slice a3 (ci (dg (b ^ (i + 1)))).length cap3] 53))
        have O63 := hid ((O6.out.far (p := ⟨w2.heap.size, 0, none⟩) (by simp only; omega) (.slice a3 (ci (dg (b ^ (i + 1)))).length cap3)).alloc (.cells #[.slice a3 (ci (dg (b ^ (i + 1)))).length cap3] 53))
        have K3 := hid ((K.out.far (p := ⟨w2.heap.size, 0, none⟩) (by simp only; omega) (.slice a3 (ci (dg (b ^ (i + 1)))).length cap3)).alloc (.cells #[.slice a3 (ci (dg (b ^ (i + 1)))).length cap3] 53))
        have B3 := hid (B.out.setCell (p := ⟨w2.heap.size, 0, none⟩) (by simp only; omega) (.slice a3 (ci (dg (b ^ (i + 1)))).length cap3))
        have B4 := hid (B3.out.alloc B3.out.size (.cells #[.slice a3 (ci (dg (b ^ (i + 1)))).length cap3] 53))
        clear c7 c6 G hb3
        obtain ⟨c7, _, z7⟩ := O7.out
        go_wp2
        go_roundw
        case rel => exact ⟨i + 1, a3, cap3, by go_num, by omega, PS, O73.out, G3.out.mono (by omega), NG, O63.out, V3.out, K3.out, B4.out⟩
        case measure => simp [intOf]; omega
      · have M := hid (impl_mul_pow_no a af cap capf wr.heap.size wr.heap.size b i wr hp60 HQ.out hR (own_rd P) (own_rd V) (Nat.le_refl _) (Nat.le_refl _))
        have PN := hid (pb_no (show i + 1 ≤ k by omega) hR)
        replace O7 := hid O7
        replace O6 := hid O6
        replace K := hid K
        replace B := hid B
        obtain ⟨c7, _, z7⟩ := O7.out
        obtain ⟨c6, _, z6⟩ := O6.out
        clear hR hp60 P V
        go_wp2_with fail
        refine M.out.mono ?_
        rintro e w3 ⟨a3, cap3, rfl, hb3⟩
        replace K := hid (K.out.below' hb3)
        replace B := hid (B.out.trans (hb3.mono B.out.size))
        have K3 := (K.out.set (.slice none 0 0)).alloc (.cells #[.slice a3 0 cap3] 53)
        have hr := K3.1
        have B3 := B.out.setCell (p := ⟨w.heap.size, 0, none⟩) (Nat.le_refl _) (.slice none 0 0)
        have B4 := hid (B3.alloc B3.size (.cells #[.slice a3 0 cap3] 53))
        clear c7 c6 hb3 K3 B3
        obtain ⟨c7, _, z7⟩ := K.out
        go_wp2
        refine bodyPost_ret (v := .tuple #[.agg #[.slice none 0 0], .bool false]) (by simp [results, Try.results94, go_sem, hr]) rfl ⟨none, 0, ?_, ?_, B4.out⟩
        · rw [px_no PN.out, PN.out]; rfl
        · rw [px_no PN.out]; exact Own.nil _ _ _
    · have e : i = k := by omega
      subst e
      have hr := (K.set (.slice a (ci (dg (b ^ i))).length cap)).1
      have P3 := hid (own_ne P (p := ⟨w.heap.size, 0, none⟩) (fun q hq => (NP.out q hq).2) (.slice a (ci (dg (b ^ i))).length cap))
      have B3 := hid (B.setCell (p := ⟨w.heap.size, 0, none⟩) (Nat.le_refl _) (.slice a (ci (dg (b ^ i))).length cap))
      obtain ⟨c7, _, z7⟩ := O7
      obtain ⟨c0, _, z0⟩ := K
      clear P B V O6 hp60
      go_wp2
      refine bodyPost_ret (v := .tuple #[.agg #[.slice a (ci (dg (b ^ i))).length cap], .bool true]) (by simp [results, Try.results94, go_sem, hr]) rfl ⟨a, cap, ?_, ?_, B3.out⟩
      · rw [px_yes hpb.out, hpb.out]
      · rw [px_yes hpb.out]; exact P3.out
end Go.Proofs.Ytaiimjbdhcjobaa.BigPow
