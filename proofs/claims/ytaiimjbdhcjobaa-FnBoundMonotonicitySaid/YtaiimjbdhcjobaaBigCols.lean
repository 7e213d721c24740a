/- Columns turned into digits: plain lemmas, and the contract of impl.bigIntFromColumns. -/
import Derived.Test.YtaiimjbdhcjobaaBigFrom
namespace Go.Proofs.Ytaiimjbdhcjobaa.BigCols
open Go.RowKit
open Go.Proofs.Ytaiimjbdhcjobaa.Num Go.Proofs.Ytaiimjbdhcjobaa.IntRow Go.Proofs.Ytaiimjbdhcjobaa.IntLaw Go.Proofs.Ytaiimjbdhcjobaa.Dig Go.Proofs.Ytaiimjbdhcjobaa.BigValid Go.Proofs.Ytaiimjbdhcjobaa.BigFrom
set_option linter.unusedVariables false

/-- What a maker gives for the digits R: they, if they are few enough, and whether they are. -/
def rx (R : List Nat) : List Int := if R.length ≤ 60 then ci R else []
def rb (R : List Nat) : Bool := decide (R.length ≤ 60)
theorem rx_yes {R : List Nat} (h : R.length ≤ 60) : rx R = ci R := if_pos h
theorem rx_no {R : List Nat} (h : ¬ R.length ≤ 60) : rx R = [] := if_neg h
theorem rb_yes {R : List Nat} (h : R.length ≤ 60) : rb R = true := decide_eq_true h
theorem rb_no {R : List Nat} (h : ¬ R.length ≤ 60) : rb R = false := decide_eq_false h
theorem rx_length (R : List Nat) : (rx R).length ≤ 60 := by
  unfold rx
  split
  · rw [ci_length]; assumption
  · simp

/-- The digits D have been made out of the first columns; the carry is c. -/
def Part (S D : List Nat) (c : Nat) : Prop := Small D ∧ vl D + 10 ^ D.length * (c + vl (S.drop D.length)) = vl S
theorem part_zero (S : List Nat) : Part S [] 0 := ⟨fun d hd => (by cases hd), by simp [vl]⟩
theorem small_snoc {D : List Nat} {d : Nat} (h : Small D) (hd : d < 10) : Small (D ++ [d]) := fun x hx => by
  rcases List.mem_append.1 hx with h1 | h1
  · exact h x h1
  · rcases List.mem_singleton.1 h1 with rfl; exact hd
theorem pow_split (p d c v x : Nat) (h : d + 10 * c = x) : p * d + p * 10 * (c + v) = p * (x + 10 * v) := by
  subst h
  rw [Nat.mul_assoc, ← Nat.mul_add]
  congr 1
  omega
theorem part_step {S D : List Nat} {c : Nat} (h : Part S D c) (hk : D.length < S.length) : Part S (D ++ [(S[D.length] + c) % 10]) ((S[D.length] + c) / 10) := by
  refine ⟨small_snoc h.1 (Nat.mod_lt _ (by omega)), ?_⟩
  have h2 := h.2
  rw [List.drop_eq_getElem_cons hk, vl] at h2
  rw [vl_snoc, List.length_append, List.length_singleton, Nat.pow_succ, Nat.add_assoc, pow_split _ _ _ _ (S[D.length] + c) (by omega), ← h2]
  congr 2
  omega
theorem part_more {S D : List Nat} {c : Nat} (h : Part S D c) (hk : S.length ≤ D.length) : Part S (D ++ [c % 10]) (c / 10) := by
  refine ⟨small_snoc h.1 (Nat.mod_lt _ (by omega)), ?_⟩
  have h2 := h.2
  rw [List.drop_eq_nil_of_le hk, vl] at h2
  rw [vl_snoc, List.length_append, List.length_singleton, Nat.pow_succ, Nat.add_assoc, List.drop_eq_nil_of_le (by omega), vl, pow_split _ _ _ _ c (by omega), ← h2]
theorem part_all {S D : List Nat} {c : Nat} (h : Part S D c) (hk : S.length ≤ D.length) (hc : c = 0) : vl D = vl S := by
  have h2 := h.2
  rw [List.drop_eq_nil_of_le hk, vl, hc] at h2
  simpa using h2
theorem part_end {S D : List Nat} {c : Nat} (h : Part S D c) (hk : D.length = S.length) (hv : vl S < 10 ^ S.length) : vl D = vl S := by
  refine part_all h (by omega) ?_
  have h2 := h.2
  rw [List.drop_eq_nil_of_le (by omega), vl, hk] at h2
  rcases Nat.eq_zero_or_pos c with h0 | h0
  · exact h0
  · have : 10 ^ S.length * 1 ≤ 10 ^ S.length * (c + 0) := Nat.mul_le_mul_left _ (by omega)
    omega
/-- The count of digits without the last zeros. -/
def Cnt (D : List Nat) (m : Nat) : Prop := m ≤ D.length ∧ dg (vl D) = D.take m
theorem cnt_zero : Cnt [] 0 := ⟨by simp, rfl⟩
theorem cnt_keep {D : List Nat} {m d : Nat} (h : Cnt D m) (hd : d = 0) : Cnt (D ++ [d]) m := by
  subst hd
  refine ⟨by simp; have := h.1; omega, ?_⟩
  rw [vl_snoc, Nat.mul_zero, Nat.add_zero, h.2, List.take_append_of_le_length h.1]
theorem cnt_more {D : List Nat} {d : Nat} (hs : Small D) (hd : d < 10) (h0 : d ≠ 0) : Cnt (D ++ [d]) (D.length + 1) := by
  refine ⟨by simp, ?_⟩
  rw [List.take_of_length_le (by simp)]
  exact dg_vl _ ⟨small_snoc hs hd, fun _ => by simpa using h0⟩
theorem cnt_length {D : List Nat} {m v : Nat} (h : Cnt D m) (hv : vl D = v) : (dg v).length = m := by
  rw [← hv, h.2, List.length_take]; have := h.1; omega
theorem row_at (D S : List Nat) (k : Nat) (hk : D.length = k) (hlt : k < S.length) (h : k < (ci (D ++ S.drop k)).length) : (ci (D ++ S.drop k))[k] = (S[k] : Int) := by
  rw [ci_at]
  congr 1
  rw [List.getElem_append_right (by omega)]
  simp [hk]
theorem row_set (D S : List Nat) (k d : Nat) (hk : D.length = k) (hlt : k < S.length) : (ci (D ++ S.drop k)).set k (d : Int) = ci ((D ++ [d]) ++ S.drop (k + 1)) := by
  unfold ci
  rw [← List.map_set, List.set_append_right _ _ (by omega), hk, Nat.sub_self, List.drop_eq_getElem_cons hlt, List.set_cons_zero]
  simp

theorem own_setd {w : World} {g g' m cap : Nat} {e : TypeId} {cs : List Value} (h : w.ownsRow g e 1 (.slice (some ⟨g, 0, none⟩) m cap) m cs) (hne : g ≠ g') (u : Value) : (w.setCell ⟨g', 0, none⟩ u).ownsRow g e 1 (.slice (some ⟨g, 0, none⟩) m cap) m cs := by
  obtain ⟨h1, h2⟩ := h
  refine ⟨h1, ?_⟩
  rcases h2 with h2 | ⟨g2, cap', cur, hv, hg, hh, r⟩
  · exact .inl h2
  · have e1 : g2 = g := by simp at hv; omega
    exact .inr ⟨g2, cap', cur, hv, hg, by rw [Below.heap_setCell _ _ _ _ (by simp only; omega)]; exact hh, r⟩
theorem grown_box {w wr : World} {ob : Obj} {row : Option Nat} (h : (w.alloc ob).grownBy wr row) (u : Value) : w.grownBy (wr.setCell ⟨w.heap.size, 0, none⟩ u) row :=
  ⟨h.os, h.tape, h.output, by have := h.size; simp at this ⊢; omega, fun k hk hne => by
    rw [Below.heap_setCell _ _ _ _ (by simp only; omega), h.block k (by simp; omega) hne, Below.heap_alloc _ _ _ hk]⟩
theorem impl_cols (g cap n : Nat) (S : List Nat) (w : World) (hn : S.length = n) (hn2 : n ≤ 121) (hcap : n ≤ cap) (hc2 : cap ≤ 121) (hb : ∀ d ∈ S, d ≤ 1000000) (hv : vl S < 10 ^ n) (h : At w g 3 cap (ci S)) :
    Calls Try.prog 147 #[.slice (some ⟨g, 0, none⟩) n cap] w fun e w' => ∃ a cap', e = .returned (.tuple #[.agg #[.slice a (rx (dg (vl S))).length cap'], .bool (rb (dg (vl S)))]) ∧ Own w' g 3 (.slice a (rx (dg (vl S))).length cap') (rx (dg (vl S))) ∧ w.grownBy w' (some g) := by
  have HN := hid hn
  have HB := hid hb
  have HV := hid hv
  clear hb hv hn
  have K0 := hid (one_new w (.slice none 0 0) 53)
  have G0 := hid h.lt
  go_enter Try.func147, Try.ntmps147
  go_wp2
  go_loopw [4, 5, 11] (fun cv mv i wr => ∃ (k c m : Nat) (D : List Nat), k ≤ n ∧ i = .int .i64 k ∧ cv = .int .i64 c ∧ mv = .int .i64 m ∧ c ≤ 1000000 ∧ Hid (D.length = k) ∧ Hid (Part S D c) ∧ Hid (Cnt D m) ∧ m ≤ k ∧ At wr g 3 cap (ci (D ++ S.drop k)) ∧ (w.alloc (.cells #[.slice none 0 0] 53)).grownBy wr (some g)) (fun _ _ i _ => n - (intOf i).toNat)
  case atStart => exact ⟨0, 0, 0, [], Nat.zero_le _, rfl, rfl, rfl, by omega, hid rfl, hid (part_zero S), hid cnt_zero, by omega, h.alloc _, World.grownBy.refl _ _⟩
  case round =>
    obtain ⟨k, c, m, D, hk, rfl, rfl, rfl, hc, hD, hP, hC, hm, hat, hgr⟩ := hrel
    by_cases hlt : k < n
    · have hkS : k < S.length := by have := HN.out; omega
      have hx := HB.out S[k] (List.getElem_mem hkS)
      have hkl : k < (ci (D ++ S.drop k)).length := by rw [ci_length]; have := hD.out; simp; omega
      have g1 := hat.cell k hkl
      rw [row_at D S k hD.out hkS hkl] at g1
      have g2 := hat.free k
      obtain ⟨x, hxe⟩ : ∃ x : Nat, Hid (S[k] = x) := ⟨_, hid rfl⟩
      have hx1 : x ≤ 1000000 := by rw [← hxe.out]; exact hx
      rw [hxe.out] at g1
      obtain ⟨d, hd⟩ : ∃ d : Nat, Hid (d = (x + c) % 10) := ⟨_, hid rfl⟩
      obtain ⟨q, hq⟩ : ∃ q : Nat, Hid (q = (x + c) / 10) := ⟨_, hid rfl⟩
      have hset := hid (hat.set k (d : Int))
      rw [row_set D S k _ hD.out hkS] at hset
      have hgs := hid (grown_trans hgr (hat.set_grown k (.int .i64 (d : Int))))
      have hP2 : Hid (Part S (D ++ [d]) q) := by
        have := hP.out
        have e := hD.out
        have p := part_step this (by omega)
        simp only [e, hxe.out] at p
        rw [hd.out, hq.out]
        exact p
      have e1 : ((x : Int) + (c : Int)) % 10 = (d : Int) := by have := hd.out; omega
      have e2 : ((x : Int) + (c : Int)) / 10 = (q : Int) := by have := hq.out; omega
      have hd9 : d < 10 := by have := hd.out; omega
      have hq9 : q ≤ 1000000 := by have := hq.out; omega
      have hD2 : Hid ((D ++ [d]).length = k + 1) := by have := hD.out; exact hid (by simp; omega)
      have hxm : (x : Int) ≤ 1000000 := by omega
      have hcm : (c : Int) ≤ 1000000 := by omega
      clear hat hkl hx hgr
      by_cases h0 : d = 0
      · have t0 : ((d : Int) != 0) = false := by rw [h0]; rfl
        have hC2 := hid (cnt_keep hC.out h0)
        clear h0
        go_wp2
        go_roundw
        case rel => exact ⟨k + 1, q, m, D ++ [d], by omega, by go_num, by rw [e2], rfl, hq9, hD2, hP2, hC2, by omega, hset.out, hgs.out⟩
        case measure => simp [intOf]; omega
      · have t0 : ((d : Int) != 0) = true := by simp only [bne_iff_ne, ne_eq]; omega
        have hC2 : Hid (Cnt (D ++ [d]) (k + 1)) := by have := cnt_more hP.out.1 hd9 h0; rw [hD.out] at this; exact hid this
        clear h0
        go_wp2
        go_roundw
        case rel => exact ⟨k + 1, q, k + 1, D ++ [d], by omega, by go_num, by rw [e2], by go_num, hq9, hD2, hP2, hC2, by omega, hset.out, hgs.out⟩
        case measure => simp [intOf]; omega
    · have e : k = n := by omega
      subst e
      have hfin := hid (part_end hP.out (by rw [hD.out, HN.out]) (by rw [HN.out]; exact HV.out))
      have hlen := hid (cnt_length hC.out hfin.out)
      have hrow := hat.take m (by rw [ci_length]; have := hD.out; simp; omega)
      rw [show (ci (D ++ S.drop k)).take m = ci (D.take m) by unfold ci; rw [← List.map_take, List.take_append_of_le_length (by have := hD.out; omega)]] at hrow
      have hmc : (m : Int) ≤ (cap : Int) := by omega
      have o1 := K0.out.grown hgr (fun e => by have := G0.out; simp at e; omega)
      by_cases h60 : m ≤ 60
      · have eR := hid (show dg (vl S) = D.take m by rw [← hfin.out]; exact hC.out.2)
        have hz1 := Below.refl 0 w
        have hr := (o1.set (.slice (some ⟨g, 0, none⟩) m cap)).1
        have hl2 := hid (show (ci (D.take m)).length = m by rw [ci_length, ← eR.out]; exact hlen.out)
        have hown := hid (own_setd hrow (show g ≠ w.heap.size by have := G0.out; omega) (.slice (some ⟨g, 0, none⟩) m cap))
        have hgf := hid (grown_box hgr (.slice (some ⟨g, 0, none⟩) m cap))
        obtain ⟨c1, f1, z1⟩ := o1
        clear hrow hat hgr
        go_wp2
        refine bodyPost_ret (v := .tuple #[.agg #[.slice (some ⟨g, 0, none⟩) m cap], .bool true]) (by simp [results, Try.results147, go_sem, hr]) rfl ⟨some ⟨g, 0, none⟩, cap, ?_, ?_, hgf.out⟩
        · rw [rx_yes (by rw [hlen.out]; exact h60), rb_yes (by rw [hlen.out]; exact h60), eR.out, hl2.out]
        · rw [rx_yes (by rw [hlen.out]; exact h60), eR.out]
          have := hown.out
          unfold Own
          rw [hl2.out]
          exact this
      · have hr := (o1.set (.slice none 0 0)).1
        have hgf := hid (grown_box hgr (.slice none 0 0))
        obtain ⟨c1, f1, z1⟩ := o1
        clear hrow hat hgr
        go_wp2
        refine bodyPost_ret (v := .tuple #[.agg #[.slice none 0 0], .bool false]) (by simp [results, Try.results147, go_sem, hr]) rfl ⟨none, 0, ?_, ?_, hgf.out⟩
        · rw [rx_no (by rw [hlen.out]; exact h60), rb_no (by rw [hlen.out]; exact h60)]; rfl
        · rw [rx_no (by rw [hlen.out]; exact h60)]; exact Own.nil _ _ _
end Go.Proofs.Ytaiimjbdhcjobaa.BigCols
