/- A row's place in an ordered relation (spec.l5Place), and spec.ContainsRow. -/
import Derived.Test.YtpeojpdgknamgaaRelValidS
namespace Go.Proofs.Ytpeojpdgknamgaa.RelPlaceS
open Go.RowKit
open Go.Proofs.Ytpeojpdgknamgaa.Num Go.Proofs.Ytpeojpdgknamgaa.IntRow Go.Proofs.Ytpeojpdgknamgaa.Vals Go.Proofs.Ytpeojpdgknamgaa.Grid Go.Proofs.Ytpeojpdgknamgaa.CmpL Go.Proofs.Ytpeojpdgknamgaa.RowCmpS Go.Proofs.Ytpeojpdgknamgaa.Asc Go.Proofs.Ytpeojpdgknamgaa.Cells Go.Proofs.Ytpeojpdgknamgaa.RelValidS
set_option linter.unusedVariables false

/-- p is the place of the row r: what is ahead is less, what is behind is not. -/
structure Pl (xss : List (List Int)) (r : List Int) (p : Nat) : Prop where
  le : p ≤ xss.length
  less : ∀ j (h : j < xss.length), j < p → cmpL xss[j] r < 0
  not : ∀ j (h : j < xss.length), p ≤ j → ¬ cmpL xss[j] r < 0
theorem Pl.unique {xss : List (List Int)} {r : List Int} {p q : Nat} (h : Pl xss r p) (k : Pl xss r q) : p = q := by
  rcases (by omega : p < q ∨ q < p ∨ p = q) with e | e | e
  · exact absurd (k.less p (by have := k.le; omega) e) (h.not p (by have := k.le; omega) (Nat.le_refl _))
  · exact absurd (h.less q (by have := h.le; omega) e) (k.not q (by have := h.le; omega) (Nat.le_refl _))
  · exact e
theorem Pl.mem {xss : List (List Int)} {r : List Int} {p : Nat} (h : Pl xss r p) (ha : Asc xss) : r ∈ xss ↔ ∃ h : p < xss.length, xss[p] = r := by
  constructor
  · intro hm
    obtain ⟨j, hj, rfl⟩ := List.getElem_of_mem hm
    have h1 : ¬ j < p := fun e => by have := h.less j hj e; rw [cmpL_self] at this; omega
    have h2 : ¬ p < j := fun e => h.not p (by omega) (Nat.le_refl _) (ha.lt (by omega) hj e)
    have e : j = p := by omega
    subst e
    exact ⟨hj, rfl⟩
  · rintro ⟨hp, rfl⟩
    exact List.getElem_mem hp
/-- The search so far. -/
structure Way (xss : List (List Int)) (r : List Int) (lo hi : Nat) : Prop where
  le : lo ≤ hi
  le2 : hi ≤ xss.length
  less : ∀ j (h : j < xss.length), j < lo → cmpL xss[j] r < 0
  not : ∀ j (h : j < xss.length), hi ≤ j → ¬ cmpL xss[j] r < 0
theorem Way.start (xss : List (List Int)) (r : List Int) : Way xss r 0 xss.length := ⟨Nat.zero_le _, Nat.le_refl _, fun j _ h => by omega, fun j h1 h2 => by omega⟩
theorem Way.right {xss : List (List Int)} {r : List Int} {lo hi m : Nat} (h : Way xss r lo hi) (ha : Asc xss) (h1 : lo ≤ m) (h2 : m < hi) (hc : cmpL (xss[m]'(by have := h.le2; omega)) r < 0) : Way xss r (m + 1) hi :=
  ⟨h2, h.le2, fun j hj hjm => by
    by_cases e : j = m
    · subst e; exact hc
    · exact cmpL_trans (ha.lt hj (by have := h.le2; omega) (by omega)) hc, h.not⟩
theorem Way.left {xss : List (List Int)} {r : List Int} {lo hi m : Nat} (h : Way xss r lo hi) (ha : Asc xss) (h1 : lo ≤ m) (h2 : m < hi) (hc : ¬ cmpL (xss[m]'(by have := h.le2; omega)) r < 0) : Way xss r lo m :=
  ⟨h1, by have := h.le2; omega, h.less, fun j hj hmj hlt => by
    by_cases e : j = m
    · subst e; exact hc hlt
    · exact hc (cmpL_trans (ha.lt (by have := h.le2; omega) hj (by omega)) hlt)⟩
theorem Way.done {xss : List (List Int)} {r : List Int} {lo : Nat} (h : Way xss r lo lo) : Pl xss r lo := ⟨h.le2, h.less, h.not⟩

set_option maxRecDepth 100000 in
theorem spec_place (n : Int) (a ar : Option Addr) (cap capr len B B' : Nat) (xss : List (List Int)) (r : List Int) (w : World) (hl : xss.length = len) (hlen : len ≤ 4000) (hx : ∀ j (h : j < xss.length), xss[j].length ≤ 1048576) (hr : r.length ≤ 1048576) (ha : Asc xss) (h : GRd w B a xss) (h' : Rd w B' ar r) (hB : B ≤ w.heap.size) (hB' : B' ≤ w.heap.size) :
    Calls Try.prog 88 #[.agg #[.int .i64 n, .slice a len cap], .slice ar r.length capr] w fun e w' => ∃ p : Nat, e = .returned (.tuple #[.int .i64 (p : Nat), .bool (decide (r ∈ xss))]) ∧ Pl xss r p ∧ Below w.heap.size w w' := by
  have K1 := hid (has2_new w (.int .i64 n) (.slice a len cap) 27)
  have B1 := hid ((Below.refl w.heap.size w).alloc (Nat.le_refl _) (.cells #[.int .i64 n, .slice a len cap] 27))
  have HA := hid ha
  clear ha
  go_enter Try.func88, Try.ntmps88
  go_wp2
  go_loopw [6, 7, 8] (fun l q _ wr => ∃ lo hi : Nat, l = .int .i64 lo ∧ q = .int .i64 hi ∧ Hid (Way xss r lo hi) ∧ lo ≤ hi ∧ hi ≤ len ∧ Hid (Has2 wr w.heap.size (.int .i64 n) (.slice a len cap)) ∧ Hid (Below w.heap.size w wr)) (fun l q _ _ => (intOf q).toNat - (intOf l).toNat)
  case atStart => exact ⟨0, len, rfl, rfl, hid (by rw [← hl]; exact Way.start _ _), Nat.zero_le _, Nat.le_refl _, K1, B1⟩
  case round =>
    obtain ⟨lo, hi, rfl, rfl, hway, hlh, hhl, k1, hb⟩ := hrel
    obtain ⟨c10, c11, c12, _, _⟩ := k1.out
    have hsz := hb.out.size
    by_cases hlt : lo < hi
    · obtain ⟨m, hm⟩ : ∃ m, m = (lo + hi) / 2 := ⟨_, rfl⟩
      have hm1 : lo ≤ m := by omega
      have hm2 : m < hi := by omega
      have hmx : m < xss.length := by omega
      obtain ⟨b, off, rfl, hbB, hc⟩ := (h.below (hb.out.mono hB)) (by omega)
      obtain ⟨aj, capj, g, rj⟩ := hc m hmx
      have hxm := hx m hmx
      obtain ⟨c, hcc⟩ : ∃ c, cmpL xss[m] r = c := ⟨_, rfl⟩
      have E := hid (fun W (hW : Below wr.heap.size wr W) => by
        have := spec_cmp aj ar capj capr B B' xss[m] r W hxm hr (rj.below (hW.mono (by omega))) ((h'.below (hb.out.mono hB')).below (hW.mono (by omega))) (by have := hW.size; omega) (by have := hW.size; omega)
        rw [hcc] at this
        exact this)
      have HC := hid hcc
      have e1 : ((lo : Int) + (hi : Int)) / 2 = (m : Int) := by omega
      have e2 : ((lo : Int) + (hi : Int)).tdiv 2 = (m : Int) := by rw [Int.tdiv_eq_ediv_of_nonneg (by omega)]; exact e1
      have hm0 : (0 : Int) ≤ (m : Int) := by omega
      have hml : (m : Int) < (len : Int) := by omega
      clear hc h h' hx hcc rj hm
      by_cases hneg : c < 0
      · have HW := hid (hway.out.right HA.out hm1 hm2 (by rw [HC.out]; exact hneg))
        go_wp2_with fail
        refine (E.out _ (Below.refl _ _)).mono ?_
        rintro e w2 ⟨rfl, hb2⟩
        have HK := hid (k1.out.below hb2)
        have HB := hid (hb.out.trans (hb2.mono hsz))
        clear hb2
        go_wp2
        go_roundw
        case rel => exact ⟨m + 1, hi, by go_num, rfl, HW, by omega, by omega, HK, HB⟩
        case measure => simp [intOf]; omega
      · have HW := hid (hway.out.left HA.out hm1 hm2 (by rw [HC.out]; exact hneg))
        go_wp2_with fail
        refine (E.out _ (Below.refl _ _)).mono ?_
        rintro e w2 ⟨rfl, hb2⟩
        have HK := hid (k1.out.below hb2)
        have HB := hid (hb.out.trans (hb2.mono hsz))
        clear hb2
        go_wp2
        go_roundw
        case rel => exact ⟨lo, m, rfl, by go_num, HW, by omega, by omega, HK, HB⟩
        case measure => simp [intOf]; omega
    · have e : hi = lo := by omega
      subst e
      have HP := hid hway.out.done
      by_cases hpl : hi < len
      · have hmx : hi < xss.length := by omega
        obtain ⟨b, off, rfl, hbB, hc⟩ := (h.below (hb.out.mono hB)) (by omega)
        obtain ⟨aj, capj, g, rj⟩ := hc hi hmx
        have hxm := hx hi hmx
        obtain ⟨c, hcc⟩ : ∃ c, cmpL xss[hi] r = c := ⟨_, rfl⟩
        have E := hid (by
          have := spec_cmp aj ar capj capr B B' xss[hi] r wr hxm hr rj (h'.below (hb.out.mono hB')) (by omega) (by omega)
          rw [hcc] at this
          exact this)
        have hmem := hid (show decide (r ∈ xss) = (c == 0) by
          have h1 := HP.out.mem HA.out
          by_cases h0 : c = 0
          · have e2 := cmpL_zero (hcc.trans h0)
            have : r ∈ xss := h1.2 ⟨hmx, e2⟩
            simp [this, h0]
          · have : ¬ r ∈ xss := fun hm => by
              obtain ⟨_, e2⟩ := h1.1 hm
              rw [e2, cmpL_self] at hcc
              exact h0 hcc.symm
            simp [this, h0])
        have hpl' : (hi : Int) < (len : Int) := by omega
        have hm0 : (0 : Int) ≤ (hi : Int) := by omega
        clear hc h h' hx hcc rj
        go_wp2_with fail
        refine E.out.mono ?_
        rintro e w2 ⟨rfl, hb2⟩
        have HB := hid (hb.out.trans (hb2.mono hsz))
        clear hb2
        go_wp2
        go_ret2
        exact ⟨hi, by rw [hmem.out]; rfl, HP.out, HB.out⟩
      · have hmem := hid (show decide (r ∈ xss) = false by
          have h1 := HP.out.mem HA.out
          have : ¬ r ∈ xss := fun hm => by
            obtain ⟨h2, _⟩ := h1.1 hm
            omega
          simp [this])
        have hpl' : ¬ (hi : Int) < (len : Int) := by omega
        have HB := hid hb.out
        clear h h' hx
        go_wp2
        go_ret2
        exact ⟨hi, by rw [hmem.out]; rfl, HP.out, HB.out⟩
end Go.Proofs.Ytpeojpdgknamgaa.RelPlaceS
