/- The equality of relations, the model's (spec.EqualRelations). -/
import Derived.Test.YtliomgoakiidfaaRowCmpS
import Derived.Test.YtliomgoakiidfaaAsc
import Derived.Test.YtliomgoakiidfaaGrid
import Derived.Test.YtliomgoakiidfaaKept
import Derived.Deep.RegionHeld3
import Derived.Deep.DeepCutAuto
namespace Go.Proofs.Ytliomgoakiidfaa.RelEqS
open Go.RowKit
open Go.Proofs.Ytliomgoakiidfaa.Num Go.Proofs.Ytliomgoakiidfaa.IntRow Go.Proofs.Ytliomgoakiidfaa.Grid Go.Proofs.Ytliomgoakiidfaa.CmpL Go.Proofs.Ytliomgoakiidfaa.RowCmpS Go.Proofs.Ytliomgoakiidfaa.Asc Go.Proofs.Ytliomgoakiidfaa.Cells Go.Proofs.Ytliomgoakiidfaa.Keep Go.Proofs.Ytliomgoakiidfaa.Kept
set_option linter.unusedVariables false

/-- Are two relations the same? -/
def eqR (n m : Int) (xss yss : List (List Int)) : Bool := decide (n = m) && decide (xss = yss)
theorem eqR_arity {n m : Int} {xss yss : List (List Int)} (h : n ≠ m) : eqR n m xss yss = false := by simp [eqR, h]
theorem eqR_len {n m : Int} {xss yss : List (List Int)} (h : xss.length ≠ yss.length) : eqR n m xss yss = false := by
  have : xss ≠ yss := fun e => h (by rw [e])
  simp [eqR, this]
theorem eqR_row {n m : Int} {xss yss : List (List Int)} (k : Nat) (h1 : k < xss.length) (h2 : k < yss.length) (h : xss[k] ≠ yss[k]) : eqR n m xss yss = false := by
  have : xss ≠ yss := fun e => h (by subst e; rfl)
  simp [eqR, this]
theorem eqR_same {n : Int} {xss yss : List (List Int)} (hl : xss.length = yss.length) (h : ∀ j (h1 : j < xss.length) (h2 : j < yss.length), xss[j] = yss[j]) : eqR n n xss yss = true := by
  have : xss = yss := List.ext_getElem hl h
  simp [eqR, this]
theorem eqR_self (n : Int) (xss : List (List Int)) : eqR n n xss xss = true := by simp [eqR]

set_option maxRecDepth 100000 in
theorem eq_main (n : Int) (a a' : Option Addr) (cap cap' len B B' : Nat) (xss yss : List (List Int)) (w : World) (hl1 : xss.length = len) (hl2 : yss.length = len) (hn : len ≤ 1048576) (hx : ∀ j (h : j < xss.length), xss[j].length ≤ 1048576) (hy : ∀ j (h : j < yss.length), yss[j].length ≤ 1048576) (h : GRd w B a xss) (h' : GRd w B' a' yss) (hB : B ≤ w.heap.size) (hB' : B' ≤ w.heap.size) :
    Calls Try.prog 63 #[.agg #[.int .i64 n, .slice a len cap], .agg #[.int .i64 n, .slice a' len cap']] w fun e w' => e = .returned (.bool (eqR n n xss yss)) ∧ Below w.heap.size w w' := by
  have K1 := hid ((has2_new w (.int .i64 n) (.slice a len cap) 70).alloc (.cells #[.int .i64 n, .slice a' len cap'] 70))
  have K2 := hid (has2_new (w.alloc (.cells #[.int .i64 n, .slice a len cap] 70)) (.int .i64 n) (.slice a' len cap') 70)
  have B2 := hid (((Below.refl w.heap.size w).alloc (Nat.le_refl _) (.cells #[.int .i64 n, .slice a len cap] 70)).alloc (by simp) (.cells #[.int .i64 n, .slice a' len cap'] 70))
  simp only [World.size_alloc] at K1 K2
  have hne : (n != n) = false := by simp
  have hnl : ((len : Int) != (len : Int)) = false := by simp
  go_enter Try.func63, Try.ntmps63
  go_wp2
  go_loopw [5] (fun i wr => ∃ k : Nat, k ≤ len ∧ i = .int .i64 k ∧ Hid (∀ j (h1 : j < xss.length) (h2 : j < yss.length), j < k → xss[j] = yss[j]) ∧ Hid (Has2 wr w.heap.size (.int .i64 n) (.slice a len cap)) ∧ Hid (Has2 wr (w.heap.size + 1) (.int .i64 n) (.slice a' len cap')) ∧ Hid (Below w.heap.size w wr)) (fun i _ => len - (intOf i).toNat)
  case atStart => exact ⟨0, Nat.zero_le _, rfl, hid (fun j _ _ h => by omega), K1, K2, B2⟩
  case round =>
    obtain ⟨k, hk, rfl, hsame, k1, k2, hb⟩ := hrel
    obtain ⟨c10, c11, c12, _, _⟩ := k1.out
    obtain ⟨c20, c21, c22, _, _⟩ := k2.out
    by_cases hlt : k < len
    · have hk1 : k < xss.length := by omega
      have hk2 : k < yss.length := by omega
      obtain ⟨b, off, rfl, hbB, hc⟩ := (h.below (hb.out.mono hB)) (by omega)
      obtain ⟨b', off', rfl, hbB', hc'⟩ := (h'.below (hb.out.mono hB')) (by omega)
      obtain ⟨aj, capj, g, r⟩ := hc k hk1
      obtain ⟨aj', capj', g', r'⟩ := hc' k hk2
      have hxk := hx k hk1
      have hyk := hy k hk2
      have hsz := hb.out.size
      obtain ⟨c, hcc⟩ : ∃ c, cmpL xss[k] yss[k] = c := ⟨_, rfl⟩
      have E := hid (fun W (hW : Below wr.heap.size wr W) => by
        have := spec_cmp aj aj' capj capj' B B' xss[k] yss[k] W hxk hyk (r.below (hW.mono (by omega))) (r'.below (hW.mono (by omega))) (by have := hW.size; omega) (by have := hW.size; omega)
        rw [hcc] at this
        exact this)
      have hlt' : (k : Int) < (len : Int) := by omega
      have h0' : (0 : Int) ≤ (k : Int) := by omega
      have hbo : b < wr.heap.size := by omega
      have hbo' : b' < wr.heap.size := by omega
      have hk0 := kp_refl wr
      have HC := hid hcc
      clear hc hc' h h' r r' hx hy hcc
      by_cases h0 : c = 0
      · have ht : (c != 0) = false := by simp [h0]
        have hs := hid (cmpL_zero (HC.out.trans h0))
        clear h0
        go_upto_region 6 with fail
        go_cut [38] (fun s wx => s = .bool false ∧ Kp wr 0 wx)
        case first =>
          go_region_held3 (fun w' => w'.cell? ⟨w.heap.size, 1, none⟩ = some (.slice (some ⟨b, off, none⟩) len cap) ∧ w'.cell? ⟨w.heap.size + 1, 1, none⟩ = some (.slice (some ⟨b', off', none⟩) len cap') ∧ w'.cell? ⟨b, off + k, none⟩ = some (.slice aj xss[k].length capj) ∧ w'.cell? ⟨b', off' + k, none⟩ = some (.slice aj' yss[k].length capj') ∧ Kp wr 0 w')
            (first
              | (go_split_ands
                 repeat' apply And.intro
                 all_goals (first | (with_reducible assumption) | (with_reducible exact cell_drew (by assumption)) | (with_reducible exact Kp.drew (by assumption)) | (with_reducible exact Kp.cell (by assumption) hb1 (by omega) (by assumption)) | (with_reducible exact Kp.call (by assumption) hb1))))
            (first
              | (go_split_ands; go_at_call 65; (with_reducible refine (E.out _ (Kp.bel (n := 0) (by with_reducible assumption))).mono ?_); rintro e wU ⟨rfl, hb1⟩))
          all_goals
            go_wp2_with fail
            go_meet
            go_split_ands
            exact ⟨by first | rfl | trivial, by with_reducible assumption⟩
        case rest =>
          obtain ⟨rfl, hkp⟩ := hcut
          have HK1 := hid (k1.out.below hkp.bel)
          have HK2 := hid (k2.out.below hkp.bel)
          have HB := hid (hb.out.trans (hkp.bel.mono hsz))
          have HS := hid (show ∀ j (h1 : j < xss.length) (h2 : j < yss.length), j < k + 1 → xss[j] = yss[j] from fun j h1 h2 hj => by
            by_cases e : j = k
            · subst e; exact hs.out
            · exact hsame.out j h1 h2 (by omega))
          clear hkp hk0
          go_wp2
          go_roundw
          case rel => exact ⟨k + 1, by omega, by go_num, HS, HK1, HK2, HB⟩
          case measure => simp [intOf]; omega
      · have ht : (c != 0) = true := by simp [h0]
        have hf := hid (eqR_row (n := n) (m := n) k hk1 hk2 (fun e => h0 (by rw [← HC.out, e]; exact cmpL_self _)))
        clear h0
        go_upto_region 6 with fail
        go_cut [38] (fun s wx => s = .bool true ∧ Kp wr 0 wx)
        case first =>
          go_region_held3 (fun w' => w'.cell? ⟨w.heap.size, 1, none⟩ = some (.slice (some ⟨b, off, none⟩) len cap) ∧ w'.cell? ⟨w.heap.size + 1, 1, none⟩ = some (.slice (some ⟨b', off', none⟩) len cap') ∧ w'.cell? ⟨b, off + k, none⟩ = some (.slice aj xss[k].length capj) ∧ w'.cell? ⟨b', off' + k, none⟩ = some (.slice aj' yss[k].length capj') ∧ Kp wr 0 w')
            (first
              | (go_split_ands
                 repeat' apply And.intro
                 all_goals (first | (with_reducible assumption) | (with_reducible exact cell_drew (by assumption)) | (with_reducible exact Kp.drew (by assumption)) | (with_reducible exact Kp.cell (by assumption) hb1 (by omega) (by assumption)) | (with_reducible exact Kp.call (by assumption) hb1))))
            (first
              | (go_split_ands; go_at_call 65; (with_reducible refine (E.out _ (Kp.bel (n := 0) (by with_reducible assumption))).mono ?_); rintro e wU ⟨rfl, hb1⟩))
          all_goals
            go_wp2_with fail
            go_meet
            go_split_ands
            exact ⟨by first | rfl | trivial, by with_reducible assumption⟩
        case rest =>
          obtain ⟨rfl, hkp⟩ := hcut
          have HB := hid (hb.out.trans (hkp.bel.mono hsz))
          clear hkp hk0
          go_wp2
          go_ret
          exact ⟨by rw [hf.out]; rfl, HB.out⟩
    · have hf := hid (eqR_same (n := n) (hl1.trans hl2.symm) (fun j h1 h2 => hsame.out j h1 h2 (by omega)))
      clear h h' hx hy
      go_wp2
      go_ret
      exact ⟨by rw [hf.out]; rfl, hb.out⟩

theorem eq_no (n m : Int) (a a' : Option Addr) (l l' cap cap' : Nat) (xss yss : List (List Int)) (w : World) (hn1 : l ≤ 9223372036854775807) (hn2 : l' ≤ 9223372036854775807) (hno : n ≠ m ∨ (n = m ∧ l ≠ l')) :
    Calls Try.prog 63 #[.agg #[.int .i64 n, .slice a l cap], .agg #[.int .i64 m, .slice a' l' cap']] w fun e w' => e = .returned (.bool false) ∧ Below w.heap.size w w' := by
  have B2 := hid (((Below.refl w.heap.size w).alloc (Nat.le_refl _) (.cells #[.int .i64 n, .slice a l cap] 70)).alloc (by simp) (.cells #[.int .i64 m, .slice a' l' cap'] 70))
  rcases hno with h | ⟨rfl, h⟩
  · have ht : (n != m) = true := by simpa using h
    clear h
    go_enter Try.func63, Try.ntmps63
    go_wp2
    go_ret
    exact ⟨rfl, B2.out⟩
  · have ht0 : (n != n) = false := by simp
    have ht : ((l : Int) != (l' : Int)) = true := by simp only [bne_iff_ne]; omega
    clear h
    go_enter Try.func63, Try.ntmps63
    go_wp2
    go_ret
    exact ⟨rfl, B2.out⟩

/-- spec.EqualRelations at every two relations of some size. -/
theorem spec_eqr (n m : Int) (a a' : Option Addr) (l l' cap cap' B B' : Nat) (xss yss : List (List Int)) (w : World) (hl1 : xss.length = l) (hl2 : yss.length = l') (hn1 : l ≤ 1048576) (hn2 : l' ≤ 1048576) (hx : ∀ j (h : j < xss.length), xss[j].length ≤ 1048576) (hy : ∀ j (h : j < yss.length), yss[j].length ≤ 1048576) (h : GRd w B a xss) (h' : GRd w B' a' yss) (hB : B ≤ w.heap.size) (hB' : B' ≤ w.heap.size) :
    Calls Try.prog 63 #[.agg #[.int .i64 n, .slice a l cap], .agg #[.int .i64 m, .slice a' l' cap']] w fun e w' => e = .returned (.bool (eqR n m xss yss)) ∧ Below w.heap.size w w' := by
  by_cases h1 : n = m
  · by_cases h2 : l = l'
    · subst h1 h2
      exact eq_main n a a' cap cap' l B B' xss yss w hl1 hl2 hn1 hx hy h h' hB hB'
    · rw [eqR_len (by omega)]
      exact eq_no n m a a' l l' cap cap' xss yss w (by omega) (by omega) (.inr ⟨h1, h2⟩)
  · rw [eqR_arity h1]
    exact eq_no n m a a' l l' cap cap' xss yss w (by omega) (by omega) (.inl h1)
end Go.Proofs.Ytliomgoakiidfaa.RelEqS
