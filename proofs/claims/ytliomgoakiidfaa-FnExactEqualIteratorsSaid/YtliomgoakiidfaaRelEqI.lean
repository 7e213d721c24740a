/- The equality of relations, the program's (impl.EqualRelations over the library's slices.EqualFunc). -/
import Derived.Test.YtliomgoakiidfaaLibEqual
import Derived.Test.YtliomgoakiidfaaRelEqS
namespace Go.Proofs.Ytliomgoakiidfaa.RelEqI
open Go.RowKit
open Go.Proofs.Ytliomgoakiidfaa.Num Go.Proofs.Ytliomgoakiidfaa.IntRow Go.Proofs.Ytliomgoakiidfaa.Grid Go.Proofs.Ytliomgoakiidfaa.Cells Go.Proofs.Ytliomgoakiidfaa.LibEqual Go.Proofs.Ytliomgoakiidfaa.RelEqS
set_option linter.unusedVariables false

set_option maxRecDepth 100000 in
theorem lib_eqfunc (a a' : Option Addr) (l l' cap cap' B B' : Nat) (xss yss : List (List Int)) (w : World) (hl1 : xss.length = l) (hl2 : yss.length = l') (hn1 : l ≤ 1048576) (hn2 : l' ≤ 1048576) (hx : ∀ j (h : j < xss.length), xss[j].length ≤ 1048576) (hy : ∀ j (h : j < yss.length), yss[j].length ≤ 1048576) (h : GRd w B a xss) (h' : GRd w B' a' yss) (hB : B ≤ w.heap.size) (hB' : B' ≤ w.heap.size) :
    Calls Try.prog 87 #[.slice a l cap, .slice a' l' cap', .func (.func 68) #[] #[]] w fun e w' => e = .returned (.bool (decide (xss = yss))) ∧ Below w.heap.size w w' := by
  by_cases hl : l = l'
  · subst hl
    have hne : ((l : Int) != (l : Int)) = false := by simp
    have HG := hid h
    have HG' := hid h'
    clear h h'
    go_enter Try.func87, Try.ntmps87
    go_wp2
    go_loopw [7, 8, 9, 17] (fun _ _ _ i wr => ∃ k : Nat, k ≤ l ∧ i = .int .i64 k ∧ Hid (∀ j (h1 : j < xss.length) (h2 : j < yss.length), j < k → xss[j] = yss[j]) ∧ Hid (Below w.heap.size w wr)) (fun _ _ _ i _ => l - (intOf i).toNat)
    case atStart => exact ⟨0, Nat.zero_le _, rfl, hid (fun j _ _ h => by omega), hid (Below.refl _ _)⟩
    case round =>
      obtain ⟨k, hk, rfl, hsame, hb⟩ := hrel
      by_cases hlt : k < l
      · have hk1 : k < xss.length := by omega
        have hk2 : k < yss.length := by omega
        obtain ⟨b, off, rfl, hbB, hc⟩ := (HG.out.below (hb.out.mono hB)) (by omega)
        obtain ⟨b', off', rfl, hbB', hc'⟩ := (HG'.out.below (hb.out.mono hB')) (by omega)
        obtain ⟨aj, capj, g, r⟩ := hc k hk1
        obtain ⟨aj', capj', g', r'⟩ := hc' k hk2
        have hsz := hb.out.size
        obtain ⟨c, hcc⟩ : ∃ c, decide (xss[k] = yss[k]) = c := ⟨_, rfl⟩
        have E := hid (by
          have := lib_equal aj aj' xss[k].length yss[k].length capj capj' B B' xss[k] yss[k] wr rfl rfl (hx k hk1) (hy k hk2) r r' (by omega) (by omega)
          rw [hcc] at this
          exact this)
        have HC := hid hcc
        have hlt' : (k : Int) < (l : Int) := by omega
        have h0' : (0 : Int) ≤ (k : Int) := by omega
        clear hc hc' hx hy hcc r r'
        cases c with
        | true =>
          have HS := hid (show ∀ j (h1 : j < xss.length) (h2 : j < yss.length), j < k + 1 → xss[j] = yss[j] from fun j h1 h2 hj => by
            by_cases e : j = k
            · subst e; exact of_decide_eq_true HC.out
            · exact hsame.out j h1 h2 (by omega))
          clear hsame
          go_wp2_with fail
          refine E.out.mono ?_
          rintro e w2 ⟨rfl, hb2⟩
          have HB := hid (hb.out.trans (hb2.mono hsz))
          clear hb2
          go_wp2
          go_roundw
          case rel => exact ⟨k + 1, by omega, by go_num, HS, HB⟩
          case measure => simp [intOf]; omega
        | false =>
          have hf := hid (show decide (xss = yss) = false from by
            rw [decide_eq_false_iff_not]
            intro e
            subst e
            exact of_decide_eq_false HC.out rfl)
          clear hsame
          go_wp2_with fail
          refine E.out.mono ?_
          rintro e w2 ⟨rfl, hb2⟩
          have HB := hid (hb.out.trans (hb2.mono hsz))
          clear hb2
          go_wp2
          go_ret
          exact ⟨by rw [hf.out]; rfl, HB.out⟩
      · have hf := hid (show decide (xss = yss) = true from by
          rw [decide_eq_true_iff]
          exact List.ext_getElem (hl1.trans hl2.symm) (fun j h1 h2 => hsame.out j h1 h2 (by omega)))
        clear hsame hx hy
        go_wp2
        go_ret
        exact ⟨by rw [hf.out]; rfl, hb.out⟩
  · have hne : ((l : Int) != (l' : Int)) = true := by simp only [bne_iff_ne]; omega
    have hf := hid (show decide (xss = yss) = false from by
      rw [decide_eq_false_iff_not]
      intro e
      subst e
      omega)
    clear h h' hl hx hy
    go_enter Try.func87, Try.ntmps87
    go_wp2
    go_ret
    exact ⟨by rw [hf.out]; rfl, Below.refl _ _⟩

/-- impl.EqualRelations at every two relations of some size. -/
theorem impl_eqr (n m : Int) (a a' : Option Addr) (l l' cap cap' B B' : Nat) (xss yss : List (List Int)) (w : World) (hl1 : xss.length = l) (hl2 : yss.length = l') (hn1 : l ≤ 1048576) (hn2 : l' ≤ 1048576) (hx : ∀ j (h : j < xss.length), xss[j].length ≤ 1048576) (hy : ∀ j (h : j < yss.length), yss[j].length ≤ 1048576) (h : GRd w B a xss) (h' : GRd w B' a' yss) (hB : B ≤ w.heap.size) (hB' : B' ≤ w.heap.size) :
    Calls Try.prog 67 #[.agg #[.int .i64 n, .slice a l cap], .agg #[.int .i64 m, .slice a' l' cap']] w fun e w' => e = .returned (.bool (eqR n m xss yss)) ∧ Below w.heap.size w w' := by
  have B2 := hid (((Below.refl w.heap.size w).alloc (Nat.le_refl _) (.cells #[.int .i64 n, .slice a l cap] 70)).alloc (by simp) (.cells #[.int .i64 m, .slice a' l' cap'] 70))
  by_cases hnm : n = m
  · have ht : (n == m) = true := by simp [hnm]
    have he := hid (show eqR n m xss yss = decide (xss = yss) by simp [eqR, hnm])
    have E := hid (lib_eqfunc a a' l l' cap cap' B B' xss yss _ hl1 hl2 hn1 hn2 hx hy (h.below (B2.out.mono hB)) (h'.below (B2.out.mono hB')) (by have := B2.out.size; omega) (by have := B2.out.size; omega))
    obtain ⟨c, hcc⟩ : ∃ c, decide (xss = yss) = c := ⟨_, rfl⟩
    rw [hcc] at E he
    clear h h' hx hy hnm hcc
    go_enter Try.func67, Try.ntmps67
    go_wp2_with fail
    refine E.out.mono ?_
    rintro e w2 ⟨rfl, hb⟩
    have HB := hid (B2.out.trans (hb.mono B2.out.size))
    clear hb
    go_wp2
    go_ret
    exact ⟨by rw [he.out]; rfl, HB.out⟩
  · have ht : (n == m) = false := by simp [hnm]
    have he := hid (eqR_arity (xss := xss) (yss := yss) hnm)
    clear h h' hx hy hnm
    go_enter Try.func67, Try.ntmps67
    go_wp2
    go_ret
    exact ⟨by rw [he.out]; rfl, B2.out⟩
end Go.Proofs.Ytliomgoakiidfaa.RelEqI
