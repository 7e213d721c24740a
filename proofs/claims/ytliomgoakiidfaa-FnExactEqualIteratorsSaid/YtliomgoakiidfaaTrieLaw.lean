/- Contracts of the laws' own helpers on tries. -/
import Derived.Test.YtliomgoakiidfaaGridLaw2
import Derived.Test.YtliomgoakiidfaaCells
namespace Go.Proofs.Ytliomgoakiidfaa.TrieLaw
open Go.RowKit
open Go.Proofs.Ytliomgoakiidfaa.Num Go.Proofs.Ytliomgoakiidfaa.IntRow Go.Proofs.Ytliomgoakiidfaa.IntLaw Go.Proofs.Ytliomgoakiidfaa.Grid Go.Proofs.Ytliomgoakiidfaa.GridMore Go.Proofs.Ytliomgoakiidfaa.GridLaw Go.Proofs.Ytliomgoakiidfaa.GridLaw2 Go.Proofs.Ytliomgoakiidfaa.Keep Go.Proofs.Ytliomgoakiidfaa.Kept Go.Proofs.Ytliomgoakiidfaa.Cells
set_option linter.unusedVariables false

theorem sz_tr (n : Int) (a : Option Addr) (cap B : Nat) (xss : List (List Int)) (k r : Int) (w : World) (h0 : 0 ≤ k) (hk : k ≤ 1048576) (hn : xss.length ≤ 9223372036854775807) (hm : ∀ j (h : j < xss.length), xss[j].length ≤ 9223372036854775807) (h : GRd w B a xss) (hB : B ≤ w.heap.size)
    (hr : RowKit.Hid ((k < (tot xss : Nat) ∧ r = -1) ∨ ((tot xss : Nat) ≤ k ∧ r = k - (tot xss : Nat)))) :
    Calls Try.prog 34 #[.agg #[.int .i64 n, .slice a xss.length cap], .int .i64 k] w fun e w' => e = .returned (.int .i64 r) ∧ Below w.heap.size w w' := by
  have S := hid (sz_ss a cap B xss k r _ h0 hk hn hm (h.alloc hB (.cells #[.int .i64 n, .slice a xss.length cap] 43)) hr)
  rcases hr.out with ⟨_, rfl⟩ | ⟨h1, h2⟩
  · clear h hm hr
    go_enter Try.func34, Try.ntmps34
    go_wp2_with fail
    refine S.out.mono ?_
    rintro e w' ⟨rfl, rfl⟩
    go_wp2
    go_ret
    exact ⟨rfl, (Below.refl _ _).alloc (Nat.le_refl _) _⟩
  · have h3 : ¬ (r < 0) := by omega
    clear h hm hr h1 h2
    go_enter Try.func34, Try.ntmps34
    go_wp2_with fail
    refine S.out.mono ?_
    rintro e w' ⟨rfl, rfl⟩
    go_wp2
    go_ret
    exact ⟨rfl, (Below.refl _ _).alloc (Nat.le_refl _) _⟩

theorem eq_tr (n : Int) (a a' : Option Addr) (cap cap' : Nat) (xss : List (List Int)) (B B' : Nat) (w : World) (hn : tot xss ≤ 1048576) (h : GRd w B a xss) (h' : GRd w B' a' xss) (hB : B ≤ w.heap.size) (hB' : B' ≤ w.heap.size) :
    Calls Try.prog 39 #[.agg #[.int .i64 n, .slice a xss.length cap], .agg #[.int .i64 n, .slice a' xss.length cap']] w fun e w' => e = .returned (.bool true) ∧ Below w.heap.size w w' := by
  have hB1 := hid (((Below.refl w.heap.size w).alloc (Nat.le_refl _) (.cells #[.int .i64 n, .slice a xss.length cap] 26)).alloc (by simp) (.cells #[.int .i64 n, .slice a' xss.length cap'] 26))
  have E := hid (eq_ss a a' cap cap' xss B B' _ hn (h.below (hB1.out.mono hB)) (h'.below (hB1.out.mono hB')) (by simp; omega) (by simp; omega))
  have hne : (n != n) = false := by simp
  clear h h'
  go_enter Try.func39, Try.ntmps39
  go_wp2_with fail
  refine E.out.mono ?_
  rintro e w' ⟨rfl, hb⟩
  have HB := hid (hB1.out.trans (hb.mono (by simp; omega)))
  clear hb
  go_wp2
  go_ret
  exact ⟨rfl, HB.out⟩

theorem mark_tr (lo hi : Nat) (n : Int) (v : Value) (vs : List Value) (k0 : Int) (xss : List (List Int)) (w : World) (hn : tot xss ≤ 1048576) (h0 : 0 ≤ k0) (h1 : k0 ≤ 2097152) (h : GOwn w lo eR eI v vs xss) (hu : GUnder hi v vs) :
    Calls Try.prog 40 #[.agg #[.int .i64 n, v], .int .i64 k0] w fun e w' => ∃ yss, e = .returned (.int .i64 (k0 + (ints xss : Nat))) ∧ GOwn w' lo eR eI v vs yss ∧ Marks k0 xss yss ∧ Turn lo hi w w' := by
  have M := hid (mark_ss lo hi v vs k0 xss _ hn h0 h1 (h.alloc (.cells #[.int .i64 n, v] 26)) hu)
  have T := hid (Turn.of_below (lo := lo) (hi := hi) ((Below.refl w.heap.size w).alloc (Nat.le_refl _) (.cells #[.int .i64 n, v] 26)) (Nat.le_refl _))
  obtain ⟨a, cap, rfl, _⟩ := h.form
  clear h
  go_enter Try.func40, Try.ntmps40
  go_wp2_with fail
  refine M.out.mono ?_
  rintro e w' ⟨yss, rfl, hg, hm, ht⟩
  have G := hid hg
  have T2 := hid (T.out.trans ht)
  clear hg ht
  go_wp2
  go_ret
  exact ⟨yss, rfl, G.out, hm, T2.out⟩

theorem held_tr (n : Int) (a : Option Addr) (cap B : Nat) (k0 : Int) (xss yss : List (List Int)) (w : World) (hn : tot xss ≤ 1048576) (h0 : 0 ≤ k0) (h1 : k0 ≤ 2097152) (hm : Marks k0 xss yss) (h : GRd w B a yss) (hB : B ≤ w.heap.size) :
    Calls Try.prog 76 #[.agg #[.int .i64 n, .slice a xss.length cap], .int .i64 k0] w fun e w' => e = .returned (.int .i64 (k0 + (ints xss : Nat))) ∧ Below w.heap.size w w' := by
  have H := hid (held_ss a cap B k0 xss yss _ hn h0 h1 hm (h.alloc hB (.cells #[.int .i64 n, .slice a xss.length cap] 26)))
  have h3 : ¬ (k0 + (ints xss : Nat) < 0) := by omega
  clear h hm
  go_enter Try.func76, Try.ntmps76
  go_wp2_with fail
  refine H.out.mono ?_
  rintro e w' ⟨rfl, rfl⟩
  go_wp2
  go_ret
  exact ⟨rfl, (Below.refl _ _).alloc (Nat.le_refl _) _⟩

theorem to_tr (n : Int) (a : Option Addr) (cap B : Nat) (xss : List (List Int)) (w : World) (hn : tot xss ≤ 1048576) (h : GRd w B a xss) (hB : B ≤ w.heap.size) :
    Calls Try.prog 36 #[.agg #[.int .i64 n, .slice a xss.length cap]] w fun e w' => ∃ vs g, e = .returned (.agg #[.int .i64 n, .slice (some ⟨g, 0, none⟩) xss.length xss.length]) ∧ w.heap.size ≤ g ∧ GOwn w' g eR eI (.slice (some ⟨g, 0, none⟩) xss.length xss.length) vs xss ∧ Below w.heap.size w w' := by
  have K1 := hid (has2_new (w.alloc (.cells #[.int .i64 n, .slice a xss.length cap] 43)) (.int .i64 0) (.slice none 0 0) 26)
  have K2 := hid (has2_new ((w.alloc (.cells #[.int .i64 n, .slice a xss.length cap] 43)).alloc (.cells #[.int .i64 0, .slice none 0 0] 26)) (.int .i64 n) (.slice none 0 0) 26)
  have B3 := hid ((((Below.refl w.heap.size w).alloc (Nat.le_refl _) (.cells #[.int .i64 n, .slice a xss.length cap] 43)).alloc (by simp) (.cells #[.int .i64 0, .slice none 0 0] 26)).alloc (by simp; omega) (.cells #[.int .i64 n, .slice none 0 0] 26))
  have K1s := hid (K1.out.alloc (.cells #[.int .i64 n, .slice none 0 0] 26))
  have T := hid (to_ss a cap B xss _ hn (h.below (B3.out.mono hB)) (by simp; omega))
  simp only [World.size_alloc] at K1s K2
  clear h K1
  go_enter Try.func36, Try.ntmps36
  go_wp2_with fail
  refine T.out.mono ?_
  rintro e w1 ⟨vs, rfl, hown, hb⟩
  have hs1 := hb.size
  simp only [World.size_alloc] at hs1 hown hb ⊢
  obtain ⟨p0, p1, p2, p3, p4⟩ := K1s.out.below (hb.mono (by first | exact Nat.le_refl _ | simp))
  obtain ⟨q0, q1, q2, q3, q4⟩ := K2.out.below (hb.mono (by first | exact Nat.le_refl _ | simp))
  have HO := hid hown
  have HB := hid (B3.out.trans (hb.mono (by omega)))
  have hr0 : (((w1.setCell ⟨w.heap.size + 1 + 1, 1, none⟩ (.slice (some ⟨w.heap.size + 1 + 1 + 1, 0, none⟩) xss.length xss.length)).setCell ⟨w.heap.size + 1, 0, none⟩ (.int .i64 n)).setCell ⟨w.heap.size + 1, 1, none⟩ (.slice (some ⟨w.heap.size + 1 + 1 + 1, 0, none⟩) xss.length xss.length)).cell? ⟨w.heap.size + 1, 0, none⟩ = some (.int .i64 n) := by
    rw [World.cell?_setCell_other _ _ _ _ (by simp)]
    refine World.cell?_setCell_same _ _ _ (u := .int .i64 0) ?_
    rw [World.cell?_setCell_other _ _ _ _ (by simp)]
    exact p0
  have hr1 : (((w1.setCell ⟨w.heap.size + 1 + 1, 1, none⟩ (.slice (some ⟨w.heap.size + 1 + 1 + 1, 0, none⟩) xss.length xss.length)).setCell ⟨w.heap.size + 1, 0, none⟩ (.int .i64 n)).setCell ⟨w.heap.size + 1, 1, none⟩ (.slice (some ⟨w.heap.size + 1 + 1 + 1, 0, none⟩) xss.length xss.length)).cell? ⟨w.heap.size + 1, 1, none⟩ = some (.slice (some ⟨w.heap.size + 1 + 1 + 1, 0, none⟩) xss.length xss.length) := by
    refine World.cell?_setCell_same _ _ _ (u := .slice none 0 0) ?_
    rw [World.cell?_setCell_other _ _ _ _ (by simp), World.cell?_setCell_other _ _ _ _ (by simp)]
    exact p1
  clear hown hb
  go_wp2
  refine bodyPost_ret (v := .agg #[.int .i64 n, .slice (some ⟨w.heap.size + 1 + 1 + 1, 0, none⟩) xss.length xss.length]) (by simp [results, Try.results36, go_sem, hr0, hr1]) rfl ⟨vs, _, rfl, by omega, ?_, ?_⟩
  · exact gown_turned (lo := w.heap.size) (hi := w.heap.size + 1 + 1 + 1) HO.out ⟨rfl, rfl, rfl, by simp, fun k hk hkk => by
      rw [Below.heap_setCell _ _ _ _ (by simp; omega), Below.heap_setCell _ _ _ _ (by simp; omega), Below.heap_setCell _ _ _ _ (by simp; omega)]⟩ (.inl (Nat.le_refl _))
  · exact ((HB.out.setCell (by simp; omega) _).setCell (by simp) _).setCell (by simp) _
end Go.Proofs.Ytliomgoakiidfaa.TrieLaw
