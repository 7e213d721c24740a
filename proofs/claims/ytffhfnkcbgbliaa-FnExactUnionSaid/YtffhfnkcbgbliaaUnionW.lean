/- The walk of law FnExactUnion, at every argument. -/
import Derived.Test.YtffhfnkcbgbliaaUnionC
import Derived.Test.YtffhfnkcbgbliaaRelTot
import Derived.Test.YtffhfnkcbgbliaaUni
import Derived.Test.YtffhfnkcbgbliaaUniS
namespace Go.Proofs.Ytffhfnkcbgbliaa.UnionW
open Go.RowKit
open Go.Proofs.Ytffhfnkcbgbliaa.Num Go.Proofs.Ytffhfnkcbgbliaa.IntRow Go.Proofs.Ytffhfnkcbgbliaa.IntLaw Go.Proofs.Ytffhfnkcbgbliaa.Grid Go.Proofs.Ytffhfnkcbgbliaa.GridMore Go.Proofs.Ytffhfnkcbgbliaa.GridLaw Go.Proofs.Ytffhfnkcbgbliaa.GridLaw2 Go.Proofs.Ytffhfnkcbgbliaa.RelLaw Go.Proofs.Ytffhfnkcbgbliaa.Cells Go.Proofs.Ytffhfnkcbgbliaa.RelKit Go.Proofs.Ytffhfnkcbgbliaa.Asc Go.Proofs.Ytffhfnkcbgbliaa.UnionC Go.Proofs.Ytffhfnkcbgbliaa.RelTot Go.Proofs.Ytffhfnkcbgbliaa.Uni Go.Proofs.Ytffhfnkcbgbliaa.UniS
set_option linter.unusedVariables false

set_option maxRecDepth 100000 in
theorem walk (m0 : Int) (a0 : Option Addr) (n0 cap0 : Nat) (hn0 : n0 ≤ 9223372036854775807) (xss0 : List (List Int)) (hl0 : xss0.length = n0) (hx0 : ∀ j (h : j < xss0.length), xss0[j].length ≤ 9223372036854775807) (m1 : Int) (a1 : Option Addr) (n1 cap1 : Nat) (hn1 : n1 ≤ 9223372036854775807) (xss1 : List (List Int)) (hl1 : xss1.length = n1) (hx1 : ∀ j (h : j < xss1.length), xss1[j].length ≤ 9223372036854775807) (w : World) (r0 : GRd w w.heap.size a0 xss0) (r1 : GRd w w.heap.size a1 xss1) :
    Calls Try.prog 4 #[.agg #[.int .i64 m0, .slice a0 n0 cap0], .agg #[.int .i64 m1, .slice a1 n1 cap1]] w fun e w' => e = .returned (.bool true) ∧ Below w.heap.size w w' := by
  have B := hid (((Below.refl w.heap.size w).alloc (by simp) (.cells #[.int .i64 m0, .slice a0 n0 cap0] 25)).alloc (by simp) (.cells #[.int .i64 m1, .slice a1 n1 cap1] 25))
  by_cases ht0 : 1048576 < tot xss0
  · have R0 := hid (r0.below B.out)
    subst hl0 hl1
    go_enter Try.func4, Try.ntmps4
    go_wp2_with fail
    refine (sz_rel m0 a0 cap0 w.heap.size xss0 (1048576) (-1) _ (by omega) (by omega) hn0 hx0 R0.out B.out.size (hid (.inl ⟨by omega, rfl⟩))).mono ?_
    rintro e w2 ⟨rfl, hb⟩
    replace B := hid (B.out.trans (hb.mono B.out.size))
    clear hb
    go_wp2
    go_ret
    exact ⟨rfl, B.out⟩
  · by_cases ht1 : 1048576 < tot xss0 + tot xss1
    · have R1 := hid (r1.below B.out)
      have t_sz0 : ¬ ((1048576 - (tot xss0 : Nat) : Int) < 0) := by omega
      have OB := hid (has2_new (w.alloc (.cells #[.int .i64 m0, .slice a0 n0 cap0] 25)) (.int .i64 m1) (.slice a1 n1 cap1) 25)
      simp only [World.size_alloc] at OB
      subst hl0 hl1
      go_enter Try.func4, Try.ntmps4
      go_wp2_with fail
      refine (sz_rel m0 a0 cap0 w.heap.size xss0 1048576 (1048576 - (tot xss0 : Nat)) _ (by omega) (by omega) hn0 hx0 (r0.below B.out) B.out.size (hid (.inr ⟨by omega, by omega⟩))).mono ?_
      rintro e w1 ⟨rfl, hb⟩
      replace B := hid (B.out.trans (hb.mono B.out.size))
      obtain ⟨c0, c1, z, _, _⟩ := OB.out.below hb
      replace R1 := hid (r1.below B.out)
      clear hb
      go_wp2_with fail
      refine (sz_rel m1 a1 cap1 w.heap.size xss1 (1048576 - (tot xss0 : Nat)) (-1) _ (by omega) (by omega) hn1 hx1 R1.out B.out.size (hid (.inl ⟨by omega, rfl⟩))).mono ?_
      rintro e w2 ⟨rfl, hb⟩
      replace B := hid (B.out.trans (hb.mono B.out.size))
      clear hb
      go_wp2
      go_ret
      exact ⟨rfl, B.out⟩
    · subst hl0 hl1
      refine core m0 a0 cap0 xss0 m1 a1 cap1 xss1 (uniN m0 m1 xss0 xss1) (uniR m0 m1 xss0 xss1) (uniOk m0 m1 xss0 xss1) w (by omega) (by have := tot_uni m0 m1 xss0 xss1; omega) r0 r1 (hid fun W g0 g1 h0 h1 => ?_) (hid fun W g0 g1 h0 h1 => ?_)
      · exact spec_uni m0 m1 _ _ _ _ _ _ xss0 xss1 W (by omega) h0 h1 (Nat.le_refl _) (Nat.le_refl _)
      · exact impl_uni m0 m1 _ _ _ _ _ _ xss0 xss1 W (by omega) h0 h1 (Nat.le_refl _) (Nat.le_refl _)
end Go.Proofs.Ytffhfnkcbgbliaa.UnionW
