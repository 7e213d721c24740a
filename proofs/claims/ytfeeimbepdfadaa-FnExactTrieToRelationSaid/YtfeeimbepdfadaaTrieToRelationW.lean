/- The walk of law FnExactTrieToRelation, at every argument. -/
import Derived.Test.YtfeeimbepdfadaaTrieToRelationC
import Derived.Test.YtfeeimbepdfadaaTtr
import Derived.Test.YtfeeimbepdfadaaTrieLaw
namespace Go.Proofs.Ytfeeimbepdfadaa.TrieToRelationW
open Go.RowKit
open Go.Proofs.Ytfeeimbepdfadaa.Num Go.Proofs.Ytfeeimbepdfadaa.IntRow Go.Proofs.Ytfeeimbepdfadaa.IntLaw Go.Proofs.Ytfeeimbepdfadaa.Grid Go.Proofs.Ytfeeimbepdfadaa.GridMore Go.Proofs.Ytfeeimbepdfadaa.GridLaw Go.Proofs.Ytfeeimbepdfadaa.GridLaw2 Go.Proofs.Ytfeeimbepdfadaa.Cells Go.Proofs.Ytfeeimbepdfadaa.RelKit Go.Proofs.Ytfeeimbepdfadaa.Asc Go.Proofs.Ytfeeimbepdfadaa.TrieToRelationC Go.Proofs.Ytfeeimbepdfadaa.Ttr Go.Proofs.Ytfeeimbepdfadaa.TrieLaw
set_option linter.unusedVariables false

set_option maxRecDepth 100000 in
theorem walk (m0 : Int) (a0 : Option Addr) (n0 cap0 : Nat) (hn0 : n0 ≤ 9223372036854775807) (xss0 : List (List Int)) (hl0 : xss0.length = n0) (hx0 : ∀ j (h : j < xss0.length), xss0[j].length ≤ 9223372036854775807) (a1 : Option Addr) (n1 cap1 : Nat) (hn1 : n1 ≤ 9223372036854775807) (xs1 : List Int) (hl1 : xs1.length = n1) (w : World) (r0 : GRd w w.heap.size a0 xss0) (r1 : Rd w w.heap.size a1 xs1) :
    Calls Try.prog 6 #[.agg #[.int .i64 m0, .slice a0 n0 cap0], .slice a1 n1 cap1] w fun e w' => e = .returned (.bool true) ∧ Below w.heap.size w w' := by
  have B := hid ((Below.refl w.heap.size w).alloc (by simp) (.cells #[.int .i64 m0, .slice a0 n0 cap0] 50))
  by_cases hrow1 : (1048576 : Int) < (n1 : Int)
  · clear r0 r1
    go_enter Try.func6, Try.ntmps6
    go_wp2
    go_ret
    exact ⟨rfl, B.out⟩
  · by_cases ht0 : 1048576 < tot xss0
    · have R0 := hid (r0.below B.out)
      subst hl0
      go_enter Try.func6, Try.ntmps6
      go_wp2_with fail
      refine (sz_tr m0 a0 cap0 w.heap.size xss0 (1048576) (-1) _ (by omega) (by omega) hn0 hx0 R0.out B.out.size (hid (.inl ⟨by omega, rfl⟩))).mono ?_
      rintro e w2 ⟨rfl, hb⟩
      replace B := hid (B.out.trans (hb.mono B.out.size))
      clear hb
      go_wp2
      go_ret
      exact ⟨rfl, B.out⟩
    · subst hl0 hl1
      exact core m0 a0 cap0 xss0 a1 cap1 xs1 (ttN m0 xss0 xs1) (ttR m0 xss0 xs1) (ttOk m0 xss0 xs1) w (by omega) (by omega) (by have := tot_ttR m0 xss0 xs1; omega) r0 r1
        (hid (fun W g0 g1 h0 h1 => spec_tt m0 _ _ _ _ _ _ xss0 xs1 W (by omega) (len_le (by omega)) (each_le (by omega)) (by omega) (Nat.le_refl _) h0 h1 (Nat.le_refl _) (Nat.le_refl _)))
        (hid (fun W g0 g1 h0 h1 => impl_tt m0 _ _ _ _ _ _ xss0 xs1 W (by omega) (by omega) h0 h1 (Nat.le_refl _) (Nat.le_refl _)))
end Go.Proofs.Ytfeeimbepdfadaa.TrieToRelationW
