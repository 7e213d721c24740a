/- The walk of law FnExactIsValidTrie, at every argument. -/
import Derived.Test.YtfeeimbepdfadaaIsValidTrieC
import Derived.Test.YtfeeimbepdfadaaTriV
namespace Go.Proofs.Ytfeeimbepdfadaa.IsValidTrieW
open Go.RowKit
open Go.Proofs.Ytfeeimbepdfadaa.Num Go.Proofs.Ytfeeimbepdfadaa.IntRow Go.Proofs.Ytfeeimbepdfadaa.IntLaw Go.Proofs.Ytfeeimbepdfadaa.Grid Go.Proofs.Ytfeeimbepdfadaa.GridMore Go.Proofs.Ytfeeimbepdfadaa.GridLaw Go.Proofs.Ytfeeimbepdfadaa.GridLaw2 Go.Proofs.Ytfeeimbepdfadaa.TrieLaw Go.Proofs.Ytfeeimbepdfadaa.Cells Go.Proofs.Ytfeeimbepdfadaa.RelKit Go.Proofs.Ytfeeimbepdfadaa.Asc Go.Proofs.Ytfeeimbepdfadaa.IsValidTrieC Go.Proofs.Ytfeeimbepdfadaa.TriV
set_option linter.unusedVariables false

set_option maxRecDepth 100000 in
theorem walk (m0 : Int) (a0 : Option Addr) (n0 cap0 : Nat) (hn0 : n0 ≤ 9223372036854775807) (xss0 : List (List Int)) (hl0 : xss0.length = n0) (hx0 : ∀ j (h : j < xss0.length), xss0[j].length ≤ 9223372036854775807) (w : World) (r0 : GRd w w.heap.size a0 xss0) :
    Calls Try.prog 5 #[.agg #[.int .i64 m0, .slice a0 n0 cap0]] w fun e w' => e = .returned (.bool true) ∧ Below w.heap.size w w' := by
  have B := hid ((Below.refl w.heap.size w).alloc (by simp) (.cells #[.int .i64 m0, .slice a0 n0 cap0] 50))
  by_cases ht0 : 1048576 < tot xss0
  · have R0 := hid (r0.below B.out)
    subst hl0
    go_enter Try.func5, Try.ntmps5
    go_wp2_with fail
    refine (sz_tr m0 a0 cap0 w.heap.size xss0 (1048576) (-1) _ (by omega) (by omega) hn0 hx0 R0.out B.out.size (hid (.inl ⟨by omega, rfl⟩))).mono ?_
    rintro e w2 ⟨rfl, hb⟩
    replace B := hid (B.out.trans (hb.mono B.out.size))
    clear hb
    go_wp2
    go_ret
    exact ⟨rfl, B.out⟩
  · subst hl0
    refine core m0 a0 cap0 xss0 (vrel m0 xss0) w (by omega) r0 (hid fun W g0 h0 => ?_) (hid fun W g0 h0 => ?_)
    · exact spec_vtr m0 _ _ _ _ xss0 W rfl (len_le (by omega)) (each_le (by omega)) h0 (Nat.le_refl _)
    · exact impl_vtr m0 _ _ _ _ xss0 W rfl (len_le (by omega)) (each_le (by omega)) h0 (Nat.le_refl _)
end Go.Proofs.Ytfeeimbepdfadaa.IsValidTrieW
