/- The walk of law FnExactIsValidRelation, at every argument. -/
import Derived.Test.YtlacmglkimkjaaaIsValidRelationC
import Derived.Test.YtlacmglkimkjaaaRelValidS
import Derived.Test.YtlacmglkimkjaaaRelValidI
namespace Go.Proofs.Ytlacmglkimkjaaa.IsValidRelationW
open Go.RowKit
open Go.Proofs.Ytlacmglkimkjaaa.Num Go.Proofs.Ytlacmglkimkjaaa.IntRow Go.Proofs.Ytlacmglkimkjaaa.IntLaw Go.Proofs.Ytlacmglkimkjaaa.Grid Go.Proofs.Ytlacmglkimkjaaa.GridMore Go.Proofs.Ytlacmglkimkjaaa.GridLaw Go.Proofs.Ytlacmglkimkjaaa.GridLaw2 Go.Proofs.Ytlacmglkimkjaaa.RelLaw Go.Proofs.Ytlacmglkimkjaaa.Cells Go.Proofs.Ytlacmglkimkjaaa.RelKit Go.Proofs.Ytlacmglkimkjaaa.Asc Go.Proofs.Ytlacmglkimkjaaa.IsValidRelationC Go.Proofs.Ytlacmglkimkjaaa.RelValidS Go.Proofs.Ytlacmglkimkjaaa.RelValidI
set_option linter.unusedVariables false

set_option maxRecDepth 100000 in
theorem walk (m0 : Int) (a0 : Option Addr) (n0 cap0 : Nat) (hn0 : n0 ≤ 9223372036854775807) (xss0 : List (List Int)) (hl0 : xss0.length = n0) (hx0 : ∀ j (h : j < xss0.length), xss0[j].length ≤ 9223372036854775807) (w : World) (r0 : GRd w w.heap.size a0 xss0) :
    Calls Try.prog 7 #[.agg #[.int .i64 m0, .slice a0 n0 cap0]] w fun e w' => e = .returned (.bool true) ∧ Below w.heap.size w w' := by
  have B := hid ((Below.refl w.heap.size w).alloc (by simp) (.cells #[.int .i64 m0, .slice a0 n0 cap0] 41))
  by_cases ht0 : 1048576 < tot xss0
  · have R0 := hid (r0.below B.out)
    subst hl0
    go_enter Try.func7, Try.ntmps7
    go_wp2_with fail
    refine (sz_rel m0 a0 cap0 w.heap.size xss0 (1048576) (-1) _ (by omega) (by omega) hn0 hx0 R0.out B.out.size (hid (.inl ⟨by omega, rfl⟩))).mono ?_
    rintro e w2 ⟨rfl, hb⟩
    replace B := hid (B.out.trans (hb.mono B.out.size))
    clear hb
    go_wp2
    go_ret
    exact ⟨rfl, B.out⟩
  · subst hl0
    refine core m0 a0 cap0 xss0 (vrel m0 xss0) w (by omega) r0 (hid fun W g0 h0 => ?_) (hid fun W g0 h0 => ?_)
    · exact spec_valid m0 _ _ _ _ xss0 W rfl (len_le (by omega)) (each_le (by omega)) h0 (Nat.le_refl _)
    · exact impl_valid m0 _ _ _ _ xss0 W rfl (len_le (by omega)) (each_le (by omega)) h0 (Nat.le_refl _)
end Go.Proofs.Ytlacmglkimkjaaa.IsValidRelationW
