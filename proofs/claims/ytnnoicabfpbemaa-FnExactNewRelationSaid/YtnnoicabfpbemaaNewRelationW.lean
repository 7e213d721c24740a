/- The walk of law FnExactNewRelation, at every argument. -/
import Derived.Test.YtnnoicabfpbemaaNewRelationC
import Derived.Test.YtnnoicabfpbemaaSrtD
import Derived.Test.YtnnoicabfpbemaaNewRS
import Derived.Test.YtnnoicabfpbemaaNewRI
namespace Go.Proofs.Ytnnoicabfpbemaa.NewRelationW
open Go.RowKit
open Go.Proofs.Ytnnoicabfpbemaa.Num Go.Proofs.Ytnnoicabfpbemaa.IntRow Go.Proofs.Ytnnoicabfpbemaa.IntLaw Go.Proofs.Ytnnoicabfpbemaa.Grid Go.Proofs.Ytnnoicabfpbemaa.GridMore Go.Proofs.Ytnnoicabfpbemaa.GridLaw Go.Proofs.Ytnnoicabfpbemaa.GridLaw2 Go.Proofs.Ytnnoicabfpbemaa.RelLaw Go.Proofs.Ytnnoicabfpbemaa.Cells Go.Proofs.Ytnnoicabfpbemaa.RelKit Go.Proofs.Ytnnoicabfpbemaa.Asc Go.Proofs.Ytnnoicabfpbemaa.NewRelationC Go.Proofs.Ytnnoicabfpbemaa.SrtD Go.Proofs.Ytnnoicabfpbemaa.NewRS Go.Proofs.Ytnnoicabfpbemaa.NewRI
set_option linter.unusedVariables false

set_option maxRecDepth 100000 in
theorem walk (m0 : Int) (hm0 : -9223372036854775808 ≤ m0 ∧ m0 ≤ 9223372036854775807) (a1 : Option Addr) (n1 cap1 : Nat) (hn1 : n1 ≤ 9223372036854775807) (xss1 : List (List Int)) (hl1 : xss1.length = n1) (hx1 : ∀ j (h : j < xss1.length), xss1[j].length ≤ 9223372036854775807) (w : World) (r1 : GRd w w.heap.size a1 xss1) :
    Calls Try.prog 8 #[.int .i64 m0, .slice a1 n1 cap1] w fun e w' => e = .returned (.bool true) ∧ Below w.heap.size w w' := by
  have B := hid (Below.refl w.heap.size w)
  by_cases ht1 : 1048576 < tot xss1
  · have R1 := hid (r1.below B.out)
    subst hl1
    go_enter Try.func8, Try.ntmps8
    go_wp2_with fail
    refine (sz_ss a1 cap1 w.heap.size xss1 (1048576) (-1) _ (by omega) (by omega) hn1 hx1 R1.out (hid (.inl ⟨by omega, rfl⟩))).mono ?_
    rintro e w2 ⟨rfl, rfl⟩
    go_wp2
    go_ret
    exact ⟨rfl, B.out⟩
  · subst hl1
    refine core m0 a1 cap1 xss1 (newN m0 xss1) (newR m0 xss1) (newOk m0 xss1) w (by omega) (by have := tot_new m0 xss1; omega) r1 (hid fun W g1 h1 => ?_) (hid fun W g1 h1 => ?_)
    · exact spec_new m0 _ _ _ xss1 W (by omega) (Nat.le_refl _) h1 (Nat.le_refl _)
    · exact impl_new m0 _ _ _ xss1 W (by omega) h1 (Nat.le_refl _)
end Go.Proofs.Ytnnoicabfpbemaa.NewRelationW
