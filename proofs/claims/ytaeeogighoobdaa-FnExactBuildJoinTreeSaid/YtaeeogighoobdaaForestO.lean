/- Two readings of one forest are the same, over rows that are read. -/
import Derived.Test.YtaeeogighoobdaaForest
namespace Go.Proofs.Ytaeeogighoobdaa.ForestO
open Go.RowKit
open Go.Proofs.Ytaeeogighoobdaa.Num Go.Proofs.Ytaeeogighoobdaa.IntRow Go.Proofs.Ytaeeogighoobdaa.IntLaw
set_option linter.unusedVariables false

theorem eq_forestO (a a' : Option Addr) (cap cap' : Nat) (xs : List Int) (B B' : Nat) (w : World) (hn : xs.length ≤ 1048576) (h : Rd w B a xs) (h' : Rd w B' a' xs) (hB : B ≤ w.heap.size) (hB' : B' ≤ w.heap.size) :
    Calls Try.prog 23 #[.agg #[.slice a xs.length cap], .agg #[.slice a' xs.length cap']] w fun e w' => e = .returned (.bool true) ∧ Below w.heap.size w w' := by
  go_enter Try.func23, Try.ntmps23
  go_wp2_with fail
  refine (eq_ints a a' cap cap' xs B B' _ hn ((h.alloc hB _).alloc (by simp; omega) _) ((h'.alloc hB' _).alloc (by simp; omega) _) (by simp; omega) (by simp; omega)).mono ?_
  rintro e w' ⟨rfl, hb⟩
  go_wp2
  go_ret
  exact ⟨rfl, (((Below.refl _ _).alloc (Nat.le_refl _) _).alloc (by simp) _).trans (hb.mono (by simp; omega))⟩
end Go.Proofs.Ytaeeogighoobdaa.ForestO
