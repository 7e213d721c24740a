/- An argument '[]int', opened, with the bounds of its elements. -/
import Derived.Test.YtaiimjbdhcjobaaRats
namespace Go.Proofs.Ytaiimjbdhcjobaa.IntsA
open Go.Deep Go.Joins Go.ChangeShapes Go.WideShapes Go.ChangeAt Go.RowKit
open Go.Proofs.Ytaiimjbdhcjobaa.IntRow Go.Proofs.Ytaiimjbdhcjobaa.Rdr Go.Proofs.Ytaiimjbdhcjobaa.Rats
set_option linter.unusedVariables false

theorem opn_ints : Opn Try.prog 42 (rSl 1 rI64) := opn_slice Try.underlying42 (by kernel_rfl) (by decide) (opn_i64 Try.underlying3)
theorem els_int {w : World} {lo hi : Nat} {a : Option Addr} {xs : List Int} (h : Els 1 rI64 w lo hi a xs) : Els 1 rInt w lo hi a xs := fun h0 => by
  obtain ⟨b, off, e, h1, h2, hc⟩ := h h0
  refine ⟨b, off, e, h1, h2, fun j hj => ?_⟩
  obtain ⟨cs, hl, h3, h4⟩ := hc j hj
  exact ⟨cs, hl, h3, h4.1⟩
theorem els_rd {w : World} {lo hi : Nat} {a : Option Addr} {xs : List Int} (h : Els 1 rI64 w lo hi a xs) : Rd w hi a xs := rd_of (els_int h)
theorem els_ib {w : World} {lo hi : Nat} {a : Option Addr} {xs : List Int} (h : Els 1 rI64 w lo hi a xs) (j : Nat) (hj : j < xs.length) : Ib xs[j] := by
  obtain ⟨b, off, e, h1, h2, hc⟩ := h (by omega)
  obtain ⟨cs, hl, h3, h4⟩ := hc j hj
  exact h4.2
theorem els_le {w : World} {lo hi : Nat} {a : Option Addr} {xs : List Int} (h : Els 1 rI64 w lo hi a xs) (j : Nat) (hj : j < xs.length) : xs[j] ≤ 9223372036854775807 := (els_ib h j hj).2
end Go.Proofs.Ytaiimjbdhcjobaa.IntsA
