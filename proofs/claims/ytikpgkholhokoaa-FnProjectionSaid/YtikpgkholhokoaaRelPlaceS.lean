/- A row's place in an ordered relation (spec.l5Place), and spec.ContainsRow. -/
import Derived.Test.YtikpgkholhokoaaRelValidS
namespace Go.Proofs.Ytikpgkholhokoaa.RelPlaceS
open Go.RowKit
open Go.Proofs.Ytikpgkholhokoaa.Num Go.Proofs.Ytikpgkholhokoaa.IntRow Go.Proofs.Ytikpgkholhokoaa.Vals Go.Proofs.Ytikpgkholhokoaa.Grid Go.Proofs.Ytikpgkholhokoaa.CmpL Go.Proofs.Ytikpgkholhokoaa.RowCmpS Go.Proofs.Ytikpgkholhokoaa.Asc Go.Proofs.Ytikpgkholhokoaa.Cells Go.Proofs.Ytikpgkholhokoaa.RelValidS
set_option linter.unusedVariables false

/-- p is the place of the row r: what is ahead is less, what is behind is not. -/
structure Pl (xss : List (List Int)) (r : List Int) (p : Nat) : Prop where
  le : p ≤ xss.length
  less : ∀ j (h : j < xss.length), j < p → cmpL xss[j] r < 0
  not : ∀ j (h : j < xss.length), p ≤ j → ¬ cmpL xss[j] r < 0
theorem Pl.unique {xss : List (List Int)} {r : List Int} {p q : Nat} (h : Pl xss r p) (k : Pl xss r q) : p = q := by
  rcases (by omega : p < q ∨ q < p ∨ p = q) with e | e | e
  · exact absurd (k.less p (by have := k.le; omega) e) (h.not p (by have := k.le; omega) (Nat.le_refl _))
  · exact absurd (h.less q (by have := h.le; omega) e) (k.not q (by have := h.le; omega) (Nat.le_refl _))
  · exact e
theorem Pl.mem {xss : List (List Int)} {r : List Int} {p : Nat} (h : Pl xss r p) (ha : Asc xss) : r ∈ xss ↔ ∃ h : p < xss.length, xss[p] = r := by
  constructor
  · intro hm
    obtain ⟨j, hj, rfl⟩ := List.getElem_of_mem hm
    have h1 : ¬ j < p := fun e => by have := h.less j hj e; rw [cmpL_self] at this; omega
    have h2 : ¬ p < j := fun e => h.not p (by omega) (Nat.le_refl _) (ha.lt (by omega) hj e)
    have e : j = p := by omega
    subst e
    exact ⟨hj, rfl⟩
  · rintro ⟨hp, rfl⟩
    exact List.getElem_mem hp
/-- The search so far. -/
structure Way (xss : List (List Int)) (r : List Int) (lo hi : Nat) : Prop where
  le : lo ≤ hi
  le2 : hi ≤ xss.length
  less : ∀ j (h : j < xss.length), j < lo → cmpL xss[j] r < 0
  not : ∀ j (h : j < xss.length), hi ≤ j → ¬ cmpL xss[j] r < 0
theorem Way.start (xss : List (List Int)) (r : List Int) : Way xss r 0 xss.length := ⟨Nat.zero_le _, Nat.le_refl _, fun j _ h => by omega, fun j h1 h2 => by omega⟩
theorem Way.right {xss : List (List Int)} {r : List Int} {lo hi m : Nat} (h : Way xss r lo hi) (ha : Asc xss) (h1 : lo ≤ m) (h2 : m < hi) (hc : cmpL (xss[m]'(by have := h.le2; omega)) r < 0) : Way xss r (m + 1) hi :=
  ⟨h2, h.le2, fun j hj hjm => by
    by_cases e : j = m
    · subst e; exact hc
    · exact cmpL_trans (ha.lt hj (by have := h.le2; omega) (by omega)) hc, h.not⟩
theorem Way.left {xss : List (List Int)} {r : List Int} {lo hi m : Nat} (h : Way xss r lo hi) (ha : Asc xss) (h1 : lo ≤ m) (h2 : m < hi) (hc : ¬ cmpL (xss[m]'(by have := h.le2; omega)) r < 0) : Way xss r lo m :=
  ⟨h1, by have := h.le2; omega, h.less, fun j hj hmj hlt => by
    by_cases e : j = m
    · subst e; exact hc hlt
    · exact hc (cmpL_trans (ha.lt (by have := h.le2; omega) hj (by omega)) hlt)⟩
theorem Way.done {xss : List (List Int)} {r : List Int} {lo : Nat} (h : Way xss r lo lo) : Pl xss r lo := ⟨h.le2, h.less, h.not⟩

end Go.Proofs.Ytikpgkholhokoaa.RelPlaceS
