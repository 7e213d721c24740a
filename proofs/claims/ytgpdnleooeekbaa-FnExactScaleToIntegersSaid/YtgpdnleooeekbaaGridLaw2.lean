/- Contracts of the laws' own helpers that make and mark grids. -/
import Derived.Test.YtgpdnleooeekbaaGridLaw
import Derived.Test.YtgpdnleooeekbaaGridMore
namespace Go.Proofs.Ytgpdnleooeekbaa.GridLaw2
open Go.RowKit
open Go.Proofs.Ytgpdnleooeekbaa.Num Go.Proofs.Ytgpdnleooeekbaa.IntRow Go.Proofs.Ytgpdnleooeekbaa.IntLaw Go.Proofs.Ytgpdnleooeekbaa.Grid Go.Proofs.Ytgpdnleooeekbaa.GridMore Go.Proofs.Ytgpdnleooeekbaa.GridLaw Go.Proofs.Ytgpdnleooeekbaa.Keep Go.Proofs.Ytgpdnleooeekbaa.Kept
set_option linter.unusedVariables false

abbrev eR : TypeId := 26
abbrev eI : TypeId := 3
theorem eRI : eR ≠ eI := by decide

/-- The rows as the laws' marks leave them: yss is marked from k on. -/
def Marks (k : Int) (xss yss : List (List Int)) : Prop := yss.length = xss.length ∧ ∀ j (h : j < xss.length) (h' : j < yss.length), yss[j] = marks (k + (summed xss j : Nat)) xss[j].length
/-- .. of which the first j rows are marked. -/
def MarkTo (k : Int) (xss yss : List (List Int)) (m : Nat) : Prop := yss.length = xss.length ∧ ∀ j (h : j < xss.length) (h' : j < yss.length), yss[j] = if j < m then marks (k + (summed xss j : Nat)) xss[j].length else xss[j]
theorem MarkTo.zero (k : Int) (xss : List (List Int)) : MarkTo k xss xss 0 := ⟨rfl, fun j h h' => by simp⟩
theorem MarkTo.step {k : Int} {xss yss : List (List Int)} {m : Nat} (h : MarkTo k xss yss m) (hm : m < xss.length) : MarkTo k xss (yss.set m (marks (k + (summed xss m : Nat)) xss[m].length)) (m + 1) := by
  refine ⟨by rw [List.length_set]; exact h.1, fun j hj hj' => ?_⟩
  rw [List.getElem_set]
  by_cases e : m = j
  · subst e; simp
  · rw [if_neg e, h.2 j hj (by rw [h.1]; exact hj)]
    by_cases e2 : j < m
    · rw [if_pos e2, if_pos (by omega)]
    · rw [if_neg e2, if_neg (by omega)]
theorem MarkTo.done {k : Int} {xss yss : List (List Int)} (h : MarkTo k xss yss xss.length) : Marks k xss yss := ⟨h.1, fun j hj hj' => by rw [h.2 j hj hj', if_pos hj]⟩
def ints (xss : List (List Int)) : Nat := (xss.map List.length).sum

theorem mark_own (lo : Nat) (v : Value) (k0 : Int) (xs : List Int) (w : World) (hn : xs.length ≤ 1048576) (h0 : 0 ≤ k0) (h1 : k0 ≤ 4194304) (h : Own w lo 3 v xs) :
    Calls Try.prog 30 #[v, .int .i64 k0] w fun e w' => e = .returned (.int .i64 (k0 + xs.length)) ∧ Own w' lo 3 v (marks k0 xs.length) ∧ w.grownBy w' v.ownBlock := by
  rcases own_at h with ⟨rfl, rfl⟩ | ⟨g, cap', rfl, hl', hat⟩
  · refine (mark_nil k0 w).mono ?_
    rintro e w' ⟨rfl, rfl⟩
    exact ⟨by simp, Own.nil _ _ _, World.grownBy.refl _ _⟩
  · refine (mark_ints g cap' k0 xs w hn h0 h1 hat).mono ?_
    rintro e w' ⟨rfl, hat', hgr⟩
    exact ⟨rfl, by simpa [marks_length] using hat'.own hl', hgr⟩



end Go.Proofs.Ytgpdnleooeekbaa.GridLaw2
