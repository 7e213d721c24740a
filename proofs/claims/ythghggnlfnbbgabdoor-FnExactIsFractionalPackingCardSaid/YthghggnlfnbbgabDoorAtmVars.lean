/- The variables of an atom, ascending: the model's function and the program's. -/
import Derived.Test.YthghggnlfnbbgabDoorVarIn
import Derived.Test.YthghggnlfnbbgabDoorIntLaw
import Derived.Test.YthghggnlfnbbgabDoorHasL
import Derived.Test.YthghggnlfnbbgabDoorKeep
namespace Go.Proofs.YthghggnlfnbbgabDoor.AtmVars
open Go.RowKit
open Go.Proofs.YthghggnlfnbbgabDoor.Num Go.Proofs.YthghggnlfnbbgabDoor.IntRow Go.Proofs.YthghggnlfnbbgabDoor.IntLaw Go.Proofs.YthghggnlfnbbgabDoor.Rdr Go.Proofs.YthghggnlfnbbgabDoor.Dat Go.Proofs.YthghggnlfnbbgabDoor.HasL Go.Proofs.YthghggnlfnbbgabDoor.VarIn
set_option linter.unusedVariables false

/-- The variables below m that occur. -/
def avs (xs : List Int) : Nat → List Int
  | 0 => []
  | m + 1 => if (m : Int) ∈ xs then avs xs m ++ [(m : Int)] else avs xs m
theorem avs_yes {xs : List Int} {m : Nat} (h : decide ((m : Int) ∈ xs) = true) : avs xs (m + 1) = avs xs m ++ [(m : Int)] := by rw [avs, if_pos (by simpa using h)]
theorem avs_no {xs : List Int} {m : Nat} (h : decide ((m : Int) ∈ xs) = false) : avs xs (m + 1) = avs xs m := by rw [avs, if_neg (by simpa using h)]
theorem avs_len (xs : List Int) (m : Nat) : (avs xs m).length ≤ m := by
  induction m with
  | zero => exact Nat.le_refl _
  | succ m ih =>
    rw [avs]
    by_cases h : (m : Int) ∈ xs
    · rw [if_pos h]; simp; exact ih
    · rw [if_neg h]; omega
theorem own_lit (w : World) (base : Nat) (e : TypeId) (hb : base ≤ w.heap.size) : Own (w.alloc (.cells #[] e)) base e (.slice (some ⟨w.heap.size, 0, none⟩) 0 0) [] :=
  World.ownsRow_made w #[] 0 hb (by decide) (by decide)
def Vrs (xs : List Int) (w : World) (e : Ending) (w' : World) : Prop := ∃ a cap, e = .returned (.slice a (avs xs 5).length cap) ∧ Own w' w.heap.size 3 (.slice a (avs xs 5).length cap) (avs xs 5) ∧ Below w.heap.size w w'

end Go.Proofs.YthghggnlfnbbgabDoor.AtmVars
