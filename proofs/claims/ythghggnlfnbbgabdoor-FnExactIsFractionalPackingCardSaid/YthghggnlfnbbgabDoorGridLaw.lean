/- Contracts of the laws' own helpers on grids (rows of rows of ints). -/
import Derived.Test.YthghggnlfnbbgabDoorRows
import Derived.Test.YthghggnlfnbbgabDoorNum
import Derived.Test.YthghggnlfnbbgabDoorIntLaw
import Derived.Test.YthghggnlfnbbgabDoorGrid
import Derived.Test.YthghggnlfnbbgabDoorKept
import Derived.Deep.RegionHeld3
import Derived.Deep.DeepCutAuto
namespace Go.Proofs.YthghggnlfnbbgabDoor.GridLaw
open Go.RowKit
open Go.Proofs.YthghggnlfnbbgabDoor.Num Go.Proofs.YthghggnlfnbbgabDoor.IntRow Go.Proofs.YthghggnlfnbbgabDoor.IntLaw Go.Proofs.YthghggnlfnbbgabDoor.Grid Go.Proofs.YthghggnlfnbbgabDoor.Keep Go.Proofs.YthghggnlfnbbgabDoor.Kept
set_option linter.unusedVariables false

theorem info : (Tryd.prog.info? 23).map (fun i => (i.zero, i.size, i.bytes)) = some (some (.slice none 0 0), 1, 24) := by kernel_rfl

/-- The cells that a grid takes: its headers and its ints. -/
def tot (xss : List (List Int)) : Nat := xss.length + (xss.map List.length).sum
def summed (xss : List (List Int)) (k : Nat) : Nat := ((xss.take k).map List.length).sum
theorem summed_zero (xss : List (List Int)) : summed xss 0 = 0 := rfl
theorem summed_step (xss : List (List Int)) (k : Nat) (h : k < xss.length) : summed xss (k + 1) = summed xss k + xss[k].length := by
  unfold summed
  rw [List.take_succ_eq_append_getElem h, List.map_append, List.sum_append_nat]
  simp
theorem summed_all (xss : List (List Int)) : summed xss xss.length = (xss.map List.length).sum := by simp [summed]
theorem summed_mono (xss : List (List Int)) {i j : Nat} (h : i ≤ j) (hj : j ≤ xss.length) : summed xss i ≤ summed xss j := by
  induction j with
  | zero =>
    have e : i = 0 := by omega
    rw [e]
    exact Nat.le_refl _
  | succ j ih =>
    by_cases e : i = j + 1
    · subst e; exact Nat.le_refl _
    · have := ih (by omega) (by omega)
      have := summed_step xss j (by omega)
      omega
theorem row_le (xss : List (List Int)) (k : Nat) (h : k < xss.length) : xss.length + xss[k].length ≤ tot xss := by
  have h1 := summed_step xss k h
  have h2 := summed_mono xss (show k + 1 ≤ xss.length by omega) (Nat.le_refl _)
  rw [summed_all] at h2
  unfold tot
  omega
theorem tot_len (xss : List (List Int)) : xss.length ≤ tot xss := by unfold tot; omega

theorem sz_int (a : Option Addr) (n cap : Nat) (k r : Int) (w : World) (h0 : 0 ≤ k) (hk : k ≤ 1048576) (hn : n ≤ 9223372036854775807) (hr : (k < (n : Int) ∧ r = -1) ∨ ((n : Int) ≤ k ∧ r = k - n)) :
    Calls Tryd.prog 13 #[.slice a n cap, .int .i64 k] w fun e w' => e = .returned (.int .i64 r) ∧ w = w' := by
  rcases hr with ⟨h, rfl⟩ | ⟨h, rfl⟩
  · have h1 : k - (n : Int) < 0 := by omega
    go_enter Tryd.func13, Tryd.ntmps13
    go_wp2
    go_ret
    exact ⟨rfl, rfl⟩
  · have h1 : ¬ (k - (n : Int) < 0) := by omega
    go_enter Tryd.func13, Tryd.ntmps13
    go_wp2
    go_ret
    exact ⟨rfl, rfl⟩


end Go.Proofs.YthghggnlfnbbgabDoor.GridLaw
