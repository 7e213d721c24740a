/- What a difference leaves of a relation (no program in sight). -/
import Derived.Test.YtnnoicabfpbemaaAsc
import Derived.Test.YtnnoicabfpbemaaRelTot
namespace Go.Proofs.Ytnnoicabfpbemaa.Dif
open Go.Proofs.Ytnnoicabfpbemaa.GridLaw Go.Proofs.Ytnnoicabfpbemaa.Asc Go.Proofs.Ytnnoicabfpbemaa.RelTot
set_option linter.unusedVariables false

def difL (yss xss : List (List Int)) : List (List Int) := xss.filter fun r => !decide (r ∈ yss)
theorem difL_mem {yss xss : List (List Int)} (k : Nat) (hk : k < xss.length) (h : decide (xss[k] ∈ yss) = true) : difL yss (xss.take (k + 1)) = difL yss (xss.take k) := by
  unfold difL
  rw [List.take_succ_eq_append_getElem hk, List.filter_append]
  simp [of_decide_eq_true h]
theorem difL_new {yss xss : List (List Int)} (k : Nat) (hk : k < xss.length) (h : decide (xss[k] ∈ yss) = false) : difL yss (xss.take k) ++ [xss[k]] = difL yss (xss.take (k + 1)) := by
  unfold difL
  rw [List.take_succ_eq_append_getElem hk, List.filter_append]
  simp [of_decide_eq_false h]
theorem difL_len (yss xss : List (List Int)) : (difL yss xss).length ≤ xss.length := List.length_filter_le _ _
def difOk (n m : Int) (xss yss : List (List Int)) : Bool := decide (n = m) && vrel n xss && vrel m yss
def difR (n m : Int) (xss yss : List (List Int)) : List (List Int) := if difOk n m xss yss then difL yss xss else []
def difN (n m : Int) (xss yss : List (List Int)) : Int := if difOk n m xss yss then n else 0
theorem dif_no {n m : Int} {xss yss : List (List Int)} (h : difOk n m xss yss = false) : difR n m xss yss = [] ∧ difN n m xss yss = 0 := by simp [difR, difN, h]
theorem dif_yes {n m : Int} {xss yss : List (List Int)} (h : difOk n m xss yss = true) : difR n m xss yss = difL yss xss ∧ difN n m xss yss = n := by simp [difR, difN, h]
theorem sum_filter (p : List Int → Bool) : ∀ l : List (List Int), ((l.filter p).map List.length).sum ≤ (l.map List.length).sum
  | [] => Nat.le_refl _
  | x :: l => by
    have ih := sum_filter p l
    rw [List.filter_cons]
    split <;> simp <;> omega
theorem tot_dif (n m : Int) (xss yss : List (List Int)) : tot (difR n m xss yss) ≤ tot xss := by
  unfold difR
  split
  · have h1 := difL_len yss xss
    have h2 := sum_filter (fun r => !decide (r ∈ yss)) xss
    unfold tot difL at *
    omega
  · simp [tot]
end Go.Proofs.Ytnnoicabfpbemaa.Dif
