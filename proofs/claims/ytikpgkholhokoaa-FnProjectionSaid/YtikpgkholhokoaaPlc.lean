/- The place of a row in an ascending list of rows, as a function; a row put in and taken out (no program in sight). -/
import Derived.Test.YtikpgkholhokoaaRelPlaceS
namespace Go.Proofs.Ytikpgkholhokoaa.Plc
open Go.Proofs.Ytikpgkholhokoaa.Vals Go.Proofs.Ytikpgkholhokoaa.CmpL Go.Proofs.Ytikpgkholhokoaa.Asc Go.Proofs.Ytikpgkholhokoaa.RelPlaceS
set_option linter.unusedVariables false

def plc (xss : List (List Int)) (r : List Int) : Nat := (xss.takeWhile fun x => decide (cmpL x r < 0)).length
theorem plc_pl : ∀ {xss : List (List Int)} {r : List Int}, Asc xss → Pl xss r (plc xss r)
  | [], r, _ => ⟨Nat.le_refl _, fun j h => by simp at h, fun j h => by simp at h⟩
  | x :: l, r, ha => by
    have ih := plc_pl (r := r) ha.tail
    by_cases hx : cmpL x r < 0
    · have e : plc (x :: l) r = plc l r + 1 := by simp [plc, hx]
      rw [e]
      refine ⟨by have := ih.le; simp; omega, fun j hj hjp => ?_, fun j hj hjp => ?_⟩
      · match j, hj, hjp with
        | 0, _, _ => exact hx
        | j + 1, hj, hjp => exact ih.less j (by simpa using hj) (by omega)
      · match j, hj, hjp with
        | 0, _, hjp => omega
        | j + 1, hj, hjp => exact ih.not j (by simpa using hj) (by omega)
    · have e : plc (x :: l) r = 0 := by simp [plc, hx]
      rw [e]
      refine ⟨Nat.zero_le _, fun j hj hjp => by omega, fun j hj _ hlt => ?_⟩
      match j, hj, hlt with
      | 0, _, hlt => exact hx hlt
      | j + 1, hj, hlt => exact hx (cmpL_trans (ha.head _ (List.getElem_mem (by simpa using hj))) hlt)
/-- The row taken out. -/
def outR (xss : List (List Int)) (r : List Int) : List (List Int) := xss.take (plc xss r) ++ xss.drop (plc xss r + 1)
/-- The row put in. -/
def inR (xss : List (List Int)) (r : List Int) : List (List Int) := xss.take (plc xss r) ++ r :: xss.drop (plc xss r)
def delOk (n : Int) (xss : List (List Int)) (r : List Int) : Bool := vrel n xss && decide (r ∈ xss)
def insOk (n : Int) (xss : List (List Int)) (r : List Int) : Bool := vrel n xss && rowOk n r && !decide (r ∈ xss) && decide (xss.length ≠ 4000)
def delR (n : Int) (xss : List (List Int)) (r : List Int) : List (List Int) := if delOk n xss r then outR xss r else xss
def insR (n : Int) (xss : List (List Int)) (r : List Int) : List (List Int) := if insOk n xss r then inR xss r else xss
end Go.Proofs.Ytikpgkholhokoaa.Plc
