/- The format of a relation, plain. -/
import Derived.Lib.Join
import Derived.Lib.ItoaNum
import Derived.Test.YtffhfnkcbgbliaaDoorFmtP
import Derived.Test.YtffhfnkcbgbliaaDoorAsc
namespace Go.Proofs.YtffhfnkcbgbliaaDoor.FrelP
open Go.RowKit
open Go.Proofs.YtffhfnkcbgbliaaDoor.Dat Go.Proofs.YtffhfnkcbgbliaaDoor.Vals Go.Proofs.YtffhfnkcbgbliaaDoor.CmpL Go.Proofs.YtffhfnkcbgbliaaDoor.Asc Go.Proofs.YtffhfnkcbgbliaaDoor.FmtP
set_option linter.unusedVariables false

theorem join_snocG (y : List UInt8) (ys : List (List UInt8)) (sep : List UInt8) (h : ys ≠ []) : Lib.join (ys ++ [y]) sep = Lib.join ys sep ++ (sep ++ y) := by
  cases ys with
  | nil => exact absurd rfl h
  | cons z r =>
    rw [List.cons_append, Lib.join_cons, Lib.join_cons]
    simp [Lib.joinTail]
section
variable {α : Type} (f : α → List UInt8) (sep : UInt8)
/-- The formats of the first m, joined. -/
def jg (xs : List α) (m : Nat) : List UInt8 := Lib.join ((xs.take m).map f) [sep]
theorem jg_zero (xs : List α) : jg f sep xs 0 = [] := rfl
theorem jg_one (xs : List α) (h : 0 < xs.length) : jg f sep xs 1 = f xs[0] := by
  unfold jg
  cases xs with
  | nil => simp at h
  | cons u r => simp [Lib.join_one]
theorem jg_step (xs : List α) (k : Nat) (h : k < xs.length) (h0 : 0 < k) : jg f sep xs (k + 1) = jg f sep xs k ++ sep :: f xs[k] := by
  unfold jg
  rw [List.take_succ_eq_append_getElem h, List.map_append, List.map_cons, List.map_nil, join_snocG]
  · rfl
  · intro e
    have h1 := congrArg List.length e
    rw [List.length_map, List.length_take, List.length_nil] at h1
    omega
theorem jg_len (xs : List α) (B : Nat) (hB : ∀ j (h : j < xs.length), (f xs[j]).length ≤ B) (m : Nat) (hm : m ≤ xs.length) : (jg f sep xs m).length ≤ m * (B + 1) := by
  induction m with
  | zero => rw [jg_zero]; simp
  | succ m ih =>
    have hlt : m < xs.length := by omega
    have h1 := hB m hlt
    have h3 := ih (by omega)
    by_cases h0 : m = 0
    · subst h0
      rw [jg_one f sep xs hlt]
      omega
    · rw [jg_step f sep xs m hlt (by omega), List.length_append, List.length_cons, Nat.succ_mul]
      omega
theorem jg_all (xs : List α) : Lib.join ((xs.map fun a => mkB (f a)).map (·.data.toList)) [sep] = jg f sep xs xs.length := by
  unfold jg
  rw [List.take_length, List.map_map]
  congr 1
end
def dz (z : Int) : List UInt8 := Lib.decDigits z.toNat
theorem dz_len {z : Int} (h : z ≤ 99) : (dz z).length ≤ 2 := by
  unfold dz
  have h1 : z.toNat < 100 := by omega
  rw [Lib.decDigits]
  by_cases h2 : z.toNat < 10
  · rw [dif_pos h2]; simp
  · rw [dif_neg h2, Lib.decDigits, dif_pos (by omega)]; simp
theorem itoa_dz {z : Int} (h : 0 ≤ z) : Lib.itoa z = dz z := by
  unfold Lib.itoa dz
  rw [if_neg (by omega)]
def rt (xs : List Int) : List UInt8 := 40 :: (jg dz 44 xs xs.length ++ [41])
theorem rt_len {xs : List Int} (h : xs.length ≤ 5) (hv : ∀ j (h : j < xs.length), 0 ≤ xs[j] ∧ xs[j] ≤ 99) : (rt xs).length ≤ 17 := by
  have := jg_len dz 44 xs 2 (fun j hj => dz_len (hv j hj).2) xs.length (Nat.le_refl _)
  simp [rt]
  omega
def fr (x : RelD) : ByteArray := if vrel x.1 x.2 = true then mkB (dz x.1 ++ 58 :: jg rt 32 x.2 x.2.length) else ⟨#[]⟩
theorem fr_no {x : RelD} (h : vrel x.1 x.2 = false) : fr x = ⟨#[]⟩ := if_neg (by rw [h]; decide)
theorem fr_yes {x : RelD} (h : vrel x.1 x.2 = true) : fr x = mkB (dz x.1 ++ 58 :: jg rt 32 x.2 x.2.length) := if_pos h
theorem vals_at {xs : List Int} (h : vals xs = true) : ∀ j (hj : j < xs.length), 0 ≤ xs[j] ∧ xs[j] ≤ 99 := fun j hj => by
  have := List.all_eq_true.1 h xs[j] (List.getElem_mem hj)
  simpa [okv] using this
theorem rows_at {x : RelD} (h : vrel x.1 x.2 = true) : (0 ≤ x.1 ∧ x.1 ≤ 5) ∧ x.2.length ≤ 4000 ∧ ∀ j (hj : j < x.2.length), x.2[j].length ≤ 5 ∧ ∀ i (hi : i < x.2[j].length), 0 ≤ x.2[j][i] ∧ x.2[j][i] ≤ 99 := by
  obtain ⟨h1, h2, h3, _⟩ := vrel_parts h
  refine ⟨h1, h2, fun j hj => ?_⟩
  obtain ⟨k1, k2⟩ := h3 x.2[j] (List.getElem_mem hj)
  exact ⟨by omega, vals_at k2⟩
end Go.Proofs.YtffhfnkcbgbliaaDoor.FrelP
