/- Products of powers: the number, and the powers' contracts as one each. -/
import Derived.Test.YtaiimjbdhcjobaaBigPowS
namespace Go.Proofs.Ytaiimjbdhcjobaa.PrdP
open Go.RowKit
open Go.Proofs.Ytaiimjbdhcjobaa.Num Go.Proofs.Ytaiimjbdhcjobaa.IntRow Go.Proofs.Ytaiimjbdhcjobaa.IntLaw Go.Proofs.Ytaiimjbdhcjobaa.Dig Go.Proofs.Ytaiimjbdhcjobaa.BigValid Go.Proofs.Ytaiimjbdhcjobaa.BigFrom Go.Proofs.Ytaiimjbdhcjobaa.BigCols Go.Proofs.Ytaiimjbdhcjobaa.BigPow Go.Proofs.Ytaiimjbdhcjobaa.BigPowS
set_option linter.unusedVariables false

/-- Whether the power is told. -/
def pk (n k : Int) : Bool := decide (0 ≤ n ∧ 0 ≤ k ∧ k ≤ 100) && pb n.toNat k.toNat
/-- The power, 0 where it is not told. -/
def pv (n k : Int) : Nat := if pk n k = true then n.toNat ^ k.toNat else 0
theorem pk_nat (b k : Nat) (hk : k ≤ 100) : pk b k = pb b k := by
  unfold pk
  rw [decide_eq_true (show (0 : Int) ≤ b ∧ (0 : Int) ≤ k ∧ (k : Int) ≤ 100 by omega), Bool.true_and]
  rfl
theorem pv_nat (b k : Nat) (hk : k ≤ 100) : ci (dg (pv b k)) = px b k := by
  unfold pv px
  rw [pk_nat b k hk]
  split
  · rfl
  · rfl
theorem pk_no {n k : Int} (h : n < 0 ∨ k < 0 ∨ 100 < k) : pk n k = false := by
  unfold pk
  rw [decide_eq_false (show ¬ (0 ≤ n ∧ 0 ≤ k ∧ k ≤ 100) by omega), Bool.false_and]
theorem pv_no {n k : Int} (h : pk n k = false) : pv n k = 0 := by
  unfold pv
  rw [h]; rfl
theorem pv_len (n k : Int) : (dg (pv n k)).length ≤ 60 := by
  cases h : pk n k with
  | false => rw [pv_no h, dg_zero]; exact Nat.zero_le _
  | true =>
    unfold pk at h
    rw [Bool.and_eq_true, decide_eq_true_eq] at h
    unfold pv pk
    rw [h.2, decide_eq_true h.1]
    exact pb_at h.2 (Nat.le_refl _)

def Pwd (n k : Int) (w : World) (e : Ending) (w' : World) : Prop := ∃ a cap, e = .returned (.tuple #[.agg #[.slice a (ci (dg (pv n k))).length cap], .bool (pk n k)]) ∧ Own w' w.heap.size 3 (.slice a (ci (dg (pv n k))).length cap) (ci (dg (pv n k))) ∧ Below w.heap.size w w'
theorem pwd_no {n k : Int} {w w' : World} (h : n < 0 ∨ k < 0 ∨ 100 < k) (hb : Below w.heap.size w w') : Pwd n k w (.returned (.tuple #[.agg #[.slice none 0 0], .bool false])) w' := by
  have e1 := pk_no h
  have e2 := pv_no e1
  refine ⟨none, 0, ?_, ?_, hb⟩
  · rw [e1, e2]; rfl
  · rw [e2]; exact Own.nil _ _ _
theorem impl_pow (n k : Int) (w : World) (hn : n ≤ 9223372036854775807) :
    Calls Try.prog 94 #[.int .i64 n, .int .i64 k] w (Pwd n k w) := by
  by_cases h : n < 0 ∨ k < 0 ∨ 100 < k
  · refine (impl_pow_no n k w h).mono ?_
    rintro e w' ⟨rfl, hb⟩
    exact pwd_no h hb
  · obtain ⟨b, rfl⟩ : ∃ b : Nat, n = b := ⟨n.toNat, by omega⟩
    obtain ⟨c, rfl⟩ : ∃ c : Nat, k = c := ⟨k.toNat, by omega⟩
    refine (impl_pow_yes b c w (by omega) (by omega)).mono ?_
    intro e w' H
    unfold Pwd
    rw [pk_nat b c (by omega), pv_nat b c (by omega)]
    exact H
theorem spec_pow (n k : Int) (w : World) (hn : n ≤ 9223372036854775807) :
    Calls Try.prog 101 #[.int .i64 n, .int .i64 k] w (Pwd n k w) := by
  by_cases h : n < 0 ∨ k < 0 ∨ 100 < k
  · refine (spec_pow_no n k w h).mono ?_
    rintro e w' ⟨rfl, hb⟩
    exact pwd_no h hb
  · obtain ⟨b, rfl⟩ : ∃ b : Nat, n = b := ⟨n.toNat, by omega⟩
    obtain ⟨c, rfl⟩ : ∃ c : Nat, k = c := ⟨k.toNat, by omega⟩
    refine (spec_pow_yes b c w (by omega) (by omega)).mono ?_
    intro e w' H
    unfold Pwd
    rw [pk_nat b c (by omega), pv_nat b c (by omega)]
    exact H

/-- The product of the first k powers, where each step is told. -/
def pp (S E : List Int) : Nat → Option Nat
  | 0 => some 1
  | k + 1 => (pp S E k).bind fun p => if (pk (S.getD k 0) (E.getD k 0) && rb (dg (p * pv (S.getD k 0) (E.getD k 0)))) = true then some (p * pv (S.getD k 0) (E.getD k 0)) else none
theorem pp_none {S E : List Int} {k n : Nat} (h : pp S E k = none) (hk : k ≤ n) : pp S E n = none := by
  induction n with
  | zero => have e : k = 0 := by omega
            subst e; exact h
  | succ n ih =>
    by_cases e : k = n + 1
    · subst e; exact h
    · rw [pp, ih (by omega)]; rfl
theorem pp_step {S E : List Int} {k p : Nat} (h : pp S E k = some p) (h1 : k < S.length) (h2 : k < E.length) : pp S E (k + 1) = if (pk S[k] E[k] && rb (dg (p * pv S[k] E[k]))) = true then some (p * pv S[k] E[k]) else none := by
  rw [pp, h, List.getD_eq_getElem?_getD, List.getD_eq_getElem?_getD, List.getElem?_eq_getElem h1, List.getElem?_eq_getElem h2]; rfl
theorem pp_len {S E : List Int} {k p : Nat} (h : pp S E k = some p) : (dg p).length ≤ 60 := by
  cases k with
  | zero => rw [pp] at h; injection h with h; subst h; exact dg_length_le 1 60 (by omega)
  | succ k =>
    rw [pp] at h
    cases h2 : pp S E k with
    | none => rw [h2] at h; cases h
    | some q =>
      rw [h2] at h
      simp only [Option.bind] at h
      split at h
      · rename_i hc
        injection h with h
        subst h
        rw [Bool.and_eq_true] at hc
        exact of_decide_eq_true hc.2
      · cases h
/-- The whole product. -/
def prd (S E : List Int) : Option Nat := if S.length = E.length then pp S E S.length else none
def prX (S E : List Int) : List Int := ((prd S E).map fun p => ci (dg p)).getD []
def prB (S E : List Int) : Bool := (prd S E).isSome
theorem prX_len (S E : List Int) : (prX S E).length ≤ 60 := by
  unfold prX prd
  split
  · cases h : pp S E S.length with
    | none => exact Nat.zero_le _
    | some p => show (ci (dg p)).length ≤ 60; rw [ci_length]; exact pp_len h
  · exact Nat.zero_le _
def Prd (S E : List Int) (w : World) (e : Ending) (w' : World) : Prop := ∃ a cap, e = .returned (.tuple #[.agg #[.slice a (prX S E).length cap], .bool (prB S E)]) ∧ Own w' w.heap.size 3 (.slice a (prX S E).length cap) (prX S E) ∧ Below w.heap.size w w'
theorem prd_no {S E : List Int} {w w' : World} (h : prd S E = none) (hb : Below w.heap.size w w') : Prd S E w (.returned (.tuple #[.agg #[.slice none 0 0], .bool false])) w' := by
  refine ⟨none, 0, ?_, ?_, hb⟩
  · unfold prX prB; rw [h]; rfl
  · unfold prX; rw [h]; exact Own.nil _ _ _
theorem prd_yes {S E : List Int} {w w' : World} {p : Nat} {a : Option Addr} {cap : Nat} (h : prd S E = some p) (ho : Own w' w.heap.size 3 (.slice a (ci (dg p)).length cap) (ci (dg p))) (hb : Below w.heap.size w w') : Prd S E w (.returned (.tuple #[.agg #[.slice a (ci (dg p)).length cap], .bool true])) w' := by
  refine ⟨a, cap, ?_, ?_, hb⟩
  · unfold prX prB; rw [h]; rfl
  · unfold prX; rw [h]; exact ho
end Go.Proofs.Ytaiimjbdhcjobaa.PrdP
