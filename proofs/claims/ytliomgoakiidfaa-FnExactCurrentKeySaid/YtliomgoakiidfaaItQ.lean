/- Iterators of tries, plain: the path, the end, the current key. -/
import Derived.Test.YtliomgoakiidfaaItV
namespace Go.Proofs.Ytliomgoakiidfaa.ItQ
open Go.Proofs.Ytliomgoakiidfaa.Vals Go.Proofs.Ytliomgoakiidfaa.Asc Go.Proofs.Ytliomgoakiidfaa.ItP Go.Proofs.Ytliomgoakiidfaa.ItV
set_option linter.unusedVariables false
set_option linter.unusedSimpArgs false

def lvk (H P : List Int) (k : Nat) : Bool := decide (at0 P k < at0 H k)
def kAt (xss : List (List Int)) (P : List Int) (k : Nat) : Int := key xss k (at0 P k).toNat
def pth (xss : List (List Int)) (H P : List Int) (k : Nat) : List Int := ((List.range k).filter (lvk H P)).map (kAt xss P)
theorem pth_zero (xss : List (List Int)) (H P : List Int) : pth xss H P 0 = [] := rfl
theorem pth_yes {xss : List (List Int)} {H P : List Int} {k : Nat} (h : at0 P k < at0 H k) : pth xss H P (k + 1) = pth xss H P k ++ [kAt xss P k] := by
  unfold pth
  rw [List.range_succ, List.filter_append, List.map_append]
  simp [lvk, h]
theorem pth_no {xss : List (List Int)} {H P : List Int} {k : Nat} (h : ¬ at0 P k < at0 H k) : pth xss H P (k + 1) = pth xss H P k := by
  unfold pth
  rw [List.range_succ, List.filter_append, List.map_append]
  simp [lvk, h]
theorem pth_len (xss : List (List Int)) (H P : List Int) (k : Nat) : (pth xss H P k).length ≤ k := by
  unfold pth
  rw [List.length_map]
  have := List.length_filter_le (lvk H P) (List.range k)
  rwa [List.length_range] at this
theorem pth_full {xss : List (List Int)} {H P : List Int} : ∀ {k : Nat}, (∀ j, j < k → at0 P j < at0 H j) → (pth xss H P k).length = k
  | 0, _ => rfl
  | k + 1, h => by
    rw [pth_yes (h k (by omega)), List.length_append, pth_full (fun j hj => h j (by omega))]
    rfl
def pathN (n : Int) (xss : List (List Int)) (L H P : List Int) : List Int := if vit n xss L H P = true then pth xss H P P.length else []
theorem path_yes {n : Int} {xss : List (List Int)} {L H P : List Int} (h : vit n xss L H P = true) : pathN n xss L H P = pth xss H P P.length := if_pos h
theorem path_no {n : Int} {xss : List (List Int)} {L H P : List Int} (h : vit n xss L H P = false) : pathN n xss L H P = [] := if_neg (by simp [h])
theorem path_len (n : Int) (xss : List (List Int)) (L H P : List Int) : (pathN n xss L H P).length ≤ P.length := by
  unfold pathN; split
  · exact pth_len _ _ _ _
  · exact Nat.zero_le _
/-- A level of a valid iterator. -/
theorem vit_lv {n : Int} {xss : List (List Int)} {L H P : List Int} (h : vit n xss L H P = true) : L.length = P.length ∧ H.length = P.length ∧ ∃ m : Nat, n = (m : Int) ∧ Tr m xss ∧ P.length ≤ m ∧ Lv xss L H P P.length ∧ ∀ k, k < P.length → ∃ lo pp e : Nat, at0 P k = (pp : Int) ∧ at0 H k = (e : Int) ∧ lo ≤ pp ∧ pp ≤ e ∧ e ≤ xss.length ∧ (pp = e → k + 1 = P.length) ∧ Mono xss k lo e ∧ (∀ i (hi : i < xss.length), k < xss[i].length) := by
  obtain ⟨h1, h2, h3⟩ := vit_parts h
  obtain ⟨a1, a2, a3⟩ := lens_iff.1 h1
  obtain ⟨m, hm, ht⟩ := tr_of h2
  refine ⟨a1, a2, m, hm, ht, by omega, h3, fun k hk => ?_⟩
  obtain ⟨_, g, hmo, hr⟩ := lv_ready ht a1 a2 (by omega) hk (fun j hj => h3 j (by omega))
  obtain ⟨b1, b2, b3, b4, b5, _⟩ := lv_parts (h3 k hk)
  have htop := g.top
  refine ⟨(rgL xss H P k).1, (at0 P k).toNat, (rgL xss H P k).2, by omega, b2, by omega, by omega, htop, fun e => b5 (by omega), hmo, hr⟩
def aend (n : Int) (xss : List (List Int)) (L H P : List Int) : Bool := vit n xss L H P && decide (0 < P.length) && decide (at0 P (P.length - 1) = at0 H (P.length - 1))
theorem aend_no {n : Int} {xss : List (List Int)} {L H P : List Int} (h : vit n xss L H P = false) : aend n xss L H P = false := by simp [aend, h]
theorem aend_nil {n : Int} {xss : List (List Int)} {L H P : List Int} (h : P.length = 0) : aend n xss L H P = false := by simp [aend, h]
theorem aend_yes {n : Int} {xss : List (List Int)} {L H P : List Int} (h : vit n xss L H P = true) (h0 : 0 < P.length) : aend n xss L H P = decide (at0 P (P.length - 1) = at0 H (P.length - 1)) := by simp [aend, h, h0]
/-- A valid iterator's path is shorter than its levels exactly at its end. -/
theorem path_end {n : Int} {xss : List (List Int)} {L H P : List Int} (h : vit n xss L H P = true) : decide ((pathN n xss L H P).length < P.length) = aend n xss L H P := by
  obtain ⟨_, _, m, _, _, _, _, hl⟩ := vit_lv h
  rw [path_yes h]
  by_cases h0 : P.length = 0
  · rw [aend_nil h0, h0]; simp
  · rw [aend_yes h (by omega)]
    have hf : ∀ j, j < P.length - 1 → at0 P j < at0 H j := fun j hj => by
      obtain ⟨lo, pp, e, e1, e2, e3, e4, e5, e6, _⟩ := hl j (by omega)
      have : pp ≠ e := fun e => by have := e6 e; omega
      omega
    obtain ⟨lo, pp, e, e1, e2, e3, e4, e5, e6, _⟩ := hl (P.length - 1) (by omega)
    have hp : pth xss H P P.length = pth xss H P (P.length - 1 + 1) := by congr 1; omega
    have hfl := pth_full (xss := xss) hf
    rw [hp]
    by_cases hc : at0 P (P.length - 1) < at0 H (P.length - 1)
    · rw [pth_yes hc, List.length_append, hfl]
      have a1 : ¬ at0 P (P.length - 1) = at0 H (P.length - 1) := by omega
      simp [a1]; omega
    · rw [pth_no hc, hfl]
      have a1 : at0 P (P.length - 1) = at0 H (P.length - 1) := by omega
      simp [a1]; omega
def curOk (n : Int) (xss : List (List Int)) (L H P : List Int) : Bool := vit n xss L H P && decide (0 < P.length) && !aend n xss L H P
def curV (n : Int) (xss : List (List Int)) (L H P : List Int) : Int := if curOk n xss L H P = true then kAt xss P (P.length - 1) else 0
theorem cur_parts {n : Int} {xss : List (List Int)} {L H P : List Int} (h : curOk n xss L H P = true) : vit n xss L H P = true ∧ 0 < P.length ∧ aend n xss L H P = false ∧ at0 P (P.length - 1) < at0 H (P.length - 1) := by
  unfold curOk at h
  simp only [Bool.and_eq_true, decide_eq_true_eq, Bool.not_eq_true'] at h
  obtain ⟨⟨h1, h2⟩, h3⟩ := h
  refine ⟨h1, h2, h3, ?_⟩
  rw [aend_yes h1 h2] at h3
  obtain ⟨_, _, m, _, _, _, _, hl⟩ := vit_lv h1
  obtain ⟨lo, pp, e, e1, e2, e3, e4, _⟩ := hl (P.length - 1) (by omega)
  simp at h3
  omega
/-- The program's test: the path is not empty and as long as the levels. -/
theorem cur_path {n : Int} {xss : List (List Int)} {L H P : List Int} : curOk n xss L H P = (decide (0 < (pathN n xss L H P).length) && decide (P.length ≤ (pathN n xss L H P).length)) := by
  cases hv : vit n xss L H P with
  | false => rw [path_no hv]; simp [curOk, hv]
  | true =>
    have h1 := path_end hv
    have h2 := path_len n xss L H P
    unfold curOk
    rw [hv, ← h1]
    by_cases h3 : (pathN n xss L H P).length < P.length
    · have h4 : ¬ P.length ≤ (pathN n xss L H P).length := by omega
      simp [h3, h4]
    · have h4 : P.length ≤ (pathN n xss L H P).length := by omega
      by_cases h5 : 0 < P.length
      · have h6 : 0 < (pathN n xss L H P).length := by omega
        simp [h3, h4, h5, h6]
      · have h6 : ¬ 0 < (pathN n xss L H P).length := by omega
        simp [h5, h6]
theorem cur_last {n : Int} {xss : List (List Int)} {L H P : List Int} (h : curOk n xss L H P = true) : (pathN n xss L H P).length = P.length ∧ ∃ hl : P.length - 1 < (pathN n xss L H P).length, (pathN n xss L H P)[P.length - 1] = kAt xss P (P.length - 1) := by
  obtain ⟨h1, h2, h3, h4⟩ := cur_parts h
  have h5 := path_end h1
  have h6 := path_len n xss L H P
  rw [h3] at h5
  simp at h5
  have hl : (pathN n xss L H P).length = P.length := by omega
  refine ⟨hl, by omega, ?_⟩
  have hp : pathN n xss L H P = pth xss H P (P.length - 1) ++ [kAt xss P (P.length - 1)] := by
    rw [path_yes h1, ← pth_yes h4]; congr 1; omega
  have hl2 : (pth xss H P (P.length - 1)).length = P.length - 1 := by
    have := congrArg List.length hp
    simp at this
    omega
  simp only [hp]
  rw [List.getElem_append_right (by omega)]
  simp [hl2]
end Go.Proofs.Ytliomgoakiidfaa.ItQ
