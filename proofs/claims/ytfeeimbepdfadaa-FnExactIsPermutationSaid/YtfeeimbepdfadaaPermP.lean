/- Permutations, plain (no program in sight). -/
import Derived.Test.YtfeeimbepdfadaaVarName
namespace Go.Proofs.Ytfeeimbepdfadaa.PermP
open Go.Proofs.Ytfeeimbepdfadaa.VarName
set_option linter.unusedVariables false

def fitP (cs : List Int) (i : Nat) : Bool := isv (cs.getD i 0) (cs.length : Int) && !decide (cs.getD i 0 ∈ cs.take i)
def permOk (cs : List Int) : Bool := ((List.range cs.length).all (fitP cs)) && decide (cs.length ≤ 5)
theorem fit_at {cs : List Int} (i : Nat) (h : i < cs.length) : fitP cs i = (isv cs[i] (cs.length : Int) && !decide (cs[i] ∈ cs.take i)) := by
  unfold fitP
  rw [List.getD_eq_getElem?_getD, List.getElem?_eq_getElem h]
  rfl
theorem perm_bad {cs : List Int} (i : Nat) (h : i < cs.length) (hb : fitP cs i = false) : permOk cs = false := by
  unfold permOk
  have : (List.range cs.length).all (fitP cs) = false := by
    rw [List.all_eq_false]
    exact ⟨i, by simpa using h, by simp [hb]⟩
  rw [this]; rfl
theorem perm_long {cs : List Int} (h : 5 < cs.length) : permOk cs = false := by
  unfold permOk
  rw [show decide (cs.length ≤ 5) = false by simp; omega, Bool.and_false]
theorem perm_end {cs : List Int} (h : ∀ i, i < cs.length → fitP cs i = true) : permOk cs = decide (cs.length ≤ 5) := by
  unfold permOk
  rw [show (List.range cs.length).all (fitP cs) = true by rw [List.all_eq_true]; intro i hi; exact h i (by simpa using hi), Bool.true_and]
theorem perm_parts {cs : List Int} (h : permOk cs = true) : cs.length ≤ 5 ∧ cs.Nodup ∧ ∀ v ∈ cs, 0 ≤ v ∧ v < (cs.length : Int) := by
  simp only [permOk, Bool.and_eq_true, decide_eq_true_eq, List.all_eq_true, List.mem_range] at h
  obtain ⟨h1, h2⟩ := h
  refine ⟨h2, ?_, fun v hv => ?_⟩
  · unfold List.Nodup
    rw [List.pairwise_iff_getElem]
    intro i j hi hj hij e
    have := h1 j hj
    rw [fit_at j hj] at this
    simp only [Bool.and_eq_true, Bool.not_eq_true', decide_eq_false_iff_not] at this
    apply this.2
    rw [← e]
    exact List.mem_iff_getElem.2 ⟨i, by simp; omega, by rw [List.getElem_take]⟩
  · obtain ⟨i, hi, rfl⟩ := List.getElem_of_mem hv
    have := h1 i hi
    rw [fit_at i hi] at this
    simp only [Bool.and_eq_true] at this
    exact isv_iff.1 this.1
theorem perm_mk {cs : List Int} (h5 : cs.length ≤ 5) (hn : cs.Nodup) (hv : ∀ v ∈ cs, 0 ≤ v ∧ v < (cs.length : Int)) : permOk cs = true := by
  rw [perm_end, decide_eq_true h5]
  intro i hi
  rw [fit_at i hi]
  have h1 := hv _ (List.getElem_mem hi)
  rw [isv_iff.2 h1, Bool.true_and]
  simp only [Bool.not_eq_true', decide_eq_false_iff_not]
  intro hm
  obtain ⟨j, hj, e⟩ := List.getElem_of_mem hm
  rw [List.getElem_take] at e
  have hj' : j < i := by simp at hj; omega
  exact (List.pairwise_iff_getElem.1 hn) j i (by omega) hi hj' e

def srt (cs : List Int) : List Int := cs.mergeSort fun x y => decide (x ≤ y)
theorem srt_perm (cs : List Int) : (srt cs).Perm cs := List.mergeSort_perm _ _
theorem srt_len (cs : List Int) : (srt cs).length = cs.length := (srt_perm cs).length_eq
theorem srt_asc (cs : List Int) : (srt cs).Pairwise (fun x y => x ≤ y) := by
  have := List.pairwise_mergeSort (le := fun (x y : Int) => decide (x ≤ y)) (fun a b c h1 h2 => by simp at *; omega) (fun a b => by simp; omega) cs
  exact this.imp (by intro a b h; simpa using h)
/-- Sorted, each number stands at its own index just where the list is a permutation. -/
theorem perm_yes {cs : List Int} (h5 : cs.length ≤ 5) (h : ∀ i (hi : i < (srt cs).length), (srt cs)[i] = (i : Int)) : permOk cs = true := by
  have hp := srt_perm cs
  refine perm_mk h5 ?_ (fun v hv => ?_)
  · refine hp.nodup_iff.1 ?_
    unfold List.Nodup
    rw [List.pairwise_iff_getElem]
    intro i j hi hj hij e
    rw [h i hi, h j hj] at e
    omega
  · obtain ⟨i, hi, e⟩ := List.getElem_of_mem (hp.mem_iff.2 hv)
    have h1 := srt_len cs
    rw [h i hi] at e
    omega
theorem asc_step {ss : List Int} (ha : ss.Pairwise (fun x y => x ≤ y)) (hn : ss.Nodup) : ∀ (d i : Nat) (h : i + d < ss.length), ss[i] + d ≤ ss[i + d]
  | 0, i, h => by simp
  | d + 1, i, h => by
    have ih := asc_step ha hn d i (by omega)
    have h1 := (List.pairwise_iff_getElem.1 ha) (i + d) (i + (d + 1)) (by omega) h (by omega)
    have h2 := (List.pairwise_iff_getElem.1 hn) (i + d) (i + (d + 1)) (by omega) h (by omega)
    omega
theorem perm_srt {cs : List Int} (h : permOk cs = true) (i : Nat) (hi : i < (srt cs).length) : (srt cs)[i] = (i : Int) := by
  obtain ⟨h5, hn, hv⟩ := perm_parts h
  have hp := srt_perm cs
  have hl := srt_len cs
  have hn' : (srt cs).Nodup := hp.nodup_iff.2 hn
  have ha := srt_asc cs
  have h0 := asc_step ha hn' i 0 (by omega)
  have h1 := asc_step ha hn' ((srt cs).length - 1 - i) i (by omega)
  have e0 := hv _ (hp.mem_iff.1 (List.getElem_mem (show 0 < (srt cs).length by omega)))
  have e1 := hv _ (hp.mem_iff.1 (List.getElem_mem (show i + ((srt cs).length - 1 - i) < (srt cs).length by omega)))
  simp only [Nat.zero_add] at h0
  omega
theorem perm_no {cs : List Int} (i : Nat) (hi : i < (srt cs).length) (hne : (srt cs)[i] ≠ (i : Int)) : permOk cs = false := by
  cases h : permOk cs with
  | false => rfl
  | true => exact absurd (perm_srt h i hi) hne
end Go.Proofs.Ytfeeimbepdfadaa.PermP
