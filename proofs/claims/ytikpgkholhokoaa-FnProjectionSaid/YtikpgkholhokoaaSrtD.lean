/- The ascending list of a list of rows, each row once; what NewRelation answers (no program in sight). -/
import Derived.Test.YtikpgkholhokoaaMrg
import Derived.Test.YtikpgkholhokoaaRelTot
namespace Go.Proofs.Ytikpgkholhokoaa.SrtD
open Go.Proofs.Ytikpgkholhokoaa.CmpL Go.Proofs.Ytikpgkholhokoaa.Asc Go.Proofs.Ytikpgkholhokoaa.Mrg Go.Proofs.Ytikpgkholhokoaa.GridLaw Go.Proofs.Ytikpgkholhokoaa.RelTot
set_option linter.unusedVariables false

def ins (x : List Int) : List (List Int) → List (List Int)
  | [] => [x]
  | y :: l => if cmpL x y < 0 then x :: y :: l else if cmpL x y = 0 then y :: l else y :: ins x l
theorem ins_mem (x z : List Int) : ∀ l, z ∈ ins x l ↔ z = x ∨ z ∈ l
  | [] => by simp [ins]
  | y :: l => by
    unfold ins
    split
    · simp
    · split
      · rename_i h
        rw [cmpL_zero h]
        simp
      · rw [List.mem_cons, ins_mem x z l, List.mem_cons]
        constructor
        · rintro (h | h | h)
          · exact .inr (.inl h)
          · exact .inl h
          · exact .inr (.inr h)
        · rintro (h | h | h)
          · exact .inr (.inl h)
          · exact .inl h
          · exact .inr (.inr h)
theorem ins_len (x : List Int) : ∀ l, (ins x l).length ≤ l.length + 1
  | [] => by simp [ins]
  | y :: l => by
    have := ins_len x l
    unfold ins
    split
    · simp
    · split
      · simp
      · simp; omega
theorem ins_asc (x : List Int) : ∀ {l}, Asc l → Asc (ins x l)
  | [], _ => Asc.cons (by simp) Asc.nil
  | y :: l, h => by
    unfold ins
    split
    · rename_i hx
      exact Asc.cons (fun b hb => by
        rcases List.mem_cons.1 hb with rfl | hb
        · exact hx
        · exact cmpL_trans hx (h.head b hb)) h
    · split
      · exact h
      · rename_i h1 h2
        refine Asc.cons (fun b hb => ?_) (ins_asc x h.tail)
        rcases (ins_mem x b l).1 hb with rfl | hb
        · rw [cmpL_anti]; omega
        · exact h.head b hb
def sortD (xss : List (List Int)) : List (List Int) := xss.foldr ins []
theorem sortD_srt : ∀ xss, Srt xss (sortD xss)
  | [] => ⟨Asc.nil, fun x => Iff.rfl, Nat.le_refl _⟩
  | x :: l => by
    have ih := sortD_srt l
    refine ⟨ins_asc x ih.asc, fun z => ?_, ?_⟩
    · show z ∈ ins x (sortD l) ↔ _
      rw [ins_mem, ih.mem, List.mem_cons]
    · show (ins x (sortD l)).length ≤ _
      have h1 := ins_len x (sortD l)
      have h2 := ih.len
      simp only [List.length_cons]
      omega
theorem srt_eq {xss ys : List (List Int)} (h : Srt xss ys) : ys = sortD xss := h.unique (sortD_srt xss)
def newOk (n : Int) (xss : List (List Int)) : Bool := vrel n (sortD xss)
def newR (n : Int) (xss : List (List Int)) : List (List Int) := if newOk n xss then sortD xss else []
def newN (n : Int) (xss : List (List Int)) : Int := if newOk n xss then n else 0
theorem new_no {n : Int} {xss : List (List Int)} (h : newOk n xss = false) : newR n xss = [] ∧ newN n xss = 0 := by simp [newR, newN, h]
theorem new_yes {n : Int} {xss : List (List Int)} (h : newOk n xss = true) : newR n xss = sortD xss ∧ newN n xss = n := by simp [newR, newN, h]
theorem new_row {n : Int} {xss : List (List Int)} (k : Nat) (hk : k < xss.length) (h : rowOk n xss[k] = false) : newOk n xss = false := by
  cases hv : newOk n xss with
  | false => rfl
  | true =>
    obtain ⟨_, _, h3, _⟩ := vrel_parts hv
    have h4 := h3 xss[k] (((sortD_srt xss).mem _).2 (List.getElem_mem hk))
    rw [show rowOk n xss[k] = true by simp [rowOk, h4.1, h4.2]] at h
    cases h
theorem tot_new (n : Int) (xss : List (List Int)) : tot (newR n xss) ≤ 24000 := by
  cases h : newOk n xss with
  | false => rw [(new_no h).1]; simp [tot]
  | true => rw [(new_yes h).1]; exact tot_rel h
theorem sum_mem : ∀ {l : List (List Int)} {x : List Int}, x ∈ l → x.length ≤ (l.map List.length).sum
  | y :: l, x, h => by
    rcases List.mem_cons.1 h with rfl | h
    · simp
    · have := sum_mem h
      simp
      omega
theorem sum_asc : ∀ {l : List (List Int)} {xss : List (List Int)}, Asc l → (∀ x ∈ l, x ∈ xss) → (l.map List.length).sum ≤ (xss.map List.length).sum
  | [], _, _, _ => by simp
  | x :: l, xss, ha, hm => by
    obtain ⟨s, t, rfl⟩ := List.append_of_mem (hm x List.mem_cons_self)
    have ih := sum_asc (l := l) (xss := s ++ t) ha.tail (fun z hz => by
      have h1 := hm z (List.mem_cons_of_mem _ hz)
      have h2 : z ≠ x := fun e => by
        have := ha.head z hz
        rw [e, cmpL_self] at this
        omega
      simp only [List.mem_append, List.mem_cons] at h1 ⊢
      rcases h1 with h1 | h1 | h1
      · exact .inl h1
      · exact absurd h1 h2
      · exact .inr h1)
    simp only [List.map_append, List.map_cons, List.sum_append, List.sum_cons] at ih ⊢
    omega
theorem tot_srt {xss ys : List (List Int)} (h : Srt xss ys) : tot ys ≤ tot xss := by
  have h1 := h.len
  have h2 := sum_asc h.asc (fun x hx => (h.mem x).1 hx)
  unfold tot
  omega
end Go.Proofs.Ytikpgkholhokoaa.SrtD
