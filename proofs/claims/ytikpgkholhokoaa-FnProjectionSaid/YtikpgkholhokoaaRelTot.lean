/- The size of what is taken out of a relation, or put in. -/
import Derived.Test.YtikpgkholhokoaaGridLaw
import Derived.Test.YtikpgkholhokoaaPlc
namespace Go.Proofs.Ytikpgkholhokoaa.RelTot
open Go.Proofs.Ytikpgkholhokoaa.GridLaw Go.Proofs.Ytikpgkholhokoaa.Asc Go.Proofs.Ytikpgkholhokoaa.Plc
set_option linter.unusedVariables false

theorem tot_append (l m : List (List Int)) : tot (l ++ m) = tot l + tot m := by simp [tot]; omega
theorem tot_split (l : List (List Int)) (p : Nat) : tot l = tot (l.take p) + tot (l.drop p) := by rw [← tot_append, List.take_append_drop]
theorem tot_cut (l : List (List Int)) (p q : Nat) (h : p ≤ q) : tot (l.take p ++ l.drop q) ≤ tot l := by
  have h1 := tot_split l p
  have h2 := tot_split (l.drop p) (q - p)
  rw [List.drop_drop, show p + (q - p) = q by omega] at h2
  rw [tot_append]
  omega
theorem tot_del (n : Int) (l : List (List Int)) (r : List Int) : tot (delR n l r) ≤ tot l := by
  unfold delR outR
  split
  · exact tot_cut _ _ _ (Nat.le_succ _)
  · exact Nat.le_refl _
theorem tot_in (l : List (List Int)) (r : List Int) (p : Nat) : tot (l.take p ++ r :: l.drop p) = tot l + 1 + r.length := by
  have h1 := tot_split l p
  have h2 : tot (r :: l.drop p) = tot (l.drop p) + 1 + r.length := by simp [tot]; omega
  rw [tot_append, h2]
  omega
theorem tot_rel {n : Int} {l : List (List Int)} (h : vrel n l = true) : tot l ≤ 24000 := by
  obtain ⟨⟨_, h5⟩, hl, hr, _⟩ := vrel_parts h
  have : ∀ (m : List (List Int)), (∀ x ∈ m, (x.length : Int) = n) → (m.map List.length).sum ≤ 5 * m.length := fun m => by
    induction m with
    | nil => intro _; simp
    | cons x m ih =>
      intro hm
      have h1 := hm x List.mem_cons_self
      have h2 := ih (fun y hy => hm y (List.mem_cons_of_mem _ hy))
      simp only [List.map_cons, List.sum_cons, List.length_cons]
      omega
  have h3 := this l (fun x hx => (hr x hx).1)
  unfold tot
  omega
theorem tot_ins (n : Int) (l : List (List Int)) (r : List Int) (m : Nat) (hm : 24010 ≤ m) (h : tot l ≤ m) : tot (insR n l r) ≤ m := by
  unfold insR inR
  split
  · rename_i ho
    rw [tot_in]
    simp only [insOk, Bool.and_eq_true] at ho
    have h1 := tot_rel ho.1.1.1
    have h2 := ho.1.1.2
    obtain ⟨⟨_, h5⟩, _⟩ := vrel_parts ho.1.1.1
    simp only [rowOk, Bool.and_eq_true, decide_eq_true_eq] at h2
    omega
  · exact h
end Go.Proofs.Ytikpgkholhokoaa.RelTot
