/- A list of rows without its repetitions side by side (no program in sight). -/
import Derived.Test.YtikpgkholhokoaaMrg
namespace Go.Proofs.Ytikpgkholhokoaa.Dd
open Go.Proofs.Ytikpgkholhokoaa.CmpL Go.Proofs.Ytikpgkholhokoaa.Asc Go.Proofs.Ytikpgkholhokoaa.Mrg
set_option linter.unusedVariables false

def dd (l : List (List Int)) : List (List Int) := l.foldl pushD []
theorem dd_take {l : List (List Int)} (k : Nat) (hk : k < l.length) : dd (l.take (k + 1)) = pushD (dd (l.take k)) l[k] := by
  unfold dd
  rw [List.take_succ_eq_append_getElem hk, List.foldl_append]
  rfl
theorem pushD_last (out : List (List Int)) (x : List Int) : (pushD out x).getLast? = some x := by
  unfold pushD
  split
  · assumption
  · simp
theorem dd_last {l : List (List Int)} (j : Nat) (hj : j < l.length) : (dd (l.take (j + 1))).getLast? = some l[j] := by
  rw [dd_take j hj]
  exact pushD_last _ _
theorem dd_same {l : List (List Int)} (j : Nat) (hj : j + 1 < l.length) (h : decide (l[j + 1] = l[j]) = true) : dd (l.take (j + 1 + 1)) = dd (l.take (j + 1)) := by
  rw [dd_take (j + 1) hj]
  unfold pushD
  rw [if_pos]
  rw [dd_last j (by omega), of_decide_eq_true h]
theorem dd_new {l : List (List Int)} (j : Nat) (hj : j + 1 < l.length) (h : decide (l[j + 1] = l[j]) = false) : dd (l.take (j + 1 + 1)) = dd (l.take (j + 1)) ++ [l[j + 1]] := by
  rw [dd_take (j + 1) hj]
  unfold pushD
  rw [if_neg]
  rw [dd_last j (by omega)]
  intro e
  exact of_decide_eq_false h (Option.some.inj e).symm
theorem dd_len (l : List (List Int)) : (dd l).length ≤ l.length := by
  have : ∀ (l out : List (List Int)), (l.foldl pushD out).length ≤ out.length + l.length := fun l => by
    induction l with
    | nil => intro out; simp
    | cons x l ih =>
      intro out
      have h1 := ih (pushD out x)
      have h2 := pushD_len out x
      simp only [List.foldl_cons, List.length_cons]
      omega
  simpa [dd] using this l []
theorem dd_one {l : List (List Int)} (h : 0 < l.length) : dd (l.take 1) = l.take 1 := by
  rw [dd_take 0 h]
  match l, h with
  | x :: l, _ => rfl
theorem dd_short {l : List (List Int)} (h : l.length < 2) : dd l = l := by
  match l, h with
  | [], _ => rfl
  | [x], _ => rfl
theorem mem_dd : ∀ (l out : List (List Int)) (z : List Int), z ∈ l.foldl pushD out ↔ z ∈ out ∨ z ∈ l
  | [], out, z => by simp
  | x :: l, out, z => by
    rw [List.foldl_cons, mem_dd l, pushD_mem, List.mem_cons, or_assoc]
theorem asc_dd : ∀ (l out : List (List Int)), Asc out → (∀ o ∈ out, ∀ x ∈ l, cmpL o x ≤ 0) → (l.Pairwise fun x y => ¬ cmpL y x < 0) → Asc (l.foldl pushD out)
  | [], out, h, _, _ => h
  | x :: l, out, h, hx, hw => by
    rw [List.foldl_cons]
    rw [List.pairwise_cons] at hw
    refine asc_dd l _ (pushD_asc h (fun o ho => hx o ho x List.mem_cons_self)) (fun o ho y hy => ?_) hw.2
    rcases pushD_mem.1 ho with ho | rfl
    · exact hx o ho y (List.mem_cons_of_mem _ hy)
    · have h1 := hw.1 y hy
      have h2 := cmpL_anti y o
      omega
/-- Sorted, and then without repetition: the ascending list. -/
theorem srt_dd {xss ys : List (List Int)} (hp : ys.Perm xss) (hw : ys.Pairwise fun x y => ¬ cmpL y x < 0) : Srt xss (dd ys) :=
  ⟨asc_dd ys [] Asc.nil (by simp) hw, fun x => by
    have := mem_dd ys [] x
    simp only [List.not_mem_nil, false_or] at this
    exact this.trans hp.mem_iff, by have := dd_len ys; rw [hp.length_eq] at this; exact this⟩
end Go.Proofs.Ytikpgkholhokoaa.Dd
