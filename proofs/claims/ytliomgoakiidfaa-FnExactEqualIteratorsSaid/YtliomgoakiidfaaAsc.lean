/- Plain lemmas on the order of rows: sets of rows as ascending lists (no program in sight). -/
import Derived.Test.YtliomgoakiidfaaCmpL
import Derived.Test.YtliomgoakiidfaaVals
namespace Go.Proofs.Ytliomgoakiidfaa.Asc
open Go.Proofs.Ytliomgoakiidfaa.Vals Go.Proofs.Ytliomgoakiidfaa.CmpL
set_option linter.unusedVariables false

theorem cmpL_self : ∀ xs : List Int, cmpL xs xs = 0
  | [] => rfl
  | x :: xs => by rw [cmpL_eq x x xs xs rfl]; exact cmpL_self xs
theorem cmpL_zero : ∀ {xs ys : List Int}, cmpL xs ys = 0 → xs = ys
  | [], [], _ => rfl
  | [], _ :: _, h => by cases h
  | _ :: _, [], h => by cases h
  | x :: xs, y :: ys, h => by
    rcases (by omega : x < y ∨ y < x ∨ x = y) with h1 | h1 | h1
    · rw [cmpL_lt x y xs ys h1] at h; omega
    · rw [cmpL_gt x y xs ys h1] at h; omega
    · rw [cmpL_eq x y xs ys h1] at h; rw [h1, cmpL_zero h]
theorem cmpL_trans : ∀ {xs ys zs : List Int}, cmpL xs ys < 0 → cmpL ys zs < 0 → cmpL xs zs < 0
  | [], [], zs, h, h2 => h2
  | [], _ :: _, [], h, h2 => by simp [cmpL] at h2
  | [], _ :: _, _ :: _, h, h2 => by simp [cmpL]
  | _ :: _, [], zs, h, h2 => by simp [cmpL] at h
  | x :: xs, y :: ys, [], h, h2 => by simp [cmpL] at h2
  | x :: xs, y :: ys, z :: zs, h, h2 => by
    rcases (by omega : x < y ∨ y < x ∨ x = y) with h1 | h1 | h1
    · rcases (by omega : y < z ∨ z < y ∨ y = z) with h3 | h3 | h3
      · rw [cmpL_lt x z xs zs (by omega)]; omega
      · rw [cmpL_gt y z ys zs h3] at h2; omega
      · rw [cmpL_lt x z xs zs (by omega)]; omega
    · rw [cmpL_gt x y xs ys h1] at h; omega
    · rw [cmpL_eq x y xs ys h1] at h
      rcases (by omega : y < z ∨ z < y ∨ y = z) with h3 | h3 | h3
      · rw [cmpL_lt x z xs zs (by omega)]; omega
      · rw [cmpL_gt y z ys zs h3] at h2; omega
      · rw [cmpL_eq y z ys zs h3] at h2
        rw [cmpL_eq x z xs zs (by omega)]; exact cmpL_trans h h2

/-- Strictly ascending rows. -/
def Asc (l : List (List Int)) : Prop := l.Pairwise fun a b => cmpL a b < 0
theorem Asc.nil : Asc [] := List.Pairwise.nil
theorem Asc.tail {a : List Int} {l : List (List Int)} (h : Asc (a :: l)) : Asc l := (List.pairwise_cons.1 h).2
theorem Asc.head {a : List Int} {l : List (List Int)} (h : Asc (a :: l)) : ∀ b ∈ l, cmpL a b < 0 := (List.pairwise_cons.1 h).1
theorem Asc.cons {a : List Int} {l : List (List Int)} (h : ∀ b ∈ l, cmpL a b < 0) (hl : Asc l) : Asc (a :: l) := List.pairwise_cons.2 ⟨h, hl⟩
/-- A set of rows has one ascending list. -/
theorem Asc.unique : ∀ {l m : List (List Int)}, Asc l → Asc m → (∀ x, x ∈ l ↔ x ∈ m) → l = m
  | [], [], _, _, _ => rfl
  | [], b :: m, _, _, h => by have := (h b).2 (by simp); simp at this
  | a :: l, [], _, _, h => by have := (h a).1 (by simp); simp at this
  | a :: l, b :: m, hl, hm, h => by
    have hab : a = b := by
      have h1 := (h a).1 (by simp)
      have h2 := (h b).2 (by simp)
      rcases List.mem_cons.1 h1 with e | e
      · exact e
      · rcases List.mem_cons.1 h2 with e2 | e2
        · exact e2.symm
        · have p := hm.head a e
          have q := hl.head b e2
          have := cmpL_trans p q
          rw [cmpL_self] at this
          omega
    subst hab
    rw [Asc.unique hl.tail hm.tail fun x => ?_]
    have hx := h x
    simp only [List.mem_cons] at hx
    constructor
    · intro hm'
      rcases hx.1 (.inr hm') with e | e
      · subst e; have := hl.head x hm'; rw [cmpL_self] at this; omega
      · exact e
    · intro hm'
      rcases hx.2 (.inr hm') with e | e
      · subst e; have := hm.head x hm'; rw [cmpL_self] at this; omega
      · exact e
/-- Neighbours in order: the whole list is. -/
theorem Asc.of_steps : ∀ {l : List (List Int)}, (∀ j (h : j + 1 < l.length), cmpL l[j] l[j + 1] < 0) → Asc l
  | [], _ => Asc.nil
  | [a], _ => Asc.cons (by simp) Asc.nil
  | a :: b :: l, h => by
    have ht : Asc (b :: l) := Asc.of_steps fun j hj => h (j + 1) (by simpa using hj)
    refine Asc.cons (fun x hx => ?_) ht
    have hab : cmpL a b < 0 := h 0 (by simp)
    rcases List.mem_cons.1 hx with e | e
    · subst e; exact hab
    · exact cmpL_trans hab (ht.head x e)
theorem Asc.steps {l : List (List Int)} (h : Asc l) (j : Nat) (hj : j + 1 < l.length) : cmpL l[j] l[j + 1] < 0 := by
  have := List.pairwise_iff_getElem.1 h j (j + 1) (by omega) hj (by omega)
  exact this
theorem Asc.lt {l : List (List Int)} (h : Asc l) {i j : Nat} (hi : i < l.length) (hj : j < l.length) (hij : i < j) : cmpL l[i] l[j] < 0 := List.pairwise_iff_getElem.1 h i j hi hj hij
instance : DecidablePred Asc := fun l => inferInstanceAs (Decidable (l.Pairwise fun a b => cmpL a b < 0))
theorem Asc.sub {l m : List (List Int)} (h : Asc m) (hs : List.Sublist l m) : Asc l := List.Pairwise.sublist hs h
theorem Asc.append {l m : List (List Int)} (hl : Asc l) (hm : Asc m) (h : ∀ a ∈ l, ∀ b ∈ m, cmpL a b < 0) : Asc (l ++ m) := List.pairwise_append.2 ⟨hl, hm, h⟩

/-- A valid relation: its arity, its rows. -/
def rowOk (n : Int) (xs : List Int) : Bool := decide ((xs.length : Int) = n) && vals xs
def vrel (n : Int) (l : List (List Int)) : Bool := (decide (0 ≤ n) && decide (n ≤ 5)) && decide (l.length ≤ 4000) && l.all (rowOk n) && decide (Asc l)
theorem vrel_parts {n : Int} {l : List (List Int)} (h : vrel n l = true) : (0 ≤ n ∧ n ≤ 5) ∧ l.length ≤ 4000 ∧ (∀ x ∈ l, (x.length : Int) = n ∧ vals x = true) ∧ Asc l := by
  simp only [vrel, Bool.and_eq_true, decide_eq_true_eq, List.all_eq_true, rowOk] at h
  exact ⟨h.1.1.1, h.1.1.2, h.1.2, h.2⟩
theorem vrel_mk {n : Int} {l : List (List Int)} (h1 : 0 ≤ n) (h2 : n ≤ 5) (h3 : l.length ≤ 4000) (h4 : ∀ x ∈ l, (x.length : Int) = n ∧ vals x = true) (h5 : Asc l) : vrel n l = true := by
  simp only [vrel, Bool.and_eq_true, decide_eq_true_eq, List.all_eq_true, rowOk]
  exact ⟨⟨⟨⟨h1, h2⟩, h3⟩, h4⟩, h5⟩
end Go.Proofs.Ytliomgoakiidfaa.Asc
