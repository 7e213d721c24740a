/- Decimal digits, the least one first: plain lemmas for chapter 3 (no program in sight). -/
import Derived.WalkKit
namespace Go.Proofs.Ytaiimjbdhcjobaa.Dig

/-- The number that digits give; the digits of a number; no digit too large and no 0 at the end. -/
def vl : List Nat → Nat
  | [] => 0
  | d :: l => d + 10 * vl l
def dgf : Nat → Nat → List Nat
  | 0, _ => []
  | f + 1, n => if n = 0 then [] else n % 10 :: dgf f (n / 10)
def dg (n : Nat) : List Nat := dgf n n
def Small (l : List Nat) : Prop := ∀ d ∈ l, d < 10
def Norm (l : List Nat) : Prop := Small l ∧ ∀ h : l ≠ [], l.getLast h ≠ 0

theorem dgf_more (f : Nat) : ∀ n, n ≤ f → dgf f n = dgf n n := by
  induction f using Nat.strongRecOn with
  | _ f ih =>
    intro n hn
    rcases f with _ | f
    · obtain rfl : n = 0 := by omega
      rfl
    · rcases n with _ | n
      · simp [dgf]
      · simp only [dgf]
        rw [ih f (by omega) ((n + 1) / 10) (by omega)]
        by_cases hnf : n = f
        · subst hnf; rw [ih n (by omega) ((n + 1) / 10) (by omega)]
        · rw [ih n (by omega) ((n + 1) / 10) (by omega)]
theorem dg_zero : dg 0 = [] := rfl
theorem dg_pos (n : Nat) (h : 0 < n) : dg n = n % 10 :: dg (n / 10) := by
  rcases n with _ | n
  · omega
  · unfold dg
    simp only [dgf, Nat.add_one_ne_zero, if_false]
    rw [dgf_more n _ (by omega)]

theorem vl_append (a b : List Nat) : vl (a ++ b) = vl a + 10 ^ a.length * vl b := by
  induction a with
  | nil => simp [vl]
  | cons d a ih => simp only [List.cons_append, vl, ih, List.length_cons, Nat.pow_succ]; rw [Nat.mul_add, Nat.add_assoc, Nat.mul_comm (10 ^ a.length) 10, Nat.mul_assoc]
theorem vl_snoc (a : List Nat) (d : Nat) : vl (a ++ [d]) = vl a + 10 ^ a.length * d := by rw [vl_append]; simp [vl]
theorem vl_dg (n : Nat) : vl (dg n) = n := by
  induction n using Nat.strongRecOn with
  | _ n ih =>
    by_cases h : n = 0
    · subst h; rfl
    · rw [dg_pos n (by omega), vl, ih (n / 10) (by omega)]; omega
theorem vl_lt (l : List Nat) (h : Small l) : vl l < 10 ^ l.length := by
  induction l with
  | nil => simp [vl]
  | cons d l ih =>
    have h1 := ih (fun x hx => h x (List.mem_cons_of_mem _ hx))
    have h2 := h d (List.mem_cons_self ..)
    simp only [vl, List.length_cons, Nat.pow_succ]
    omega
theorem small_dg (n : Nat) : Small (dg n) := by
  induction n using Nat.strongRecOn with
  | _ n ih =>
    by_cases h : n = 0
    · subst h; intro d hd; cases hd
    · rw [dg_pos n (by omega)]
      intro d hd
      rcases List.mem_cons.1 hd with rfl | hd
      · omega
      · exact ih (n / 10) (by omega) d hd
theorem dg_nil {n : Nat} : dg n = [] ↔ n = 0 := by
  constructor
  · intro h
    rcases Nat.eq_zero_or_pos n with h0 | h0
    · exact h0
    · rw [dg_pos n h0] at h; cases h
  · rintro rfl; rfl
theorem norm_dg (n : Nat) : Norm (dg n) := by
  refine ⟨small_dg n, ?_⟩
  induction n using Nat.strongRecOn with
  | _ n ih =>
    intro h
    have h0 : 0 < n := by
      rcases Nat.eq_zero_or_pos n with h0 | h0
      · subst h0; exact absurd rfl h
      · exact h0
    have e := dg_pos n h0
    by_cases hq : n / 10 = 0
    · have e2 : dg n = [n % 10] := by rw [e, hq]; rfl
      simp only [e2, List.getLast_singleton]
      omega
    · have hne : dg (n / 10) ≠ [] := fun h => hq (dg_nil.1 h)
      have := ih (n / 10) (by omega) hne
      simp only [e]
      rwa [List.getLast_cons hne]
theorem vl_zero {l : List Nat} (h : Norm l) (h0 : vl l = 0) : l = [] := by
  rcases l with _ | ⟨d, l⟩
  · rfl
  · exfalso
    have key : ∀ l : List Nat, vl l = 0 → ∀ d ∈ l, d = 0 := by
      intro l
      induction l with
      | nil => intro _ d hd; cases hd
      | cons c l ih =>
        intro h d hd
        simp only [vl] at h
        rcases List.mem_cons.1 hd with rfl | hd
        · omega
        · exact ih (by omega) d hd
    exact h.2 (by simp) (key _ h0 _ (List.getLast_mem _))
theorem norm_tail {d : Nat} {l : List Nat} (h : Norm (d :: l)) : Norm l := by
  refine ⟨fun x hx => h.1 x (List.mem_cons_of_mem _ hx), fun hl => ?_⟩
  have := h.2 (by simp)
  rwa [List.getLast_cons hl] at this
theorem dg_vl (l : List Nat) (h : Norm l) : dg (vl l) = l := by
  induction l with
  | nil => rfl
  | cons d l ih =>
    have h2 := h.1 d (List.mem_cons_self ..)
    have h1 := ih (norm_tail h)
    have h0 : 0 < vl (d :: l) := by
      rcases Nat.eq_zero_or_pos (vl (d :: l)) with e | e
      · have := vl_zero h e; cases this
      · exact e
    rw [dg_pos _ h0]
    simp only [vl]
    rw [show (d + 10 * vl l) % 10 = d by omega, show (d + 10 * vl l) / 10 = vl l by omega, h1]
theorem dg_length_le (n k : Nat) (h : n < 10 ^ k) : (dg n).length ≤ k := by
  induction k generalizing n with
  | zero => obtain rfl : n = 0 := by simp at h; exact h
            simp [dg_zero]
  | succ k ih =>
    by_cases h0 : n = 0
    · subst h0; simp [dg_zero]
    · rw [dg_pos n (by omega), List.length_cons]
      have := ih (n / 10) (by rw [Nat.pow_succ] at h; omega)
      omega
theorem dg_length_lt (n k : Nat) (h : (dg n).length ≤ k) : n < 10 ^ k := by
  have := vl_lt (dg n) (small_dg n)
  rw [vl_dg] at this
  exact Nat.lt_of_lt_of_le this (Nat.pow_le_pow_right (by omega) h)

/-- The digits with a carry: one step of both programs. -/
theorem take_zero (D : List Nat) (k : Nat) (hk : k < D.length) (h : D[k] = 0) : vl (D.take (k + 1)) = vl (D.take k) := by
  rw [List.take_succ_eq_append_getElem hk, vl_snoc, h]; simp
theorem take_norm (D : List Nat) (k : Nat) (hs : Small D) (hk : k < D.length) (h : D[k] ≠ 0) : dg (vl (D.take (k + 1))) = D.take (k + 1) := by
  refine dg_vl _ ⟨fun d hd => hs d (List.mem_of_mem_take hd), fun hne => ?_⟩
  have e : (D.take (k + 1)).getLast hne = D[k] := by
    rw [List.getLast_eq_getElem]
    have e3 : min (k + 1) D.length - 1 = k := by omega
    simp [e3]
  rw [e]; exact h

/-- One column raised. -/
def up (S : List Nat) (p v : Nat) : List Nat := S.set p (S.getD p 0 + v)
theorem up_length (S : List Nat) (p v : Nat) : (up S p v).length = S.length := by simp [up]
theorem vl_up (S : List Nat) (p v : Nat) (h : p < S.length) : vl (up S p v) = vl S + 10 ^ p * v := by
  induction S generalizing p with
  | nil => simp at h
  | cons d S ih =>
    rcases p with _ | p
    · simp [up, vl]; omega
    · have := ih p (by simpa using h)
      simp only [up, List.getD_cons_succ, List.set_cons_succ, vl] at this ⊢
      rw [this, Nat.pow_succ, Nat.mul_add, Nat.mul_comm (10 ^ p) 10, Nat.mul_assoc, Nat.add_assoc]
theorem up_le (S : List Nat) (p v B : Nat) (h : ∀ d ∈ S, d ≤ B) : ∀ d ∈ up S p v, d ≤ B + v := by
  intro d hd
  rcases List.mem_or_eq_of_mem_set hd with h1 | h1
  · have := h d h1; omega
  · subst h1
    by_cases hp : p < S.length
    · have := h (S.getD p 0) (by rw [List.getD_eq_getElem?_getD, List.getElem?_eq_getElem hp]; exact List.getElem_mem hp); omega
    · rw [List.getD_eq_getElem?_getD, List.getElem?_eq_none (by omega)]; simp
theorem vl_replicate (n : Nat) : vl (List.replicate n 0) = 0 := by
  induction n with
  | zero => rfl
  | succ n ih => rw [List.replicate_succ, vl, ih]
theorem take_snoc (l : List Nat) (k : Nat) (h : k < l.length) : vl (l.take (k + 1)) = vl (l.take k) + 10 ^ k * l[k] := by
  rw [List.take_succ_eq_append_getElem h, vl_snoc, List.length_take, Nat.min_eq_left (by omega)]
theorem vl_take_all (l : List Nat) (k : Nat) (h : l.length ≤ k) : vl (l.take k) = vl l := by rw [List.take_of_length_le h]
end Go.Proofs.Ytaiimjbdhcjobaa.Dig
