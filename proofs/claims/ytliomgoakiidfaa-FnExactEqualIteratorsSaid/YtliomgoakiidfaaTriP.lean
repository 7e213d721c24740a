/- Prefixes of ascending rows, plain (no program in sight). -/
import Derived.Test.YtliomgoakiidfaaAsc
namespace Go.Proofs.Ytliomgoakiidfaa.TriP
open Go.Proofs.Ytliomgoakiidfaa.Vals Go.Proofs.Ytliomgoakiidfaa.CmpL Go.Proofs.Ytliomgoakiidfaa.Asc
set_option linter.unusedVariables false

/-- How a row, cut to a prefix's length, stands to the prefix. -/
def pc (p r : List Int) : Int := cmpL (r.take p.length) p
theorem cmpL_take : ∀ (k : Nat) (a b : List Int), cmpL a b ≤ 0 → cmpL (a.take k) (b.take k) ≤ 0
  | 0, a, b, _ => by simp [cmpL]
  | k + 1, [], [], _ => by simp [cmpL]
  | k + 1, [], _ :: _, _ => by simp [cmpL]
  | k + 1, _ :: _, [], h => by simp [cmpL] at h
  | k + 1, x :: a, y :: b, h => by
    rcases (by omega : x < y ∨ y < x ∨ x = y) with h1 | h1 | h1
    · rw [List.take_succ_cons, List.take_succ_cons, cmpL_lt x y _ _ h1]; omega
    · rw [cmpL_gt x y a b h1] at h; omega
    · rw [cmpL_eq x y a b h1] at h
      rw [List.take_succ_cons, List.take_succ_cons, cmpL_eq x y _ _ h1]
      exact cmpL_take k a b h
theorem cmpL_mono : ∀ (a b p : List Int), cmpL a b ≤ 0 → cmpL a p ≤ cmpL b p
  | [], [], p, _ => Int.le_refl _
  | [], y :: b, [], _ => by simp [cmpL]
  | [], y :: b, z :: p, _ => by
    have := cmpL_three (y :: b) (z :: p)
    show (-1 : Int) ≤ _
    omega
  | _ :: _, [], p, h => by simp [cmpL] at h
  | x :: a, y :: b, [], _ => by simp [cmpL]
  | x :: a, y :: b, z :: p, h => by
    have h4 := cmpL_three (y :: b) (z :: p)
    have h5 := cmpL_three (x :: a) (z :: p)
    rcases (by omega : x < y ∨ y < x ∨ x = y) with h1 | h1 | h1
    · rcases (by omega : x < z ∨ z < x ∨ x = z) with h3 | h3 | h3
      · rw [cmpL_lt x z a p h3]; omega
      · rw [cmpL_gt y z b p (by omega)]; omega
      · rw [cmpL_gt y z b p (by omega)]; omega
    · rw [cmpL_gt x y a b h1] at h; omega
    · rw [cmpL_eq x y a b h1] at h
      rcases (by omega : x < z ∨ z < x ∨ x = z) with h3 | h3 | h3
      · rw [cmpL_lt x z a p h3]; omega
      · rw [cmpL_gt y z b p (by omega)]; omega
      · rw [cmpL_eq x z a p h3, cmpL_eq y z b p (by omega)]
        exact cmpL_mono a b p h
theorem pc_mono {l : List (List Int)} (h : Asc l) (p : List Int) {i j : Nat} (hi : i < l.length) (hj : j < l.length) (hij : i ≤ j) : pc p l[i] ≤ pc p l[j] := by
  rcases Nat.lt_or_eq_of_le hij with e | e
  · exact cmpL_mono _ _ _ (cmpL_take _ _ _ (Int.le_of_lt (h.lt hi hj e)))
  · subst e; exact Int.le_refl _
theorem pc_three (p r : List Int) : pc p r = -1 ∨ pc p r = 0 ∨ pc p r = 1 := cmpL_three _ _

/-- Where a count stops. -/
theorem cnt_at {α : Type} (q : α → Bool) : ∀ (l : List α) (k : Nat), k ≤ l.length → (∀ t (h : t < l.length), t < k → q l[t] = true) → (∀ t (h : t < l.length), k ≤ t → q l[t] = false) → l.countP q = k
  | [], k, h, _, _ => by simp at h; subst h; rfl
  | a :: l, 0, _, _, h2 => by
    have ha := h2 0 (by simp) (Nat.le_refl _)
    rw [List.countP_cons_of_neg (by simpa using ha)]
    exact cnt_at q l 0 (Nat.zero_le _) (fun t ht h => absurd h (Nat.not_lt_zero _)) (fun t ht _ => by have := h2 (t + 1) (by simpa using ht) (Nat.zero_le _); simpa using this)
  | a :: l, k + 1, hk, h1, h2 => by
    have ha := h1 0 (by simp) (by omega)
    rw [List.countP_cons_of_pos (by simpa using ha)]
    rw [cnt_at q l k (by simpa using hk) (fun t ht h => by have := h1 (t + 1) (by simpa using ht) (by omega); simpa using this) (fun t ht h => by have := h2 (t + 1) (by simpa using ht) (by omega); simpa using this)]
theorem cnt_range (f : Nat → Bool) (q : List Int → Bool) (l : List (List Int)) (h : ∀ i (hi : i < l.length), f i = q l[i]) : (List.range l.length).countP f = l.countP q := by
  have e : l = (List.range l.length).map (fun i => l[i]?.getD []) := by
    apply List.ext_getElem
    · simp
    · intro i h1 h2
      simp [List.getElem?_eq_getElem h1]
  conv => rhs; rw [e]
  rw [List.countP_map]
  apply List.countP_congr
  intro i hi
  have hi' : i < l.length := by simpa using hi
  simp [h i hi', List.getElem?_eq_getElem hi']

/-- The range of the rows with a prefix. -/
def lowN (xss : List (List Int)) (p : List Int) : Nat := xss.countP (fun r => decide (pc p r < 0))
def highN (xss : List (List Int)) (p : List Int) : Nat := xss.countP (fun r => decide (pc p r < 1))
def rgOk (n : Int) (xss : List (List Int)) (p : List Int) : Bool := vrel n xss && decide ((p.length : Int) ≤ n)
def rlo (n : Int) (xss : List (List Int)) (p : List Int) : Nat := if rgOk n xss p = true then lowN xss p else 0
def rhi (n : Int) (xss : List (List Int)) (p : List Int) : Nat := if rgOk n xss p = true then highN xss p else 0
theorem low_high (xss : List (List Int)) (p : List Int) : lowN xss p ≤ highN xss p := by
  apply List.countP_mono_left
  intro r _ h
  simp only [decide_eq_true_eq] at h ⊢
  omega
theorem high_le (xss : List (List Int)) (p : List Int) : highN xss p ≤ xss.length := List.countP_le_length
theorem rlo_rhi (n : Int) (xss : List (List Int)) (p : List Int) : rlo n xss p ≤ rhi n xss p := by
  unfold rlo rhi; split
  · exact low_high xss p
  · exact Nat.le_refl _
theorem rhi_le (n : Int) (xss : List (List Int)) (p : List Int) : rhi n xss p ≤ xss.length := by
  unfold rhi; split
  · exact high_le xss p
  · exact Nat.zero_le _
/-- A walk that stops at the first row that is not less has found 'low'; on from there, 'high'. -/
theorem low_at {l : List (List Int)} (h : Asc l) (p : List Int) (k : Nat) (hk : k ≤ l.length) (h1 : ∀ t (ht : t < l.length), t < k → pc p l[t] < 0) (h2 : ∀ hl : k < l.length, 0 ≤ pc p l[k]) : lowN l p = k := by
  refine cnt_at _ l k hk (fun t ht htk => by simpa using h1 t ht htk) (fun t ht hkt => ?_)
  have h3 := h2 (by omega)
  have h4 := pc_mono h p (i := k) (j := t) (by omega) ht hkt
  simp; omega
theorem high_at {l : List (List Int)} (h : Asc l) (p : List Int) (k : Nat) (hk : k ≤ l.length) (h1 : ∀ t (ht : t < l.length), t < k → pc p l[t] < 1) (h2 : ∀ hl : k < l.length, 1 ≤ pc p l[k]) : highN l p = k := by
  refine cnt_at _ l k hk (fun t ht htk => by simpa using h1 t ht htk) (fun t ht hkt => ?_)
  have h3 := h2 (by omega)
  have h4 := pc_mono h p (i := k) (j := t) (by omega) ht hkt
  simp; omega

/-- The values behind a prefix, each once. -/
def pushK (out : List Int) (v : Int) : List Int := if out.getLast? = some v then out else out ++ [v]
def kidsOf (n : Int) (xss : List (List Int)) (p : List Int) : List Int :=
  if (p.length : Int) < n then (((xss.take (rhi n xss p)).drop (rlo n xss p)).map (fun r => r[p.length]?.getD 0)) else []
def kids (n : Int) (xss : List (List Int)) (p : List Int) : List Int := (kidsOf n xss p).foldl pushK []
theorem pushK_len (out : List Int) (v : Int) : (pushK out v).length ≤ out.length + 1 := by
  unfold pushK; split <;> simp
theorem foldK_len : ∀ (vs out : List Int), (vs.foldl pushK out).length ≤ out.length + vs.length
  | [], out => by simp
  | v :: vs, out => by
    have h1 := foldK_len vs (pushK out v)
    have h2 := pushK_len out v
    simp only [List.foldl_cons, List.length_cons]
    omega
theorem kidsOf_len (n : Int) (xss : List (List Int)) (p : List Int) : (kidsOf n xss p).length ≤ xss.length := by
  unfold kidsOf; split
  · simp; omega
  · simp
theorem kids_len (n : Int) (xss : List (List Int)) (p : List Int) : (kids n xss p).length ≤ xss.length := by
  have h1 := foldK_len (kidsOf n xss p) []
  have h2 := kidsOf_len n xss p
  unfold kids
  simp at h1
  omega
end Go.Proofs.Ytliomgoakiidfaa.TriP
