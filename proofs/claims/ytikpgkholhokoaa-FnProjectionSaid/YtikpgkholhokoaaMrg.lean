/- Strictly ascending lists of rows: one row more at the end unless it is there, and two lists merged (no program in sight). -/
import Derived.Test.YtikpgkholhokoaaAsc
namespace Go.Proofs.Ytikpgkholhokoaa.Mrg
open Go.Proofs.Ytikpgkholhokoaa.CmpL Go.Proofs.Ytikpgkholhokoaa.Asc
set_option linter.unusedVariables false

theorem cmpL_le_total (x y : List Int) (h : ¬ cmpL x y ≤ 0) : cmpL y x < 0 := by
  rw [cmpL_anti]; omega
theorem cmpL_le_trans {x y z : List Int} (h1 : cmpL x y ≤ 0) (h2 : cmpL y z ≤ 0) : cmpL x z ≤ 0 := by
  rcases (by omega : cmpL x y < 0 ∨ cmpL x y = 0) with h | h
  · rcases (by omega : cmpL y z < 0 ∨ cmpL y z = 0) with k | k
    · exact Int.le_of_lt (cmpL_trans h k)
    · rw [← cmpL_zero k]; omega
  · rw [cmpL_zero h]; exact h2
theorem cmpL_lt_le {x y z : List Int} (h1 : cmpL x y < 0) (h2 : cmpL y z ≤ 0) : cmpL x z < 0 := by
  rcases (by omega : cmpL y z < 0 ∨ cmpL y z = 0) with k | k
  · exact cmpL_trans h1 k
  · rw [← cmpL_zero k]; exact h1
/-- One row more at the end, unless the last is the same. -/
def pushD (out : List (List Int)) (x : List Int) : List (List Int) := if out.getLast? = some x then out else out ++ [x]
theorem pushD_same {out : List (List Int)} {x : List Int} (h : 0 < out.length) (hc : cmpL (out[out.length - 1]'(by omega)) x = 0) : pushD out x = out := by
  unfold pushD
  rw [if_pos]
  rw [List.getLast?_eq_getElem?, List.getElem?_eq_getElem (by omega), cmpL_zero hc]
theorem pushD_new {out : List (List Int)} {x : List Int} (h : 0 < out.length) (hc : cmpL (out[out.length - 1]'(by omega)) x ≠ 0) : pushD out x = out ++ [x] := by
  unfold pushD
  rw [if_neg]
  rw [List.getLast?_eq_getElem?, List.getElem?_eq_getElem (by omega)]
  intro e
  have e2 := Option.some.inj e
  rw [e2, cmpL_self] at hc
  exact hc rfl
theorem pushD_nil (x : List Int) : pushD [] x = [x] := rfl
theorem pushD_mem {out : List (List Int)} {x z : List Int} : z ∈ pushD out x ↔ z ∈ out ∨ z = x := by
  unfold pushD
  split
  · rename_i h
    have hm : x ∈ out := List.mem_of_getLast? h
    constructor
    · exact fun h => .inl h
    · rintro (h | rfl)
      · exact h
      · exact hm
  · simp
theorem pushD_len (out : List (List Int)) (x : List Int) : (pushD out x).length ≤ out.length + 1 := by
  unfold pushD
  split <;> simp
theorem pushD_asc {out : List (List Int)} {x : List Int} (h : Asc out) (hx : ∀ o ∈ out, cmpL o x ≤ 0) : Asc (pushD out x) := by
  unfold pushD
  split
  · exact h
  · rename_i hne
    refine h.append (Asc.cons (by simp) Asc.nil) (fun a ha b hb => ?_)
    simp at hb
    subst hb
    rcases (by have := hx a ha; omega : cmpL a b < 0 ∨ cmpL a b = 0) with e | e
    · exact e
    · exfalso
      have e2 := cmpL_zero e
      subst e2
      obtain ⟨i, hi, rfl⟩ := List.getElem_of_mem ha
      rcases (by omega : i = out.length - 1 ∨ i < out.length - 1) with e3 | e3
      · apply hne
        rw [List.getLast?_eq_getElem?, List.getElem?_eq_getElem (by omega)]
        simp only [e3]
      · have h1 := h.lt hi (show out.length - 1 < out.length by omega) e3
        have h2 := hx _ (List.getElem_mem (show out.length - 1 < out.length by omega))
        have h3 := cmpL_lt_le h1 h2
        rw [cmpL_self] at h3
        omega
/-- Two ascending lists, merged so far. -/
structure Mg (A B out ps qs : List (List Int)) : Prop where
  o : Asc out
  a : Asc ps
  b : Asc qs
  la : ∀ o ∈ out, ∀ r ∈ ps, cmpL o r ≤ 0
  lb : ∀ o ∈ out, ∀ r ∈ qs, cmpL o r ≤ 0
  mem : ∀ x, (x ∈ out ∨ x ∈ ps ∨ x ∈ qs) ↔ (x ∈ A ∨ x ∈ B)
  len : out.length + ps.length + qs.length ≤ A.length + B.length
theorem Mg.start {A B : List (List Int)} (ha : Asc A) (hb : Asc B) : Mg A B [] A B :=
  ⟨Asc.nil, ha, hb, by simp, by simp, by simp, by simp⟩
theorem Mg.takeA {A B out qs ps : List (List Int)} {x : List Int} (h : Mg A B out (x :: ps) qs) (hx : ∀ r ∈ qs, cmpL x r ≤ 0) : Mg A B (pushD out x) ps qs := by
  refine ⟨pushD_asc h.o (fun o ho => h.la o ho x List.mem_cons_self), h.a.tail, h.b, fun o ho r hr => ?_, fun o ho r hr => ?_, fun z => ?_, ?_⟩
  · rcases pushD_mem.1 ho with ho | rfl
    · exact h.la o ho r (List.mem_cons_of_mem _ hr)
    · exact Int.le_of_lt (h.a.head r hr)
  · rcases pushD_mem.1 ho with ho | rfl
    · exact h.lb o ho r hr
    · exact hx r hr
  · rw [← h.mem z, pushD_mem, List.mem_cons]
    constructor
    · rintro ((h | h) | h | h)
      · exact .inl h
      · exact .inr (.inl (.inl h))
      · exact .inr (.inl (.inr h))
      · exact .inr (.inr h)
    · rintro (h | (h | h) | h)
      · exact .inl (.inl h)
      · exact .inl (.inr h)
      · exact .inr (.inl h)
      · exact .inr (.inr h)
  · have h1 := h.len
    have h2 := pushD_len out x
    simp only [List.length_cons] at h1
    omega
theorem Mg.swap {A B out ps qs : List (List Int)} (h : Mg A B out ps qs) : Mg B A out qs ps :=
  ⟨h.o, h.b, h.a, h.lb, h.la, fun x => by rw [or_comm (a := x ∈ qs), or_comm (a := x ∈ B)]; exact h.mem x, by have := h.len; omega⟩
theorem Mg.takeB {A B out ps qs : List (List Int)} {y : List Int} (h : Mg A B out ps (y :: qs)) (hy : ∀ r ∈ ps, cmpL y r ≤ 0) : Mg A B (pushD out y) ps qs := (h.swap.takeA hy).swap
theorem le_all {x y : List Int} {l : List (List Int)} (h : Asc (y :: l)) (hx : cmpL x y ≤ 0) : ∀ r ∈ y :: l, cmpL x r ≤ 0 := fun r hr => by
  rcases List.mem_cons.1 hr with rfl | hr
  · exact hx
  · exact cmpL_le_trans hx (Int.le_of_lt (h.head r hr))
theorem lt_all {x y : List Int} {l : List (List Int)} (h : Asc (x :: l)) (hx : ¬ cmpL x y ≤ 0) : ∀ r ∈ x :: l, cmpL y r ≤ 0 := le_all h (Int.le_of_lt (cmpL_le_total x y hx))
/-- What a sort without repetition makes of rows: ascending, the same rows, no more of them. -/
structure Srt (xss ys : List (List Int)) : Prop where
  asc : Asc ys
  mem : ∀ x, x ∈ ys ↔ x ∈ xss
  len : ys.length ≤ xss.length
theorem Srt.short {xss : List (List Int)} (h : xss.length < 2) : Srt xss xss := by
  refine ⟨?_, fun _ => Iff.rfl, Nat.le_refl _⟩
  match xss, h with
  | [], _ => exact Asc.nil
  | [x], _ => exact Asc.cons (by simp) Asc.nil
theorem Srt.merged {xss A B out : List (List Int)} {m : Nat} (ha : Srt (xss.take m) A) (hb : Srt (xss.drop m) B) (h : Mg A B out [] []) : Srt xss out := by
  refine ⟨h.o, fun x => ?_, ?_⟩
  · have := h.mem x
    simp only [List.not_mem_nil, or_false] at this
    rw [this, ha.mem, hb.mem, ← List.mem_append, List.take_append_drop]
  · have h1 := h.len
    have h2 := ha.len
    have h3 := hb.len
    simp at h1 h2 h3
    omega
theorem Srt.unique {xss ys zs : List (List Int)} (h : Srt xss ys) (k : Srt xss zs) : ys = zs := h.asc.unique k.asc fun x => (h.mem x).trans (k.mem x).symm
end Go.Proofs.Ytikpgkholhokoaa.Mrg
