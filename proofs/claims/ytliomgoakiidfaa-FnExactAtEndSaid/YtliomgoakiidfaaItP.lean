/- Iterators of tries, plain: the range of each level, what makes a level valid (no program in sight). -/
import Derived.Test.YtliomgoakiidfaaTriP
namespace Go.Proofs.Ytliomgoakiidfaa.ItP
open Go.Proofs.Ytliomgoakiidfaa.Vals Go.Proofs.Ytliomgoakiidfaa.CmpL Go.Proofs.Ytliomgoakiidfaa.Asc Go.Proofs.Ytliomgoakiidfaa.TriP
set_option linter.unusedVariables false
set_option linter.unusedSimpArgs false

/-- Value k of row r. -/
def key (xss : List (List Int)) (k r : Nat) : Int := (xss[r]?.getD [])[k]?.getD 0
/-- The first row from s on and before e whose value k is no less than v. -/
def sr (xss : List (List Int)) (k s e : Nat) (v : Int) : Nat := s + (List.range (e - s)).countP (fun i => !decide (v ≤ key xss k (s + i)))
def Mono (xss : List (List Int)) (k s e : Nat) : Prop := ∀ i j, s ≤ i → i ≤ j → j < e → key xss k i ≤ key xss k j
theorem Mono.sub {xss : List (List Int)} {k s e s' e' : Nat} (h : Mono xss k s e) (h1 : s ≤ s') (h2 : e' ≤ e) : Mono xss k s' e' := fun i j a b c => h i j (by omega) b (by omega)
theorem sr_eq {xss : List (List Int)} {k s e : Nat} {v : Int} (hm : Mono xss k s e) (t : Nat) (h1 : s ≤ t) (h2 : t ≤ e) (h3 : ∀ i, s ≤ i → i < t → key xss k i < v) (h4 : t < e → v ≤ key xss k t) : sr xss k s e v = t := by
  unfold sr
  rw [cnt_at _ (List.range (e - s)) (t - s) (by simp; omega)]
  · omega
  · intro i hi hit
    have := h3 (s + i) (by omega) (by omega)
    simp; omega
  · intro i hi hti
    simp at hi
    have h5 := h4 (by omega)
    have h6 := hm t (s + i) h1 (by omega) (by omega)
    simp; omega
theorem sr_le (xss : List (List Int)) (k s e : Nat) (v : Int) (h : s ≤ e) : s ≤ sr xss k s e v ∧ sr xss k s e v ≤ e := by
  have := List.countP_le_length (p := fun i => !decide (v ≤ key xss k (s + i))) (l := List.range (e - s))
  rw [List.length_range] at this
  unfold sr
  omega
/-- What 'sr' finds. -/
theorem sr_spec {xss : List (List Int)} {k s e : Nat} {v : Int} (hm : Mono xss k s e) (h : s ≤ e) : (∀ i, s ≤ i → i < sr xss k s e v → key xss k i < v) ∧ (sr xss k s e v < e → v ≤ key xss k (sr xss k s e v)) := by
  have key' : ∀ d, d ≤ e - s → ∃ t, s ≤ t ∧ t ≤ s + d ∧ (∀ i, s ≤ i → i < t → key xss k i < v) ∧ (t < s + d → v ≤ key xss k t) := by
    intro d
    induction d with
    | zero => exact fun _ => ⟨s, by omega, by omega, fun i a b => by omega, fun a => by omega⟩
    | succ d ih =>
      intro hd
      obtain ⟨t, a, b, c, f⟩ := ih (by omega)
      by_cases ht : t < s + d
      · exact ⟨t, a, by omega, c, fun _ => f ht⟩
      · by_cases hv : key xss k t < v
        · refine ⟨t + 1, by omega, by omega, fun i hi hit => ?_, fun x => by omega⟩
          by_cases hi2 : i = t
          · subst hi2; exact hv
          · exact c i hi (by omega)
        · exact ⟨t, a, by omega, c, fun _ => by omega⟩
  obtain ⟨t, a, b, c, f⟩ := key' (e - s) (Nat.le_refl _)
  have he : s + (e - s) = e := by omega
  rw [he] at b f
  have := sr_eq hm t a b c f
  rw [this]
  exact ⟨c, f⟩

/-- The rows agree before column k. -/
def Agree (xss : List (List Int)) (k s e : Nat) : Prop := ∀ i j, s ≤ i → i < e → s ≤ j → j < e → ∀ c, c < k → key xss c i = key xss c j
theorem cmp_col {a b : List Int} (h : cmpL a b < 0) (k : Nat) (ha : k < a.length) (hb : k < b.length) (he : ∀ c, c < k → a[c]?.getD 0 = b[c]?.getD 0) : a[k] ≤ b[k] := by
  have hl : ∀ c, c ≤ k → CLeft a b c := by
    intro c
    induction c with
    | zero => exact fun _ => CLeft.zero a b
    | succ c ih =>
      intro hc
      have := he c (by omega)
      rw [List.getElem?_eq_getElem (by omega : c < a.length), List.getElem?_eq_getElem (by omega : c < b.length)] at this
      exact (ih (by omega)).step (by omega) (by omega) (by simpa using this)
  by_cases h1 : b[k] < a[k]
  · have := (hl k (Nat.le_refl _)).gt ha hb h1
    omega
  · omega
theorem key_at {xss : List (List Int)} {k r : Nat} (hr : r < xss.length) (hk : k < xss[r].length) : key xss k r = xss[r][k] := by
  unfold key
  rw [List.getElem?_eq_getElem hr, Option.getD_some, List.getElem?_eq_getElem hk, Option.getD_some]
theorem mono_of {xss : List (List Int)} (ha : Asc xss) {m k s e : Nat} (hrow : ∀ r (h : r < xss.length), xss[r].length = m) (hk : k < m) (h : Agree xss k s e) (he : e ≤ xss.length) : Mono xss k s e := by
  intro i j h1 h2 h3
  rcases Nat.lt_or_eq_of_le h2 with e1 | e1
  · have hlt := ha.lt (i := i) (j := j) (by omega) (by omega) e1
    have li := hrow i (by omega)
    have lj := hrow j (by omega)
    rw [key_at (by omega : i < xss.length) (by omega), key_at (by omega : j < xss.length) (by omega)]
    refine cmp_col hlt k (by omega) (by omega) (fun c hc => ?_)
    have := h i j h1 (by omega) (by omega) h3 c hc
    unfold key at this
    rw [List.getElem?_eq_getElem (by omega : i < xss.length), List.getElem?_eq_getElem (by omega : j < xss.length)] at this
    exact this
  · subst e1; exact Int.le_refl _

def at0 (l : List Int) (k : Nat) : Int := l[k]?.getD 0
theorem at0_get {l : List Int} {k : Nat} (h : k < l.length) : at0 l k = l[k] := by unfold at0; rw [List.getElem?_eq_getElem h]; rfl
/-- The range of the rows of level k. -/
def rgL (xss : List (List Int)) (H P : List Int) : Nat → Nat × Nat
  | 0 => (0, xss.length)
  | k + 1 => ((at0 P k).toNat, sr xss k (at0 P k).toNat (at0 H k).toNat (key xss k (at0 P k).toNat + 1))
/-- Is level k as it has to be? (The first row of its key: found by a search.) -/
def lvI (xss : List (List Int)) (L H P : List Int) (k : Nat) : Bool :=
  decide (at0 L k = ((rgL xss H P k).1 : Int)) && decide (at0 H k = ((rgL xss H P k).2 : Int)) && decide (((rgL xss H P k).1 : Int) ≤ at0 P k) && decide (at0 P k ≤ ((rgL xss H P k).2 : Int)) &&
  (if at0 P k = ((rgL xss H P k).2 : Int) then decide (k + 1 = P.length) else decide (at0 P k = (sr xss k (rgL xss H P k).1 (rgL xss H P k).2 (key xss k (at0 P k).toNat) : Nat)))
/-- The same, with the first row told by its forerunner. -/
def lvS (xss : List (List Int)) (L H P : List Int) (k : Nat) : Bool :=
  decide (at0 L k = ((rgL xss H P k).1 : Int)) && decide (at0 H k = ((rgL xss H P k).2 : Int)) && decide (((rgL xss H P k).1 : Int) ≤ at0 P k) && decide (at0 P k ≤ ((rgL xss H P k).2 : Int)) &&
  !(decide (at0 P k = ((rgL xss H P k).2 : Int)) && decide (k + 1 < P.length)) &&
  (decide (at0 P k = at0 L k) || (decide (at0 P k < (xss.length : Int)) && decide (key xss k (at0 P k).toNat ≠ key xss k ((at0 P k).toNat - 1))) || decide (at0 P k = at0 H k))
def Lv (xss : List (List Int)) (L H P : List Int) (k : Nat) : Prop := ∀ j, j < k → lvI xss L H P j = true
theorem Lv.zero (xss : List (List Int)) (L H P : List Int) : Lv xss L H P 0 := fun j h => absurd h (Nat.not_lt_zero _)
theorem Lv.step {xss : List (List Int)} {L H P : List Int} {k : Nat} (h : Lv xss L H P k) (hk : lvI xss L H P k = true) : Lv xss L H P (k + 1) := fun j hj => by
  by_cases e : j = k
  · subst e; exact hk
  · exact h j (by omega)
theorem lv_parts {xss : List (List Int)} {L H P : List Int} {k : Nat} (h : lvI xss L H P k = true) : at0 L k = ((rgL xss H P k).1 : Int) ∧ at0 H k = ((rgL xss H P k).2 : Int) ∧ ((rgL xss H P k).1 : Int) ≤ at0 P k ∧ at0 P k ≤ ((rgL xss H P k).2 : Int) ∧ (at0 P k = ((rgL xss H P k).2 : Int) → k + 1 = P.length) ∧ (at0 P k ≠ ((rgL xss H P k).2 : Int) → at0 P k = (sr xss k (rgL xss H P k).1 (rgL xss H P k).2 (key xss k (at0 P k).toNat) : Nat)) := by
  unfold lvI at h
  simp only [Bool.and_eq_true, decide_eq_true_eq] at h
  obtain ⟨⟨⟨⟨h1, h2⟩, h3⟩, h4⟩, h5⟩ := h
  refine ⟨h1, h2, h3, h4, fun e => ?_, fun e => ?_⟩
  · rw [if_pos e] at h5; simpa using h5
  · rw [if_neg e] at h5; simpa using h5
/-- What the levels above give. -/
structure Rg (xss : List (List Int)) (H P : List Int) (k : Nat) : Prop where
  le : (rgL xss H P k).1 ≤ (rgL xss H P k).2
  top : (rgL xss H P k).2 ≤ xss.length
  agree : Agree xss k (rgL xss H P k).1 (rgL xss H P k).2
theorem rg_zero (xss : List (List Int)) (H P : List Int) : Rg xss H P 0 := ⟨Nat.zero_le _, Nat.le_refl _, fun i j _ _ _ _ c hc => absurd hc (Nat.not_lt_zero _)⟩
theorem rg_step {xss : List (List Int)} (ha : Asc xss) {L H P : List Int} {m k : Nat} (hrow : ∀ r (h : r < xss.length), xss[r].length = m) (hk : k < m) (h : Rg xss H P k) (hl : lvI xss L H P k = true) (hne : at0 P k ≠ at0 H k) : Rg xss H P (k + 1) := by
  obtain ⟨h1, h2, h3, h4, _, _⟩ := lv_parts hl
  have hm := mono_of ha hrow hk h.agree h.top
  have hp : (rgL xss H P k).1 ≤ (at0 P k).toNat := by omega
  have hq : (at0 P k).toNat < (rgL xss H P k).2 := by omega
  have hH : (at0 H k).toNat = (rgL xss H P k).2 := by omega
  have hm2 : Mono xss k (at0 P k).toNat (at0 H k).toNat := hm.sub hp (by omega)
  have hs := sr_le xss k (at0 P k).toNat (at0 H k).toNat (key xss k (at0 P k).toNat + 1) (by omega)
  have hsp := sr_spec (v := key xss k (at0 P k).toNat + 1) hm2 (by omega)
  have htop := h.top
  refine ⟨hs.1, by show sr _ _ _ _ _ ≤ _; omega, fun i j a b c d q hq2 => ?_⟩
  change (at0 P k).toNat ≤ i at a
  change i < sr xss k _ _ _ at b
  change (at0 P k).toNat ≤ j at c
  change j < sr xss k _ _ _ at d
  by_cases e : q = k
  · subst e
    have a1 := hsp.1 i a b
    have a2 := hsp.1 j c d
    have a3 := hm2 (at0 P q).toNat i (Nat.le_refl _) a (by omega)
    have a4 := hm2 (at0 P q).toNat j (Nat.le_refl _) c (by omega)
    omega
  · exact h.agree i j (by omega) (by omega) (by omega) (by omega) q (by omega)
/-- All the levels above are valid: the range of this one. -/
theorem rg_all {xss : List (List Int)} (ha : Asc xss) {L H P : List Int} {m : Nat} (hrow : ∀ r (h : r < xss.length), xss[r].length = m) : ∀ k, k ≤ m → Lv xss L H P k → (k = P.length → k ≠ 0 → at0 P (k - 1) ≠ at0 H (k - 1)) → k ≤ P.length → Rg xss H P k
  | 0, _, _, _, _ => rg_zero xss H P
  | k + 1, hk, hl, hne, hp => by
    have h0 := rg_all ha hrow k (by omega) (fun j hj => hl j (by omega)) (fun e => by omega) (by omega)
    obtain ⟨h1, h2, h3, h4, h5, _⟩ := lv_parts (hl k (by omega))
    refine rg_step ha hrow (by omega) h0 (hl k (by omega)) (fun e => ?_)
    have := h5 (by omega)
    exact hne this (by omega) e
theorem lvS_lvI {xss : List (List Int)} (ha : Asc xss) {L H P : List Int} {m k : Nat} (hrow : ∀ r (h : r < xss.length), xss[r].length = m) (hk : k < m) (hkp : k < P.length) (h : Rg xss H P k) : lvS xss L H P k = lvI xss L H P k := by
  have hm := mono_of ha hrow hk h.agree h.top
  have hle := h.le
  have htop := h.top
  unfold lvS lvI
  generalize hlo : (rgL xss H P k).1 = lo at *
  generalize hhi : (rgL xss H P k).2 = hi at *
  by_cases h1 : at0 L k = (lo : Int)
  · by_cases h2 : at0 H k = (hi : Int)
    · by_cases h3 : (lo : Int) ≤ at0 P k
      · by_cases h4 : at0 P k ≤ (hi : Int)
        · by_cases h5 : at0 P k = (hi : Int)
          · have h6 : at0 P k = at0 H k := by omega
            rw [if_pos h5]
            simp only [h1, h2, h3, h4, h5, decide_true, Bool.true_and, Bool.or_true, Bool.and_true]
            by_cases h7 : k + 1 < P.length
            · simp [h7]; omega
            · simp [h7]; omega
          · have h6 : ¬ at0 P k = at0 H k := by omega
            rw [if_neg h5]
            simp only [h1, h2, h3, h4, h5, h6, decide_true, decide_false, Bool.true_and, Bool.false_and, Bool.not_false, Bool.or_false]
            obtain ⟨p, hp⟩ : ∃ p : Nat, at0 P k = p := ⟨(at0 P k).toNat, by omega⟩
            rw [hp]
            simp only [Int.toNat_natCast]
            by_cases h8 : p = lo
            · subst h8
              have := sr_eq (v := key xss k p) hm p (Nat.le_refl _) hle (fun i a b => by omega) (fun _ => Int.le_refl _)
              simp [this]
            · have a1 : ¬ ((p : Int) = (lo : Int)) := by omega
              have a2 : (p : Int) < (xss.length : Int) := by omega
              simp only [a1, a2, decide_true, decide_false, Bool.true_and, Bool.false_or, hp]
              by_cases h9 : key xss k p = key xss k (p - 1)
              · have hs := sr_spec (v := key xss k p) hm hle
                have hne : ¬ ((p : Int) = (sr xss k lo hi (key xss k p) : Nat)) := fun e => by
                  have := hs.1 (p - 1) (by omega) (by omega)
                  omega
                simp [h9] at hne ⊢
                exact hne
              · have h10 := hm (p - 1) p (by omega) (by omega) (by omega)
                have := sr_eq (v := key xss k p) hm p (by omega) (by omega) (fun i a b => by
                  have := hm i (p - 1) a (by omega) (by omega)
                  omega) (fun _ => Int.le_refl _)
                simp [this, h9]
        · simp [h4]
      · simp [h3]
    · simp [h2]
  · simp [h1]

/-- A valid iterator. -/
def lens (n : Int) (L H P : List Int) : Bool := decide (L.length = P.length) && decide (H.length = P.length) && decide ((P.length : Int) ≤ n)
def vit (n : Int) (xss : List (List Int)) (L H P : List Int) : Bool := lens n L H P && vrel n xss && (List.range P.length).all (lvI xss L H P)
theorem lens_iff {n : Int} {L H P : List Int} : lens n L H P = true ↔ L.length = P.length ∧ H.length = P.length ∧ (P.length : Int) ≤ n := by
  unfold lens
  simp only [Bool.and_eq_true, decide_eq_true_eq, and_assoc]
theorem vit_no_lens {n : Int} {xss : List (List Int)} {L H P : List Int} (h : lens n L H P = false) : vit n xss L H P = false := by simp [vit, h]
theorem vit_no_rel {n : Int} {xss : List (List Int)} {L H P : List Int} (h : vrel n xss = false) : vit n xss L H P = false := by simp [vit, h]
theorem vit_no_lv {n : Int} {xss : List (List Int)} {L H P : List Int} (k : Nat) (hk : k < P.length) (h : lvI xss L H P k = false) : vit n xss L H P = false := by
  have : (List.range P.length).all (lvI xss L H P) = false := by
    rw [List.all_eq_false]
    exact ⟨k, List.mem_range.2 hk, by simp [h]⟩
  simp [vit, this]
theorem vit_yes {n : Int} {xss : List (List Int)} {L H P : List Int} (h1 : lens n L H P = true) (h2 : vrel n xss = true) (h3 : Lv xss L H P P.length) : vit n xss L H P = true := by
  have : (List.range P.length).all (lvI xss L H P) = true := by
    rw [List.all_eq_true]
    exact fun k hk => h3 k (List.mem_range.1 hk)
  simp [vit, h1, h2, this]
theorem vit_parts {n : Int} {xss : List (List Int)} {L H P : List Int} (h : vit n xss L H P = true) : lens n L H P = true ∧ vrel n xss = true ∧ Lv xss L H P P.length := by
  unfold vit at h
  simp only [Bool.and_eq_true] at h
  obtain ⟨⟨h1, h2⟩, h3⟩ := h
  rw [List.all_eq_true] at h3
  exact ⟨h1, h2, fun j hj => h3 j (List.mem_range.2 hj)⟩
end Go.Proofs.Ytliomgoakiidfaa.ItP
