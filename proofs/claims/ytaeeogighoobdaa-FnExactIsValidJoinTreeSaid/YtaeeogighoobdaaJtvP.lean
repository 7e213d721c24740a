/- Join trees, plain: the way to the root, the tops of a variable; what IsValidJoinTree is. -/
import Derived.Test.YtaeeogighoobdaaGyo
import Derived.Test.YtaeeogighoobdaaJtr
namespace Go.Proofs.Ytaeeogighoobdaa.JtvP
open Go.RowKit
open Go.Proofs.Ytaeeogighoobdaa.VarName Go.Proofs.Ytaeeogighoobdaa.Dat Go.Proofs.Ytaeeogighoobdaa.SetV Go.Proofs.Ytaeeogighoobdaa.SetJ Go.Proofs.Ytaeeogighoobdaa.QryP Go.Proofs.Ytaeeogighoobdaa.Gyo Go.Proofs.Ytaeeogighoobdaa.Jtr
set_option linter.unusedVariables false

/-- Does the way from i lead to a root in at most f steps? -/
def lead (t : List Int) : Nat → Nat → Bool
  | 0, _ => false
  | f + 1, i => match t[i]? with
    | none => false
    | some z => if z = -1 then true else if 0 ≤ z ∧ z < (t.length : Int) then lead t f z.toNat else false
theorem lead_root {t : List Int} {f i : Nat} (hi : i < t.length) (h : t[i] = -1) : lead t (f + 1) i = true := by
  rw [lead, List.getElem?_eq_getElem hi]
  simp [h]
theorem lead_out {t : List Int} {f i : Nat} (hi : i < t.length) (h1 : t[i] ≠ -1) (h2 : ¬ (0 ≤ t[i] ∧ t[i] < (t.length : Int))) : lead t (f + 1) i = false := by
  rw [lead, List.getElem?_eq_getElem hi]
  simp only
  rw [if_neg h1, if_neg h2]
theorem lead_on {t : List Int} {f i p : Nat} (hi : i < t.length) (h1 : t[i] = (p : Int)) (hp : p < t.length) : lead t (f + 1) i = lead t f p := by
  rw [lead, List.getElem?_eq_getElem hi]
  simp only
  rw [if_neg (by omega), if_pos (by omega), h1]
  rfl
theorem lead_par {t : List Int} {f i : Nat} (hi : i < t.length) (h : lead t f i = true) : t[i] = -1 ∨ (0 ≤ t[i] ∧ t[i] < (t.length : Int)) := by
  cases f with
  | zero => cases h
  | succ f =>
    by_cases h1 : t[i] = -1
    · exact .inl h1
    · by_cases h2 : 0 ≤ t[i] ∧ t[i] < (t.length : Int)
      · exact .inr h2
      · rw [lead_out hi h1 h2] at h; cases h
def parOf (t : List Int) (i : Nat) : Int := t[i]?.getD 0
theorem parOf_at {t : List Int} {i : Nat} (h : i < t.length) : parOf t i = t[i] := by rw [parOf, List.getElem?_eq_getElem h]; rfl
/-- Is atom i a top of the variable v? -/
def top (us : List AtomD) (t : List Int) (v i : Nat) : Bool := mv us i v && (decide (parOf t i = -1) || !mv us (parOf t i).toNat v)
def cntT (us : List AtomD) (t : List Int) (v m : Nat) : Nat := ((List.range m).filter (top us t v)).length
theorem cntT_step (us : List AtomD) (t : List Int) (v m : Nat) : cntT us t v (m + 1) = cntT us t v m + (if top us t v m = true then 1 else 0) := by
  unfold cntT
  rw [List.range_succ, List.filter_append, List.length_append]
  congr 1
  rw [List.filter_cons]
  split <;> simp
theorem cntT_mono (us : List AtomD) (t : List Int) (v : Nat) {i j : Nat} (h : i ≤ j) : cntT us t v i ≤ cntT us t v j := by
  induction j with
  | zero => have : i = 0 := by omega
            subst this; exact Nat.le_refl _
  | succ j ih =>
    by_cases e : i = j + 1
    · subst e; exact Nat.le_refl _
    · have := ih (by omega)
      rw [cntT_step]
      omega
theorem cntT_le (us : List AtomD) (t : List Int) (v m : Nat) : cntT us t v m ≤ m := by
  have := List.length_filter_le (top us t v) (List.range m)
  rw [List.length_range] at this
  exact this
theorem cntT_pos {us : List AtomD} {t : List Int} {v m j : Nat} (hj : j < m) (h : top us t v j = true) : 1 ≤ cntT us t v m := by
  have := cntT_mono us t v (show j + 1 ≤ m by omega)
  rw [cntT_step, if_pos h] at this
  omega
theorem cntT_zero {us : List AtomD} {t : List Int} {v : Nat} (m : Nat) (h : ∀ i, top us t v i = false) : cntT us t v m = 0 := by
  induction m with
  | zero => rfl
  | succ m ih => rw [cntT_step, ih, h m]; rfl
def anyT (us : List AtomD) (t : List Int) (m v : Nat) : Bool := decide (1 ≤ cntT us t v m)
theorem anyT_step (us : List AtomD) (t : List Int) (m v : Nat) : anyT us t (m + 1) v = (anyT us t m v || top us t v m) := by
  unfold anyT
  rw [cntT_step]
  cases h : top us t v m
  · simp
  · simp
/-- Every variable of an atom that leads to the root has a top. -/
theorem has_top {us : List AtomD} {t : List Int} {v : Nat} : ∀ (f i : Nat), lead t f i = true → mv us i v = true → ∃ j, j < t.length ∧ top us t v j = true
  | 0, i, h, _ => by cases h
  | f + 1, i, h, hm => by
    have hi : i < t.length := by
      rcases Nat.lt_or_ge i t.length with h1 | h1
      · exact h1
      · rw [lead, List.getElem?_eq_none h1] at h; cases h
    by_cases h1 : t[i] = -1
    · exact ⟨i, hi, by unfold top; rw [parOf_at hi, h1, hm]; rfl⟩
    · rcases lead_par hi h with h2 | h2
      · exact absurd h2 h1
      · obtain ⟨p, hp⟩ : ∃ p : Nat, t[i] = (p : Int) := ⟨t[i].toNat, by omega⟩
        rw [lead_on hi hp (by omega)] at h
        cases hmp : mv us p v with
        | true => exact has_top f p h hmp
        | false => exact ⟨i, hi, by unfold top; rw [parOf_at hi, hp, hm, Int.toNat_natCast, hmp]; simp⟩

def okT (us : List AtomD) (t : List Int) : Bool := (List.range 5).all fun v => decide (cntT us t v t.length ≤ 1)
def isT (t : List Int) : Bool := decide (0 ≤ jroot t) && (List.range t.length).all (lead t t.length)
def vjt (x : QueryD) (t : List Int) : Bool := vq x && (decide (t.length = x.2.1.length) && (isT t && okT x.2.1 t))
theorem isT_at {t : List Int} (h : isT t = true) (i : Nat) (hi : i < t.length) : lead t t.length i = true := by
  unfold isT at h
  rw [Bool.and_eq_true, List.all_eq_true] at h
  exact h.2 i (List.mem_range.2 hi)
theorem vjt_q {x : QueryD} {t : List Int} (h : vq x = false) : vjt x t = false := by unfold vjt; rw [h]; rfl
theorem vjt_n {x : QueryD} {t : List Int} (h : t.length ≠ x.2.1.length) : vjt x t = false := by unfold vjt; rw [decide_eq_false h]; simp
theorem vjt_t {x : QueryD} {t : List Int} (h : isT t = false) : vjt x t = false := by unfold vjt; rw [h]; simp
theorem vjt_r {x : QueryD} {t : List Int} (h : jroot t < 0) : vjt x t = false := vjt_t (by unfold isT; rw [decide_eq_false (by omega)]; rfl)
theorem vjt_l {x : QueryD} {t : List Int} {i : Nat} (hi : i < t.length) (h : lead t t.length i = false) : vjt x t = false := vjt_t (by
  unfold isT
  rw [Bool.and_eq_false_iff]
  right
  rw [List.all_eq_false]
  exact ⟨i, List.mem_range.2 hi, by rw [h]; decide⟩)
theorem vjt_k {x : QueryD} {t : List Int} (h1 : vq x = true) (h2 : t.length = x.2.1.length) (h3 : isT t = true) : vjt x t = okT x.2.1 t := by unfold vjt; rw [h1, decide_eq_true h2, h3]; simp
theorem okT_no {us : List AtomD} {t : List Int} {v : Nat} (hv : v < 5) (h : 2 ≤ cntT us t v t.length) : okT us t = false := by
  unfold okT
  rw [List.all_eq_false]
  exact ⟨v, List.mem_range.2 hv, by simp; omega⟩
theorem okT_yes {us : List AtomD} {t : List Int} (h : ∀ v, v < 5 → cntT us t v t.length ≤ 1) : okT us t = true := by
  unfold okT
  rw [List.all_eq_true]
  exact fun v hv => by simpa using h v (List.mem_range.1 hv)
/-- A valid query's variables: each has a top, and no other number has one. -/
theorem top_one {x : QueryD} {t : List Int} {v n5 : Nat} (hq : vq x = true) (hn : x.1 = (n5 : Int)) (hl : t.length = x.2.1.length) (ht : isT t = true) (hv : v < n5) : 1 ≤ cntT x.2.1 t v t.length := by
  unfold vq at hq
  simp only [Bool.and_eq_true] at hq
  obtain ⟨_, _, he, _⟩ := hq
  unfold everyV at he
  rw [List.all_eq_true] at he
  have h1 := he v (List.mem_range.2 (by rw [hn]; simpa using hv))
  unfold occ at h1
  rw [List.any_eq_true] at h1
  obtain ⟨a, ha, hm⟩ := h1
  obtain ⟨i, hi, rfl⟩ := List.getElem_of_mem ha
  obtain ⟨j, hj, htop⟩ := has_top (us := x.2.1) (v := v) t.length i (isT_at ht i (by omega)) (by rw [mv_at hi]; exact hm)
  exact cntT_pos hj htop
theorem top_none {us : List AtomD} {t : List Int} {v n5 : Nat} (hva : ∀ a ∈ us, ∀ z ∈ a.2, 0 ≤ z ∧ z < (n5 : Int)) (hv : n5 ≤ v) (i : Nat) : top us t v i = false := by
  have : mv us i v = false := by
    unfold mv
    cases h : us[i]? with
    | none => rfl
    | some a =>
      show mem a.2 v = false
      unfold mem
      rw [decide_eq_false_iff_not]
      intro hm
      have := hva a (List.mem_of_getElem? h) _ hm
      omega
  unfold top
  rw [this]
  rfl
/-- The last atom of a way, compared with the root. -/
theorem root_last {t : List Int} {l : Nat} (hl : l < t.length) (h1 : t.count (-1) = 1) : ((l : Int) = jroot t) ↔ t[l] = -1 := by
  constructor
  · intro h
    have hj : jroot t = (t.findIdx (fun z => z == -1) : Int) := by rw [jroot, if_pos h1]
    have e : t.findIdx (fun z => z == -1) = l := by omega
    have := (List.findIdx_eq hl).1 e
    simpa using this.1
  · intro h
    rw [jroot_one hl h (fun j hj hne hj2 => ?_)]
    rcases Nat.lt_or_gt_of_ne hne with hlt | hgt
    · have := jroot_two hlt hl hj2 h
      have h3 : 0 ≤ jroot t := jroot_nonneg.2 h1
      omega
    · have := jroot_two hgt hj h hj2
      have h3 : 0 ≤ jroot t := jroot_nonneg.2 h1
      omega
end Go.Proofs.Ytaeeogighoobdaa.JtvP
