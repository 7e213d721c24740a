/- What a valid query is, and when two are the same (plain). -/
import Derived.Test.YtaiimjbdhcjobaaVarName
import Derived.Test.YtaiimjbdhcjobaaNames
import Derived.Test.YtaiimjbdhcjobaaDat
namespace Go.Proofs.Ytaiimjbdhcjobaa.QryP
open Go.RowKit
open Go.Proofs.Ytaiimjbdhcjobaa.Rdr Go.Proofs.Ytaiimjbdhcjobaa.Dat Go.Proofs.Ytaiimjbdhcjobaa.VarName Go.Proofs.Ytaiimjbdhcjobaa.Names
set_option linter.unusedVariables false

/-! ### validity -/
def okA (n : Int) (a : AtomD) : Bool := nameOk a.1 && (inR (a.2.length : Int) 1 5 && a.2.all fun v => isv v n)
def occ (us : List AtomD) (v : Int) : Bool := us.any fun a => decide (v ∈ a.2)
def okAs (n : Int) (us : List AtomD) : Bool := inR (us.length : Int) 1 4 && us.all (okA n)
def everyV (n : Int) (us : List AtomD) : Bool := (List.range n.toNat).all fun v => occ us (v : Int)
def fits (n : Int) (out : List Int) (i : Nat) : Bool := isv (out.getD i 0) n && !decide (out.getD i 0 ∈ out.take i)
def distV (n : Int) (out : List Int) : Bool := (List.range out.length).all fun i => fits n out i
def vq (x : QueryD) : Bool := inR x.1 1 5 && (okAs x.1 x.2.1 && (everyV x.1 x.2.1 && distV x.1 x.2.2))

theorem all_no {α : Type} {p : α → Bool} {xs : List α} (k : Nat) (h : k < xs.length) (e : p xs[k] = false) : xs.all p = false := by
  rw [List.all_eq_false]
  exact ⟨xs[k], List.getElem_mem h, by simp [e]⟩
theorem all_yes {α : Type} {p : α → Bool} {xs : List α} (h : ∀ j (h : j < xs.length), p xs[j] = true) : xs.all p = true := by
  rw [List.all_eq_true]
  intro x hx
  obtain ⟨j, hj, rfl⟩ := List.getElem_of_mem hx
  exact h j hj
theorem range_no {p : Nat → Bool} {n k : Nat} (h : k < n) (e : p k = false) : (List.range n).all p = false := by
  rw [List.all_eq_false]
  exact ⟨k, by simpa using h, by simp [e]⟩
theorem range_yes {p : Nat → Bool} {n : Nat} (h : ∀ k, k < n → p k = true) : (List.range n).all p = true := by
  rw [List.all_eq_true]
  intro k hk
  exact h k (by simpa using hk)
theorem range_at {p : Nat → Bool} {n : Nat} (h : (List.range n).all p = true) (k : Nat) (hk : k < n) : p k = true := by
  rw [List.all_eq_true] at h
  exact h k (by simpa using hk)
theorem occ_yes {us : List AtomD} {v : Int} (k : Nat) (h : k < us.length) (e : decide (v ∈ us[k].2) = true) : occ us v = true := by
  unfold occ
  rw [List.any_eq_true]
  exact ⟨us[k], List.getElem_mem h, e⟩
theorem occ_no {us : List AtomD} {v : Int} (h : ∀ j (h : j < us.length), decide (v ∈ us[j].2) = false) : occ us v = false := by
  unfold occ
  rw [List.any_eq_false]
  intro a ha
  obtain ⟨j, hj, rfl⟩ := List.getElem_of_mem ha
  rw [h j hj]
  simp
theorem fits_at {n : Int} {out : List Int} (i : Nat) (h : i < out.length) : fits n out i = (isv out[i] n && !decide (out[i] ∈ out.take i)) := by
  simp [fits, List.getD, List.getElem?_eq_getElem h]
theorem fits_no1 {n : Int} {out : List Int} (i : Nat) (h : i < out.length) (e : isv out[i] n = false) : fits n out i = false := by rw [fits_at i h, e]; rfl
theorem fits_no2 {n : Int} {out : List Int} (i : Nat) (h : i < out.length) (e : decide (out[i] ∈ out.take i) = true) : fits n out i = false := by rw [fits_at i h, e]; simp
theorem fits_yes {n : Int} {out : List Int} (i : Nat) (h : i < out.length) (e1 : isv out[i] n = true) (e2 : decide (out[i] ∈ out.take i) = false) : fits n out i = true := by rw [fits_at i h, e1, e2]; rfl

/-- Different ints from 0 on and below n: at most n of them. -/
theorem pigeon (n : Nat) : ∀ (out : List Int), out.Nodup → (∀ v ∈ out, 0 ≤ v ∧ v < (n : Int)) → out.length ≤ n := by
  induction n with
  | zero =>
    intro out _ h
    cases out with
    | nil => exact Nat.le_refl _
    | cons v t => have := h v (by simp); omega
  | succ n ih =>
    intro out hn h
    have h1 : (out.filter fun v => decide (v ≠ (n : Int))).length ≤ n := ih _ (hn.filter _) (fun v hv => by
      rw [List.mem_filter] at hv
      have := h v hv.1
      have hne : v ≠ (n : Int) := by simpa using hv.2
      omega)
    have h2 : out.count (n : Int) ≤ 1 := List.nodup_iff_count.1 hn _
    have h3 : out.length = (out.filter fun v => decide (v ≠ (n : Int))).length + out.count (n : Int) := by
      clear h1 h2 ih hn h
      induction out with
      | nil => rfl
      | cons v t ih =>
        by_cases e : v = (n : Int)
        · subst e; simp [ih]; omega
        · simp [e, ih]; omega
    omega
theorem dist_nodup {n : Int} {out : List Int} (h : distV n out = true) : out.Nodup ∧ ∀ v ∈ out, 0 ≤ v ∧ v < n := by
  have ha : ∀ i (h : i < out.length), isv out[i] n = true ∧ decide (out[i] ∈ out.take i) = false := fun i hi => by
    have := range_at h i hi
    rw [fits_at i hi] at this
    simpa using this
  refine ⟨?_, fun v hv => ?_⟩
  · rw [List.nodup_iff_pairwise_ne, List.pairwise_iff_getElem]
    intro i j hi hj hij e
    have := (ha j hj).2
    rw [decide_eq_false_iff_not] at this
    exact this (List.mem_take_iff_getElem.2 ⟨i, by omega, e⟩)
  · obtain ⟨i, hi, rfl⟩ := List.getElem_of_mem hv
    exact isv_iff.1 (ha i hi).1
/-- More output variables than there are variables: one is there twice, or is none. -/
theorem dist_long {n : Int} {out : List Int} (h0 : 0 ≤ n) (h : n < (out.length : Int)) : distV n out = false := by
  cases hd : distV n out with
  | false => rfl
  | true =>
    obtain ⟨hn, hv⟩ := dist_nodup hd
    have := pigeon n.toNat out hn (fun v h => by have := hv v h; omega)
    omega
theorem vq_n {x : QueryD} (h : inR x.1 1 5 = false) : vq x = false := by simp [vq, h]
theorem vq_as {x : QueryD} (h : okAs x.1 x.2.1 = false) : vq x = false := by simp [vq, h]
theorem vq_ev {x : QueryD} (h : everyV x.1 x.2.1 = false) : vq x = false := by simp [vq, h]
theorem vq_di {x : QueryD} (h : distV x.1 x.2.2 = false) : vq x = false := by simp [vq, h]
theorem vq_yes {x : QueryD} (h1 : inR x.1 1 5 = true) (h2 : okAs x.1 x.2.1 = true) (h3 : everyV x.1 x.2.1 = true) (h4 : distV x.1 x.2.2 = true) : vq x = true := by simp [vq, h1, h2, h3, h4]
theorem okAs_len {n : Int} {us : List AtomD} (h : inR (us.length : Int) 1 4 = false) : okAs n us = false := by simp [okAs, h]
theorem okAs_at {n : Int} {us : List AtomD} (k : Nat) (hk : k < us.length) (h : okA n us[k] = false) : okAs n us = false := by simp only [okAs, all_no k hk h, Bool.and_false]
theorem okAs_yes {n : Int} {us : List AtomD} (h : inR (us.length : Int) 1 4 = true) (h2 : ∀ j (h : j < us.length), okA n us[j] = true) : okAs n us = true := by simp only [okAs, h, all_yes h2, Bool.and_true]
theorem okA_name {n : Int} {a : AtomD} (h : nameOk a.1 = false) : okA n a = false := by simp [okA, h]
theorem okA_len {n : Int} {a : AtomD} (h : inR (a.2.length : Int) 1 5 = false) : okA n a = false := by simp [okA, h]
theorem okA_at {n : Int} {a : AtomD} (k : Nat) (hk : k < a.2.length) (h : isv a.2[k] n = false) : okA n a = false := by
  have := all_no (p := fun v => isv v n) k hk h
  simp only [okA, this, Bool.and_false]
theorem okA_yes {n : Int} {a : AtomD} (h1 : nameOk a.1 = true) (h2 : inR (a.2.length : Int) 1 5 = true) (h3 : ∀ j (h : j < a.2.length), isv a.2[j] n = true) : okA n a = true := by
  have := all_yes (p := fun v => isv v n) h3
  simp only [okA, h1, h2, this, Bool.and_true]

/-! ### equality -/
def keyA (x : AtomD) : List UInt8 × List Int := (x.1.toList, x.2)
def eqAs (xs ys : List AtomD) : Bool := decide (xs.map keyA = ys.map keyA)
def eqQ (x y : QueryD) : Bool := decide (x.1 = y.1) && (eqAs x.2.1 y.2.1 && decide (x.2.2 = y.2.2))
theorem eqAs_len {xs ys : List AtomD} (h : xs.length ≠ ys.length) : eqAs xs ys = false := by
  simp only [eqAs, decide_eq_false_iff_not]
  intro e
  have := congrArg List.length e
  simp at this
  exact h this
theorem eqAs_at {xs ys : List AtomD} (k : Nat) (h1 : k < xs.length) (h2 : k < ys.length) (h : keyA xs[k] ≠ keyA ys[k]) : eqAs xs ys = false := by
  simp only [eqAs, decide_eq_false_iff_not]
  intro e
  have e1 : (xs.map keyA)[k]? = (ys.map keyA)[k]? := by rw [e]
  simp [List.getElem?_eq_getElem h1, List.getElem?_eq_getElem h2] at e1
  exact h e1
theorem eqAs_all {xs ys : List AtomD} (hl : xs.length = ys.length) (h : ∀ j (h1 : j < xs.length) (h2 : j < ys.length), keyA xs[j] = keyA ys[j]) : eqAs xs ys = true := by
  simp only [eqAs, decide_eq_true_eq]
  refine List.ext_getElem (by simpa using hl) (fun j h1 h2 => ?_)
  simp only [List.getElem_map]
  exact h j (by simpa using h1) (by simpa using h2)
theorem key_name {x y : AtomD} (h : (x.1.toList == y.1.toList) = false) : keyA x ≠ keyA y := fun e => by
  have := congrArg Prod.fst e
  simp only [keyA] at this
  rw [this] at h
  simp at h
theorem key_vars {x y : AtomD} (h : x.2 ≠ y.2) : keyA x ≠ keyA y := fun e => h (congrArg Prod.snd e : (keyA x).2 = (keyA y).2)
theorem key_same {x y : AtomD} (h1 : (x.1.toList == y.1.toList) = true) (h2 : x.2 = y.2) : keyA x = keyA y := by
  have h3 : x.1.toList = y.1.toList := by simpa using h1
  simp only [keyA, h2, h3]
theorem key_dec {x y : AtomD} (h1 : (x.1.toList == y.1.toList) = true) : decide (keyA x = keyA y) = decide (x.2 = y.2) := by
  rw [decide_eq_decide]
  exact ⟨fun e => (congrArg Prod.snd e : (keyA x).2 = (keyA y).2), fun e => key_same h1 e⟩
theorem bne_of {a b : List UInt8} {c : Bool} (h : (a == b) = c) : (a != b) = !c := by simp [bne, h]
end Go.Proofs.Ytaiimjbdhcjobaa.QryP
