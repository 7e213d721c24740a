/- What a valid database is, and when two are the same (plain). -/
import Derived.Test.YtpeojpdgknamgaaQryP
import Derived.Test.YtpeojpdgknamgaaAsc
import Derived.Test.YtpeojpdgknamgaaDat
namespace Go.Proofs.Ytpeojpdgknamgaa.DbP
open Go.RowKit
open Go.Proofs.Ytpeojpdgknamgaa.Rdr Go.Proofs.Ytpeojpdgknamgaa.Dat Go.Proofs.Ytpeojpdgknamgaa.Names Go.Proofs.Ytpeojpdgknamgaa.Asc Go.Proofs.Ytpeojpdgknamgaa.QryP
set_option linter.unusedVariables false

def dT : TableD := (ByteArray.empty, 0, [])
def vT (t : TableD) : Bool := nameOk t.1 && (decide (1 ≤ t.2.1) && (decide (t.2.2.length ≤ 16) && vrel t.2.1 t.2.2))
def lessN (a b : ByteArray) : Bool := Op.bytesLess a.toList b.toList
def fitT (ts : List TableD) (i : Nat) : Bool := vT (ts.getD i dT) && (decide (i = 0) || lessN (ts.getD (i - 1) dT).1 (ts.getD i dT).1)
def vDb (ts : List TableD) : Bool := decide (ts.length ≤ 6) && (List.range ts.length).all (fitT ts)
theorem getD_at (ts : List TableD) (i : Nat) (h : i < ts.length) : ts.getD i dT = ts[i] := by simp [List.getD, List.getElem?_eq_getElem h]
theorem fit_t {ts : List TableD} (i : Nat) (h : i < ts.length) (e : vT ts[i] = false) : fitT ts i = false := by simp only [fitT, getD_at ts i h, e, Bool.false_and]
theorem fit_o {ts : List TableD} (i : Nat) (h : i < ts.length) (h0 : 0 < i) (e : lessN (ts[i - 1]'(by omega)).1 ts[i].1 = false) : fitT ts i = false := by
  have h1 : decide (i = 0) = false := by simp; omega
  simp only [fitT, getD_at ts i h, getD_at ts (i - 1) (by omega), e, h1, Bool.or_false, Bool.and_false]
theorem fit_yes {ts : List TableD} (i : Nat) (h : i < ts.length) (e : vT ts[i] = true) (e2 : ∀ (h0 : 0 < i), lessN (ts[i - 1]'(by omega)).1 ts[i].1 = true) : fitT ts i = true := by
  by_cases h0 : 0 < i
  · simp only [fitT, getD_at ts i h, getD_at ts (i - 1) (by omega), e, e2 h0, Bool.or_true, Bool.and_true]
  · have h1 : decide (i = 0) = true := by simp; omega
    simp only [fitT, getD_at ts i h, e, h1, Bool.true_or, Bool.and_true]
theorem vDb_no {ts : List TableD} (k : Nat) (h : k < ts.length) (e : fitT ts k = false) : vDb ts = false := by simp only [vDb, range_no h e, Bool.and_false]
theorem vDb_end {ts : List TableD} (h : ∀ k, k < ts.length → fitT ts k = true) : vDb ts = decide (ts.length ≤ 6) := by simp only [vDb, range_yes h, Bool.and_true]
theorem vDb_len {ts : List TableD} (h : 6 < ts.length) : vDb ts = false := by
  have : decide (ts.length ≤ 6) = false := by simp; omega
  simp only [vDb, this, Bool.false_and]
theorem vT_name {t : TableD} (h : nameOk t.1 = false) : vT t = false := by simp [vT, h]
theorem vT_ar {t : TableD} (h : ¬ 1 ≤ t.2.1) : vT t = false := by simp [vT, h]
theorem vT_len {t : TableD} (h : ¬ t.2.2.length ≤ 16) : vT t = false := by
  have : decide (t.2.2.length ≤ 16) = false := by simpa using h
  simp [vT, this]
theorem vT_rel {t : TableD} (h : vrel t.2.1 t.2.2 = false) : vT t = false := by simp [vT, h]
theorem vT_yes {t : TableD} (h1 : nameOk t.1 = true) (h2 : 1 ≤ t.2.1) (h3 : t.2.2.length ≤ 16) (h4 : vrel t.2.1 t.2.2 = true) : vT t = true := by simp [vT, h1, h2, h3, h4]

def keyT (x : TableD) : List UInt8 × RelD := (x.1.toList, x.2)
def eqTs (xs ys : List TableD) : Bool := decide (xs.map keyT = ys.map keyT)
theorem eqTs_len {xs ys : List TableD} (h : xs.length ≠ ys.length) : eqTs xs ys = false := by
  simp only [eqTs, decide_eq_false_iff_not]
  intro e
  have := congrArg List.length e
  simp at this
  exact h this
theorem eqTs_at {xs ys : List TableD} (k : Nat) (h1 : k < xs.length) (h2 : k < ys.length) (h : keyT xs[k] ≠ keyT ys[k]) : eqTs xs ys = false := by
  simp only [eqTs, decide_eq_false_iff_not]
  intro e
  have e1 : (xs.map keyT)[k]? = (ys.map keyT)[k]? := by rw [e]
  simp [List.getElem?_eq_getElem h1, List.getElem?_eq_getElem h2] at e1
  exact h e1
theorem eqTs_all {xs ys : List TableD} (hl : xs.length = ys.length) (h : ∀ j (h1 : j < xs.length) (h2 : j < ys.length), keyT xs[j] = keyT ys[j]) : eqTs xs ys = true := by
  simp only [eqTs, decide_eq_true_eq]
  refine List.ext_getElem (by simpa using hl) (fun j h1 h2 => ?_)
  simp only [List.getElem_map]
  exact h j (by simpa using h1) (by simpa using h2)
theorem kt_name {x y : TableD} (h : (x.1.toList == y.1.toList) = false) : keyT x ≠ keyT y := fun e => by
  have := congrArg Prod.fst e
  simp only [keyT] at this
  rw [this] at h
  simp at h
theorem table_le {xs : List TableD} (h : tots szT xs ≤ 1048576) : ∀ j (hj : j < xs.length), szT xs[j] ≤ 1048576 := fun j hj => by
  have := elem_le szT xs j hj
  omega
theorem rows_le {t : TableD} (h : szT t ≤ 1048576) : t.1.size ≤ 1048576 ∧ t.2.2.length ≤ 1048576 ∧ ∀ j (hj : j < t.2.2.length), t.2.2[j].length ≤ 1048576 := by
  have h1 := tots_len List.length t.2.2
  unfold szT szG at h
  exact ⟨by omega, by omega, fun j hj => by have := elem_le List.length t.2.2 j hj; omega⟩
end Go.Proofs.Ytpeojpdgknamgaa.DbP
