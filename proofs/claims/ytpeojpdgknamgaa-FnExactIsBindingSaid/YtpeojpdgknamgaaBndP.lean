/- What a binding is (plain). -/
import Derived.Test.YtpeojpdgknamgaaQryFor
import Derived.Test.YtpeojpdgknamgaaRelOf
import Derived.Test.YtpeojpdgknamgaaPckO
namespace Go.Proofs.Ytpeojpdgknamgaa.BndP
open Go.RowKit
open Go.Proofs.Ytpeojpdgknamgaa.Num Go.Proofs.Ytpeojpdgknamgaa.VarName Go.Proofs.Ytpeojpdgknamgaa.IntRow Go.Proofs.Ytpeojpdgknamgaa.GridLaw Go.Proofs.Ytpeojpdgknamgaa.TableLaw Go.Proofs.Ytpeojpdgknamgaa.Rdr Go.Proofs.Ytpeojpdgknamgaa.Dat Go.Proofs.Ytpeojpdgknamgaa.Asc Go.Proofs.Ytpeojpdgknamgaa.QryP Go.Proofs.Ytpeojpdgknamgaa.DbP Go.Proofs.Ytpeojpdgknamgaa.TabFind Go.Proofs.Ytpeojpdgknamgaa.QryFor Go.Proofs.Ytpeojpdgknamgaa.RelOf Go.Proofs.Ytpeojpdgknamgaa.Pck
set_option linter.unusedVariables false

def relA (ts : List TableD) (x : AtomD) : RelD := (lkr ts x.1.toList).1
def hits (ts : List TableD) (row : List Int) (x : AtomD) : Bool := decide (pick row x.2 ∈ (relA ts x).2)
def bnd (ts : List TableD) (x : QueryD) (row : List Int) : Bool := (qf ts x && decide ((row.length : Int) = x.1)) && x.2.1.all (hits ts row)
theorem bnd_q {ts : List TableD} {x : QueryD} {row : List Int} (h : qf ts x = false) : bnd ts x row = false := by simp [bnd, h]
theorem bnd_len {ts : List TableD} {x : QueryD} {row : List Int} (h : (row.length : Int) ≠ x.1) : bnd ts x row = false := by simp [bnd, h]
theorem bnd_at {ts : List TableD} {x : QueryD} {row : List Int} (k : Nat) (hk : k < x.2.1.length) (h : hits ts row x.2.1[k] = false) : bnd ts x row = false := by simp only [bnd, all_no k hk h, Bool.and_false]
theorem bnd_all {ts : List TableD} {x : QueryD} {row : List Int} (h1 : qf ts x = true) (h2 : (row.length : Int) = x.1) (h : ∀ j (h : j < x.2.1.length), hits ts row x.2.1[j] = true) : bnd ts x row = true := by simp [bnd, h1, h2, all_yes h]
theorem qf_parts {ts : List TableD} {x : QueryD} (h : qf ts x = true) : vq x = true ∧ vDb ts = true ∧ ∀ k (hk : k < x.2.1.length), okF ts x.2.1[k] = true := by
  simp only [qf, Bool.and_eq_true, List.all_eq_true] at h
  exact ⟨h.1.1, h.1.2, fun k hk => h.2 _ (List.getElem_mem hk)⟩
theorem cols_q {ts : List TableD} {x : QueryD} {row : List Int} (h : qf ts x = true) (h2 : (row.length : Int) = x.1) (k : Nat) (hk : k < x.2.1.length) : Cols row.length x.2.1[k].2 := fun j hj => by
  obtain ⟨h1, _, _⟩ := qf_parts h
  simp only [vq, okAs, okA, Bool.and_eq_true, List.all_eq_true] at h1
  have h3 := (h1.2.1.2 _ (List.getElem_mem hk)).2.2 _ (List.getElem_mem hj)
  simp only [isv, Bool.and_eq_true, decide_eq_true_eq] at h3
  exact ⟨x.2.1[k].2[j].toNat, by omega, by omega⟩
theorem table_ok {ts : List TableD} (hv : vDb ts = true) (p : Nat) (hp : p < ts.length) : vrel ts[p].2.1 ts[p].2.2 = true := by
  simp only [vDb, Bool.and_eq_true] at hv
  have h1 := range_at hv.2 p hp
  simp only [fitT, getD_at ts p hp, Bool.and_eq_true] at h1
  have h2 := h1.1
  simp only [vT, Bool.and_eq_true] at h2
  exact h2.2.2.2
theorem okF_some {ts : List TableD} {x : AtomD} (h : okF ts x = true) : ∃ p, ∃ hp : p < ts.length, ts[p].1.toList = x.1.toList := by
  unfold okF at h
  rw [List.any_eq_true] at h
  obtain ⟨t, ht, he⟩ := h
  obtain ⟨j, hj, rfl⟩ := List.getElem_of_mem ht
  simp only [Bool.and_eq_true, beq_iff_eq] at he
  exact ⟨j, hj, he.1⟩
/-- What the model looks up for an atom of a query for the database. -/
theorem look_ok {ts : List TableD} {x : AtomD} {r : RelD} {f : Bool} (hv : vDb ts = true) (h : okF ts x = true) (k : LkS ts x.1.toList r f) : r = relA ts x ∧ vrel r.1 r.2 = true := by
  obtain ⟨p, hp, hn⟩ := okF_some h
  cases f with
  | false => exact absurd hn ((k.no rfl).2 hv p hp)
  | true =>
    refine ⟨congrArg Prod.fst (lks_eq k), ?_⟩
    obtain ⟨_, q, hq, _, rfl⟩ := k.yes rfl
    exact table_ok hv q hq
/-- What the program finds for it. -/
theorem rof_ok {ts : List TableD} {x : AtomD} {r : RelD} {f : Bool} (hv : vDb ts = true) (h : okF ts x = true) (k : RofP ts x r f) : r = relA ts x ∧ vrel r.1 r.2 = true := by
  have hf : f = true := k.ok.symm.trans h
  subst hf
  obtain ⟨p, hp, h1, h2, _⟩ := k.yes rfl
  exact look_ok hv h (f := true) ⟨fun _ => ⟨hv, p, hp, h1, h2⟩, fun e => by cases e⟩
theorem vrel_len {n : Int} {l : List (List Int)} (h : vrel n l = true) : l.length ≤ 1048576 ∧ ∀ j (hj : j < l.length), l[j].length ≤ 1048576 := by
  obtain ⟨h1, h2, h3, _⟩ := vrel_parts h
  exact ⟨by omega, fun j hj => by have := (h3 _ (List.getElem_mem hj)).1; omega⟩
end Go.Proofs.Ytpeojpdgknamgaa.BndP
