/- GYO reduction over the data of a query's atoms: plain definitions, their steps and invariants. -/
import Derived.Test.YtaeeogighoobdaaSetJ
namespace Go.Proofs.Ytaeeogighoobdaa.Gyo
open Go.RowKit
open Go.Proofs.Ytaeeogighoobdaa.Dat Go.Proofs.Ytaeeogighoobdaa.SetV Go.Proofs.Ytaeeogighoobdaa.SetJ
set_option linter.unusedVariables false

/-- Does the variable v occur in atom i? -/
def mv (us : List AtomD) (i v : Nat) : Bool := match us[i]? with
  | some a => mem a.2 v
  | none => false
theorem mv_at {us : List AtomD} {i v : Nat} (h : i < us.length) : mv us i v = mem us[i].2 v := by
  rw [mv, List.getElem?_eq_getElem h]
def lv (L : List Bool) (i : Nat) : Bool := L[i]?.getD false
theorem lv_at {L : List Bool} {i : Nat} (h : i < L.length) : lv L i = L[i] := by rw [lv, List.getElem?_eq_getElem h]; rfl
theorem lv_lt {L : List Bool} {i : Nat} (h : lv L i = true) : i < L.length := by
  rcases Nat.lt_or_ge i L.length with h1 | h1
  · exact h1
  · rw [lv, List.getElem?_eq_none h1] at h; cases h
theorem lv_set {L : List Bool} {i j : Nat} : lv (L.set i false) j = (lv L j && decide (j ≠ i)) := by
  by_cases e : j = i
  · subst e
    have : decide (j ≠ j) = false := by simp
    rw [this, Bool.and_false, lv]
    rcases Nat.lt_or_ge j L.length with h | h
    · rw [List.getElem?_set_self h]; rfl
    · rw [List.getElem?_eq_none (by simpa using h)]; rfl
  · rw [lv, List.getElem?_set_ne (fun h => e h.symm), decide_eq_true e, Bool.and_true]; rfl
/-- Does v occur in a remaining atom other than i? -/
def shd (us : List AtomD) (L : List Bool) (i v : Nat) : Bool := (List.range us.length).any fun j => (lv L j && decide (j ≠ i)) && mv us j v
def fitAt (us : List AtomD) (L : List Bool) (i k v : Nat) : Bool := !(mv us i v) || (!(shd us L i v) || mv us k v)
def fits (us : List AtomD) (L : List Bool) (i k : Nat) : Bool := (List.range 5).all (fitAt us L i k)
def okE (us : List AtomD) (L : List Bool) (i k : Nat) : Bool := (lv L i && (lv L k && decide (i ≠ k))) && fits us L i k
def earK (us : List AtomD) (L : List Bool) (i : Nat) : Option Nat := (List.range us.length).find? (okE us L i)
def ear (us : List AtomD) (L : List Bool) : Option Nat := (List.range us.length).find? fun i => (earK us L i).isSome
structure St where
  out : List Int
  up : List Int
  left : List Bool
def stp (us : List AtomD) (S : St) : Option St := match ear us S.left with
  | none => none
  | some i => match earK us S.left i with
    | none => none
    | some k => some ⟨S.out ++ [(i : Int)], S.up.set i (k : Int), S.left.set i false⟩
theorem find_some {n i : Nat} {p : Nat → Bool} (h : i < n) (hp : p i = true) (hb : ∀ j, j < i → p j = false) : (List.range n).find? p = some i := by
  rw [List.find?_range_eq_some]
  exact ⟨hp, List.mem_range.2 h, fun j hj => by rw [hb j hj]; rfl⟩
theorem find_none {n : Nat} {p : Nat → Bool} (h : ∀ i, i < n → p i = false) : (List.range n).find? p = none := by
  rw [List.find?_range_eq_none]
  exact fun i hi => by rw [h i hi]; rfl
theorem earK_none {us : List AtomD} {L : List Bool} {i : Nat} (h : ∀ k, k < us.length → okE us L i k = false) : earK us L i = none := find_none h
theorem stp_some {us : List AtomD} {S : St} {i k : Nat} (hi : i < us.length) (hk : k < us.length) (h1 : ∀ i', i' < i → ∀ k', k' < us.length → okE us S.left i' k' = false) (h2 : ∀ k', k' < k → okE us S.left i k' = false) (h3 : okE us S.left i k = true) :
    stp us S = some ⟨S.out ++ [(i : Int)], S.up.set i (k : Int), S.left.set i false⟩ := by
  have e1 : earK us S.left i = some k := find_some hk h3 h2
  have e2 : ear us S.left = some i := find_some hi (by rw [e1]; rfl) (fun j hj => by rw [earK_none (h1 j hj)]; rfl)
  rw [stp, e2]
  simp only [e1]
theorem stp_none {us : List AtomD} {S : St} (h : ∀ i, i < us.length → ∀ k, k < us.length → okE us S.left i k = false) : stp us S = none := by
  have e2 : ear us S.left = none := find_none (fun i hi => by rw [earK_none (h i hi)]; rfl)
  rw [stp, e2]

def fin (us : List AtomD) : Nat → St → St
  | 0, S => S
  | f + 1, S => match stp us S with
    | none => S
    | some S' => fin us f S'
theorem fin_none {us : List AtomD} {S : St} (f : Nat) (h : stp us S = none) : fin us f S = S := by
  cases f with
  | zero => rfl
  | succ f => rw [fin, h]
theorem fin_some {us : List AtomD} {S S' : St} (f : Nat) (h : stp us S = some S') : fin us (f + 1) S = fin us f S' := by rw [fin, h]
def S0 (n : Nat) : St := ⟨[], List.replicate n (-1), List.replicate n true⟩
/-- The end of the reduction. -/
def gyo (us : List AtomD) : St := fin us us.length (S0 us.length)
structure Inv (us : List AtomD) (S : St) : Prop where
  lu : S.up.length = us.length
  ll : S.left.length = us.length
  cnt : S.out.length + S.left.count true = us.length
  rts : S.up.count (-1) = S.left.count true
  pt : ∀ i (h : i < us.length) (h' : i < S.up.length), lv S.left i = true → S.up[i] = -1
  fin : gyo us = fin us (S.left.count true) S
theorem inv_zero (us : List AtomD) : Inv us (S0 us.length) := by
  refine ⟨by simp [S0], by simp [S0], by simp [S0], by simp [S0], fun i h h' _ => by simp [S0], ?_⟩
  have : (S0 us.length).left.count true = us.length := by simp [S0]
  rw [this]; rfl
theorem Inv.step {us : List AtomD} {S : St} {i k : Nat} (h : Inv us S) (hi : i < us.length) (hl : lv S.left i = true) (hs : stp us S = some ⟨S.out ++ [(i : Int)], S.up.set i (k : Int), S.left.set i false⟩) :
    Inv us ⟨S.out ++ [(i : Int)], S.up.set i (k : Int), S.left.set i false⟩ ∧ (S.left.set i false).count true + 1 = S.left.count true := by
  have hil : i < S.left.length := by rw [h.ll]; exact hi
  have hiu : i < S.up.length := by rw [h.lu]; exact hi
  have e1 : S.left[i] = true := by rw [← lv_at hil]; exact hl
  have e2 : S.up[i] = -1 := h.pt i hi hiu hl
  have hc : (S.left.set i false).count true + 1 = S.left.count true := by
    have hpos : 0 < S.left.count true := List.count_pos_iff.2 (by rw [← e1]; exact List.getElem_mem hil)
    rw [List.count_set hil, e1]
    simp
    omega
  have hcu : (S.up.set i (k : Int)).count (-1) + 1 = S.up.count (-1) := by
    have hpos : 0 < S.up.count (-1) := List.count_pos_iff.2 (by rw [← e2]; exact List.getElem_mem hiu)
    rw [List.count_set hiu, e2]
    have : ((k : Int) == -1) = false := by simp
    rw [this]
    simp
    omega
  refine ⟨⟨by simp [h.lu], by simp [h.ll], ?_, ?_, fun j hj hj' hlj => ?_, ?_⟩, hc⟩
  · have := h.cnt
    simp only [List.length_append, List.length_cons, List.length_nil]
    omega
  · show (S.up.set i (k : Int)).count (-1) = (S.left.set i false).count true
    have := h.rts
    omega
  · show (S.up.set i (k : Int))[j] = -1
    have hlj' : lv (S.left.set i false) j = true := hlj
    rw [lv_set, Bool.and_eq_true, decide_eq_true_eq] at hlj'
    rw [List.getElem_set_ne (fun e => hlj'.2 e.symm)]
    exact h.pt j hj (by rw [h.lu]; exact hj) hlj'.1
  · show gyo us = Gyo.fin us ((S.left.set i false).count true) _
    rw [h.fin, ← hc]
    exact fin_some _ hs
theorem Inv.done {us : List AtomD} {S : St} (h : Inv us S) (hs : stp us S = none) : gyo us = S := by rw [h.fin]; exact fin_none _ hs
end Go.Proofs.Ytaeeogighoobdaa.Gyo
