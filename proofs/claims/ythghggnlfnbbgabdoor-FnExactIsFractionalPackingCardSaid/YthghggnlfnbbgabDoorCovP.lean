/- Which weights belong to a variable, to an atom; covers and packings (no program in sight). -/
import Derived.Test.YthghggnlfnbbgabDoorQryP
import Derived.Test.YthghggnlfnbbgabDoorSmq
import Derived.Test.YthghggnlfnbbgabDoorWgt
import Derived.Test.YthghggnlfnbbgabDoorCmpCalls
namespace Go.Proofs.YthghggnlfnbbgabDoor.CovP
open Go.RowKit
open Go.Proofs.YthghggnlfnbbgabDoor.Rat Go.Proofs.YthghggnlfnbbgabDoor.Rdr Go.Proofs.YthghggnlfnbbgabDoor.Dat Go.Proofs.YthghggnlfnbbgabDoor.QryP Go.Proofs.YthghggnlfnbbgabDoor.Rats Go.Proofs.YthghggnlfnbbgabDoor.Smq Go.Proofs.YthghggnlfnbbgabDoor.Wgt Go.Proofs.YthghggnlfnbbgabDoor.CmpCalls
set_option linter.unusedVariables false

/-- The indices below k of the atoms that hold v. -/
def idx (us : List AtomD) (v : Int) : Nat → List Int
  | 0 => []
  | k + 1 => if decide (v ∈ (us.getD k (ByteArray.empty, [])).2) = true then idx us v k ++ [(k : Int)] else idx us v k
theorem idx_yes {us : List AtomD} {v : Int} (k : Nat) (h : k < us.length) (e : decide (v ∈ us[k].2) = true) : idx us v (k + 1) = idx us v k ++ [(k : Int)] := by
  rw [idx, List.getD_eq_getElem?_getD, List.getElem?_eq_getElem h]
  exact if_pos e
theorem idx_no {us : List AtomD} {v : Int} (k : Nat) (h : k < us.length) (e : decide (v ∈ us[k].2) = false) : idx us v (k + 1) = idx us v k := by
  rw [idx, List.getD_eq_getElem?_getD, List.getElem?_eq_getElem h]
  exact if_neg (by show ¬ decide (v ∈ us[k].2) = true; rw [e]; decide)
theorem idx_len (us : List AtomD) (v : Int) (k : Nat) : (idx us v k).length ≤ k := by
  induction k with
  | zero => exact Nat.le_refl _
  | succ k ih =>
    unfold idx
    split
    · simp; omega
    · omega
theorem idx_lt (us : List AtomD) (v : Int) (k : Nat) : ∀ j (h : j < (idx us v k).length), ∃ i : Nat, i < k ∧ (idx us v k)[j] = (i : Int) := by
  induction k with
  | zero => intro j h; simp [idx] at h
  | succ k ih =>
    intro j h
    by_cases e : decide (v ∈ (us.getD k (ByteArray.empty, [])).2) = true
    · have e2 : idx us v (k + 1) = idx us v k ++ [(k : Int)] := by rw [idx, if_pos e]
      simp only [e2] at h ⊢
      by_cases hj : j < (idx us v k).length
      · obtain ⟨i, h1, h2⟩ := ih j hj
        exact ⟨i, by omega, by rw [List.getElem_append_left hj]; exact h2⟩
      · refine ⟨k, by omega, ?_⟩
        rw [List.getElem_append_right (by omega)]
        simp
    · have e2 : idx us v (k + 1) = idx us v k := by rw [idx, if_neg e]
      simp only [e2] at h ⊢
      obtain ⟨i, h1, h2⟩ := ih j h
      exact ⟨i, by omega, h2⟩
/-- The weights at places. -/
def vals (ws : List RatD) (cs : List Int) : List RatD := cs.map fun c => ws.getD c.toNat (0, 0)
theorem vals_len (ws : List RatD) (cs : List Int) : (vals ws cs).length = cs.length := by simp [vals]
theorem vals_at (ws : List RatD) (cs : List Int) (k j : Nat) (h : k < cs.length) (hj : j < ws.length) (e : cs[k] = (j : Int)) (h' : k < (vals ws cs).length) : (vals ws cs)[k] = ws[j] := by
  simp [vals, e, List.getElem?_eq_getElem hj]
theorem vals_app (ws : List RatD) (cs : List Int) (k : Nat) (h : k < ws.length) : vals ws (cs ++ [(k : Int)]) = vals ws cs ++ [ws[k]] := by
  simp [vals, List.getElem?_eq_getElem h]
/-- The weights of the first k atoms that hold v. -/
def sel (us : List AtomD) (ws : List RatD) (v : Int) (k : Nat) : List RatD := vals ws (idx us v k)
theorem sel_len (us : List AtomD) (ws : List RatD) (v : Int) (k : Nat) : (sel us ws v k).length ≤ k := by rw [sel, vals_len]; exact idx_len us v k
theorem sel_yes {us : List AtomD} {ws : List RatD} {v : Int} (k : Nat) (h : k < us.length) (h2 : k < ws.length) (e : decide (v ∈ us[k].2) = true) : sel us ws v (k + 1) = sel us ws v k ++ [ws[k]] := by
  rw [sel, idx_yes k h e, vals_app _ _ _ h2]; rfl
theorem sel_no {us : List AtomD} {ws : List RatD} {v : Int} (k : Nat) (h : k < us.length) (e : decide (v ∈ us[k].2) = false) : sel us ws v (k + 1) = sel us ws v k := by
  rw [sel, idx_no k h e]; rfl
theorem vals_bd {ws : List RatD} {cs : List Int} (h : ∀ j (h : j < ws.length), Ib ws[j].1 ∧ Ib ws[j].2) : ∀ j (hj : j < (vals ws cs).length), Ib (vals ws cs)[j].1 ∧ Ib (vals ws cs)[j].2 := by
  intro j hj
  have hm : (vals ws cs)[j] ∈ vals ws cs := List.getElem_mem hj
  generalize (vals ws cs)[j] = x at hm
  unfold vals at hm
  rw [List.mem_map] at hm
  obtain ⟨c, _, rfl⟩ := hm
  rw [List.getD_eq_getElem?_getD]
  cases hc : ws[c.toNat]? with
  | none => exact ⟨⟨by decide, by decide⟩, ⟨by decide, by decide⟩⟩
  | some y =>
    obtain ⟨hl, rfl⟩ := List.getElem?_eq_some_iff.1 hc
    exact h _ hl
/-- Is the sum there, and 1 or more? -/
def geOne (o : Option RatD) : Bool := match o with
  | some p => decide (¬ sgn (p.1 * 1) (1 * p.2) < 0)
  | none => false
/-- Is the sum there, and 1 or less? -/
def leOne (o : Option RatD) : Bool := match o with
  | some p => decide (¬ 0 < sgn (p.1 * 1) (1 * p.2))
  | none => false
def covB (x : QueryD) (ws : List RatD) : Bool := (List.range x.1.toNat).all fun v => geOne (sumQ (sel x.2.1 ws (v : Int) x.2.1.length))
def cov (x : QueryD) (ws : List RatD) : Bool := vq x && ((adm ws && ((ws.length : Int) == (x.2.1.length : Int))) && covB x ws)
theorem cov_q {x : QueryD} {ws : List RatD} (h : vq x = false) : cov x ws = false := by rw [cov, h]; rfl
theorem cov_a {x : QueryD} {ws : List RatD} (h : (adm ws && ((ws.length : Int) == (x.2.1.length : Int))) = false) : cov x ws = false := by rw [cov, h, Bool.false_and, Bool.and_false]
theorem cov_b {x : QueryD} {ws : List RatD} {b : Bool} (h0 : vq x = true) (h : (adm ws && ((ws.length : Int) == (x.2.1.length : Int))) = true) (h2 : covB x ws = b) : cov x ws = b := by rw [cov, h0, h, h2]; rfl
theorem covB_no {x : QueryD} {ws : List RatD} (v : Nat) (h : (v : Int) < x.1) (e : geOne (sumQ (sel x.2.1 ws (v : Int) x.2.1.length)) = false) : covB x ws = false := range_no (by omega) e
theorem covB_yes {x : QueryD} {ws : List RatD} (h : ∀ v : Nat, (v : Int) < x.1 → geOne (sumQ (sel x.2.1 ws (v : Int) x.2.1.length)) = true) : covB x ws = true := range_yes (fun k hk => h k (by omega))
theorem adm_both {ws : List RatD} {n : Int} (h : (adm ws && ((ws.length : Int) == n)) = true) : adm ws = true ∧ (ws.length : Int) = n := by
  rw [Bool.and_eq_true, beq_iff_eq] at h
  exact h
theorem vq_bd {x : QueryD} (h : vq x = true) : 1 ≤ x.1 ∧ x.1 ≤ 5 ∧ 1 ≤ x.2.1.length ∧ x.2.1.length ≤ 4 := by
  unfold vq okAs at h
  simp only [Bool.and_eq_true] at h
  have h1 := h.1
  have h2 := h.2.1.1
  unfold VarName.inR at h1 h2
  simp only [Bool.and_eq_true, decide_eq_true_eq] at h1 h2
  omega
theorem one_vr : vr 1 1 = true := by decide
end Go.Proofs.YthghggnlfnbbgabDoor.CovP
