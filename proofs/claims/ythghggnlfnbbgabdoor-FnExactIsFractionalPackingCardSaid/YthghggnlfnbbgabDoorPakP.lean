/- Packings (no program in sight). -/
import Derived.Test.YthghggnlfnbbgabDoorCovP
import Derived.Test.YthghggnlfnbbgabDoorSmqS
import Derived.Test.YthghggnlfnbbgabDoorAtmVars
namespace Go.Proofs.YthghggnlfnbbgabDoor.PakP
open Go.RowKit
open Go.Proofs.YthghggnlfnbbgabDoor.Rat Go.Proofs.YthghggnlfnbbgabDoor.Rdr Go.Proofs.YthghggnlfnbbgabDoor.Dat Go.Proofs.YthghggnlfnbbgabDoor.VarName Go.Proofs.YthghggnlfnbbgabDoor.QryP Go.Proofs.YthghggnlfnbbgabDoor.Rats Go.Proofs.YthghggnlfnbbgabDoor.Smq Go.Proofs.YthghggnlfnbbgabDoor.SmqI Go.Proofs.YthghggnlfnbbgabDoor.SmqS Go.Proofs.YthghggnlfnbbgabDoor.Wgt Go.Proofs.YthghggnlfnbbgabDoor.CmpCalls Go.Proofs.YthghggnlfnbbgabDoor.CovP Go.Proofs.YthghggnlfnbbgabDoor.AtmVars
set_option linter.unusedVariables false

theorem leOne_no {o : Option RatD} (h : okQ o = false) : leOne o = false := by rw [okQ_none h]; rfl
theorem leOne_is {o : Option RatD} {s : Int} (h : okQ o = true) (hs : sgn (fstQ o * 1) (1 * sndQ o) = s) : leOne o = decide (¬ 0 < s) := by
  cases o with
  | none => cases h
  | some p => subst hs; rfl
theorem sumQ_fst {xs : List RatD} (h : okQ (sumQ xs) = true) : vr (fstQ (sumQ xs)) (sndQ (sumQ xs)) = true := sumQ_vr (okQ_some h)
/-- The weights of the first k variables that an atom holds. -/
def selA (a : List Int) (ws : List RatD) (k : Nat) : List RatD := vals ws (avs a k)
theorem selA_len (a : List Int) (ws : List RatD) (k : Nat) : (selA a ws k).length ≤ k := by rw [selA, vals_len]; exact avs_len a k
theorem selA_yes {a : List Int} {ws : List RatD} (k : Nat) (h2 : k < ws.length) (e : decide ((k : Int) ∈ a) = true) : selA a ws (k + 1) = selA a ws k ++ [ws[k]] := by
  rw [selA, avs_yes e, vals_app _ _ _ h2]; rfl
theorem selA_no {a : List Int} {ws : List RatD} (k : Nat) (e : decide ((k : Int) ∈ a) = false) : selA a ws (k + 1) = selA a ws k := by
  rw [selA, avs_no e]; rfl
theorem selA_bd {a : List Int} {ws : List RatD} {k : Nat} (h : ∀ j (h : j < ws.length), Ib ws[j].1 ∧ Ib ws[j].2) : ∀ j (hj : j < (selA a ws k).length), Ib (selA a ws k)[j].1 ∧ Ib (selA a ws k)[j].2 := vals_bd h
theorem avs_cut {xs : List Int} {n : Nat} (m : Nat) (h : ∀ v ∈ xs, v < (n : Int)) : avs xs (n + m) = avs xs n := by
  induction m with
  | zero => rfl
  | succ m ih =>
    rw [show n + (m + 1) = (n + m) + 1 by omega, avs_no (decide_eq_false (fun hm => by have := h _ hm; omega)), ih]
theorem avs_at (xs : List Int) (n : Nat) : ∀ j (h : j < (avs xs n).length), ∃ i : Nat, i < n ∧ (avs xs n)[j] = (i : Int) := by
  induction n with
  | zero => intro j h; simp [avs] at h
  | succ n ih =>
    intro j h
    cases e : decide ((n : Int) ∈ xs) with
    | true =>
      simp only [avs_yes e] at h ⊢
      by_cases hj : j < (avs xs n).length
      · obtain ⟨i, h1, h2⟩ := ih j hj
        exact ⟨i, by omega, by rw [List.getElem_append_left hj]; exact h2⟩
      · refine ⟨n, by omega, ?_⟩
        rw [List.getElem_append_right (by omega)]
        simp
    | false =>
      simp only [avs_no e] at h ⊢
      obtain ⟨i, h1, h2⟩ := ih j h
      exact ⟨i, by omega, h2⟩
theorem vq_lt {x : QueryD} (h : vq x = true) : ∀ a ∈ x.2.1, ∀ z ∈ a.2, z < x.1 := by
  unfold vq at h
  simp only [Bool.and_eq_true] at h
  obtain ⟨h1, h2, _, _⟩ := h
  intro a ha z hz
  unfold okAs at h2
  simp only [Bool.and_eq_true, List.all_eq_true] at h2
  have h3 := h2.2 a ha
  unfold okA at h3
  simp only [Bool.and_eq_true, List.all_eq_true] at h3
  have h4 := h3.2.2 z hz
  unfold isv at h4
  simp only [Bool.and_eq_true, decide_eq_true_eq] at h4
  exact h4.2
theorem avs_five {x : QueryD} (h : vq x = true) (j : Nat) (hj : j < x.2.1.length) : avs x.2.1[j].2 5 = avs x.2.1[j].2 x.1.toNat := by
  have hb := vq_bd h
  have e : 5 = x.1.toNat + (5 - x.1.toNat) := by omega
  rw [e, avs_cut]
  intro v hv
  have := vq_lt h _ (List.getElem_mem hj) v hv
  omega
def pakB (x : QueryD) (ws : List RatD) : Bool := x.2.1.all fun a => leOne (sumQ (selA a.2 ws x.1.toNat))
def pak (x : QueryD) (ws : List RatD) : Bool := vq x && ((adm ws && ((ws.length : Int) == x.1)) && pakB x ws)
theorem pak_q {x : QueryD} {ws : List RatD} (h : vq x = false) : pak x ws = false := by rw [pak, h]; rfl
theorem pak_a {x : QueryD} {ws : List RatD} (h : (adm ws && ((ws.length : Int) == x.1)) = false) : pak x ws = false := by rw [pak, h, Bool.false_and, Bool.and_false]
theorem pak_b {x : QueryD} {ws : List RatD} {b : Bool} (h0 : vq x = true) (h : (adm ws && ((ws.length : Int) == x.1)) = true) (h2 : pakB x ws = b) : pak x ws = b := by rw [pak, h0, h, h2]; rfl
theorem pakB_no {x : QueryD} {ws : List RatD} (j : Nat) (h : j < x.2.1.length) (e : leOne (sumQ (selA x.2.1[j].2 ws x.1.toNat)) = false) : pakB x ws = false := all_no j h e
theorem pakB_yes {x : QueryD} {ws : List RatD} (h : ∀ j (h : j < x.2.1.length), leOne (sumQ (selA x.2.1[j].2 ws x.1.toNat)) = true) : pakB x ws = true := all_yes h
end Go.Proofs.YthghggnlfnbbgabDoor.PakP
