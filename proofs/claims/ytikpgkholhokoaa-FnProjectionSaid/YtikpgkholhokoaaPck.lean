/- Columns picked out of a row: what Project answers. -/
import Derived.Test.YtikpgkholhokoaaPckO
import Derived.Test.YtikpgkholhokoaaIntLaw
import Derived.Test.YtikpgkholhokoaaHasL
import Derived.Test.YtikpgkholhokoaaSrtD
import Derived.Test.YtikpgkholhokoaaRelKit
import Derived.Test.YtikpgkholhokoaaVarName
namespace Go.Proofs.Ytikpgkholhokoaa.Pck
open Go.RowKit
open Go.Proofs.Ytikpgkholhokoaa.Num Go.Proofs.Ytikpgkholhokoaa.IntRow Go.Proofs.Ytikpgkholhokoaa.IntLaw Go.Proofs.Ytikpgkholhokoaa.Grid Go.Proofs.Ytikpgkholhokoaa.GridMore Go.Proofs.Ytikpgkholhokoaa.GridLaw Go.Proofs.Ytikpgkholhokoaa.HasL Go.Proofs.Ytikpgkholhokoaa.Asc Go.Proofs.Ytikpgkholhokoaa.SrtD Go.Proofs.Ytikpgkholhokoaa.RelTot
set_option linter.unusedVariables false

def prj0 (n : Int) (xss : List (List Int)) (cs : List Int) : Bool := vrel n xss && (decide (cs.length ≤ 5) && colsOk n cs)
def prjM (xss : List (List Int)) (cs : List Int) : List (List Int) := xss.map fun r => pick r cs
def prjOk (n : Int) (xss : List (List Int)) (cs : List Int) : Bool := prj0 n xss cs && newOk (cs.length : Int) (prjM xss cs)
def prjR (n : Int) (xss : List (List Int)) (cs : List Int) : List (List Int) := if prj0 n xss cs then newR (cs.length : Int) (prjM xss cs) else []
def prjN (n : Int) (xss : List (List Int)) (cs : List Int) : Int := if prj0 n xss cs then newN (cs.length : Int) (prjM xss cs) else 0
theorem prj_no {n : Int} {xss : List (List Int)} {cs : List Int} (h : prj0 n xss cs = false) : prjOk n xss cs = false ∧ prjR n xss cs = [] ∧ prjN n xss cs = 0 := by simp [prjOk, prjR, prjN, h]
theorem prj_yes {n : Int} {xss : List (List Int)} {cs : List Int} (h : prj0 n xss cs = true) : prjOk n xss cs = newOk (cs.length : Int) (prjM xss cs) ∧ prjR n xss cs = newR (cs.length : Int) (prjM xss cs) ∧ prjN n xss cs = newN (cs.length : Int) (prjM xss cs) := by simp [prjOk, prjR, prjN, h]
theorem prj_parts {n : Int} {xss : List (List Int)} {cs : List Int} (h : prj0 n xss cs = true) : vrel n xss = true ∧ cs.length ≤ 5 ∧ colsOk n cs = true := by
  simp only [prj0, Bool.and_eq_true, decide_eq_true_eq] at h
  exact ⟨h.1, h.2.1, h.2.2⟩
theorem tot_prjM {n : Int} {xss : List (List Int)} {cs : List Int} (h : vrel n xss = true) (h5 : cs.length ≤ 5) : tot (prjM xss cs) ≤ 24000 := by
  obtain ⟨_, hl, _⟩ := vrel_parts h
  have : ∀ (m : List (List Int)), ((prjM m cs).map List.length).sum = cs.length * m.length := fun m => by
    induction m with
    | nil => simp [prjM]
    | cons x m ih =>
      have e : prjM (x :: m) cs = pick x cs :: prjM m cs := rfl
      rw [e, List.map_cons, List.sum_cons, ih, pick_len, List.length_cons, Nat.mul_succ, Nat.add_comm]
  have h1 := this xss
  have h2 : (prjM xss cs).length = xss.length := by simp [prjM]
  have h3 : cs.length * xss.length ≤ 5 * 4000 := Nat.mul_le_mul h5 hl
  unfold tot
  omega
theorem tot_prjR (n : Int) (xss : List (List Int)) (cs : List Int) : tot (prjR n xss cs) ≤ 24000 := by
  unfold prjR
  split
  · exact tot_new _ _
  · decide

/-- impl.areColumns. -/
theorem impl_cols (b : Option Addr) (capb B' : Nat) (cs : List Int) (n : Int) (w : World) (hm : cs.length ≤ 1048576) (h' : Rd w B' b cs) :
    Calls Try.prog 24 #[.slice b cs.length capb, .int .i64 n] w fun e w' => e = .returned (.bool (decide (cs.length ≤ 5) && colsOk n cs)) ∧ w = w' := by
  by_cases h5 : cs.length ≤ 5
  · have h5' : ¬ (5 : Int) < (cs.length : Int) := by omega
    have HD := hid (show decide (cs.length ≤ 5) = true by simpa using h5)
    clear h5
    go_enter Try.func24, Try.ntmps24
    go_wp2
    go_loop [6, 12] (fun _ i => ∃ k : Nat, k ≤ cs.length ∧ i = .int .i64 k ∧ Hid (∀ j (h : j < cs.length), j < k → 0 ≤ cs[j] ∧ cs[j] < n)) (fun _ i => cs.length - (intOf i).toNat)
    case atStart => exact ⟨0, Nat.zero_le _, rfl, hid (fun j _ h => by omega)⟩
    case round =>
      obtain ⟨k, hk, rfl, hall⟩ := hrel
      by_cases hlt : k < cs.length
      · obtain ⟨bc, offc, rfl, _, hc1⟩ := h' (by omega)
        have g1 := hc1 k hlt
        have hk' : (k : Int) < (cs.length : Int) := by omega
        have hk0 : (0 : Int) ≤ (k : Int) := by omega
        clear hc1
        by_cases hneg : cs[k] < 0
        · have hf := hid (cols_no (n := n) k hlt (.inl hneg))
          go_wp2
          go_ret
          exact ⟨by rw [hf.out, Bool.and_false]; rfl, rfl⟩
        · by_cases hge : n ≤ cs[k]
          · have hf := hid (cols_no (n := n) k hlt (.inr hge))
            go_wp2
            go_ret
            exact ⟨by rw [hf.out, Bool.and_false]; rfl, rfl⟩
          · have HA := hid (show ∀ j (h : j < cs.length), j < k + 1 → 0 ≤ cs[j] ∧ cs[j] < n from fun j hj hjk => by
              by_cases e : j = k
              · subst e; omega
              · exact hall.out j hj (by omega))
            go_wp2
            go_round
            case rel => exact ⟨k + 1, by omega, by go_num, HA⟩
            case measure => simp [intOf]; omega
      · have hf := hid (cols_yes (n := n) (fun j hj => hall.out j hj (by omega)))
        have hk' : ¬ (k : Int) < (cs.length : Int) := by omega
        go_wp2
        go_ret
        exact ⟨by rw [hf.out, HD.out]; rfl, rfl⟩
  · have h5' : (5 : Int) < (cs.length : Int) := by omega
    have HD := hid (show decide (cs.length ≤ 5) = false by simpa using h5)
    clear h5
    go_enter Try.func24, Try.ntmps24
    go_wp2
    go_ret
    exact ⟨by rw [HD.out]; rfl, rfl⟩
end Go.Proofs.Ytikpgkholhokoaa.Pck
