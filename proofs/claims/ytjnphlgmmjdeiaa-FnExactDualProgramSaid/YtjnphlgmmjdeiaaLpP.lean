/- Linear programs: valid ones, feasible points (no program in sight but the two comparisons). -/
import Derived.Test.YtjnphlgmmjdeiaaLp
import Derived.Test.YtjnphlgmmjdeiaaLinP
import Derived.Test.YtjnphlgmmjdeiaaWt
import Derived.Test.YtjnphlgmmjdeiaaCmpCalls
namespace Go.Proofs.Ytjnphlgmmjdeiaa.LpP
open Go.RowKit
open Go.Proofs.Ytjnphlgmmjdeiaa.Rat Go.Proofs.Ytjnphlgmmjdeiaa.Rats Go.Proofs.Ytjnphlgmmjdeiaa.RatOwn Go.Proofs.Ytjnphlgmmjdeiaa.RatsSS Go.Proofs.Ytjnphlgmmjdeiaa.Lp Go.Proofs.Ytjnphlgmmjdeiaa.LinP Go.Proofs.Ytjnphlgmmjdeiaa.AllV Go.Proofs.Ytjnphlgmmjdeiaa.Wt Go.Proofs.Ytjnphlgmmjdeiaa.CmpCalls
set_option linter.unusedVariables false

def inP (n : Nat) : Bool := decide (1 ≤ n ∧ n ≤ 5)
def okLp (x : LpD) : Bool := inP x.2.2.length && (inP x.2.1.length && (decide (x.1.length = x.2.1.length) && (okM x.1 x.2.2.length && (allV x.2.1 && allV x.2.2))))
/-- What a valid program's parts are. -/
theorem okLp_at {x : LpD} (h : okLp x = true) : (1 ≤ x.2.2.length ∧ x.2.2.length ≤ 5) ∧ (1 ≤ x.2.1.length ∧ x.2.1.length ≤ 5) ∧ x.1.length = x.2.1.length ∧ okM x.1 x.2.2.length = true ∧ allV x.2.1 = true ∧ allV x.2.2 = true := by
  unfold okLp inP at h
  simp only [Bool.and_eq_true, decide_eq_true_eq] at h
  exact h

def cmpQ (p q : RatD) : Int := if (vr p.1 p.2 && vr q.1 q.2) = true then sgn (p.1 * q.2) (q.1 * p.2) else 0
theorem sgn_anti (a b : Int) : sgn b a = - sgn a b := by
  rcases (by omega : a < b ∨ b < a ∨ a = b) with h | h | h
  · rw [sgn_lt h, sgn_gt h]; rfl
  · rw [sgn_gt h, sgn_lt h]
  · rw [sgn_eq h, sgn_eq h.symm]; rfl
theorem cmpQ_anti (p q : RatD) : cmpQ q p = - cmpQ p q := by
  unfold cmpQ
  rw [Bool.and_comm]
  split
  · exact sgn_anti _ _
  · rfl
theorem sgn_vals (a b : Int) : -1 ≤ sgn a b ∧ sgn a b ≤ 1 := by unfold sgn; split <;> (try split) <;> omega
theorem cmpQ_vals (p q : RatD) : -1 ≤ cmpQ p q ∧ cmpQ p q ≤ 1 := by
  unfold cmpQ
  split
  · exact sgn_vals _ _
  · omega
theorem impl_cmpQ (p q : RatD) (w : World) (p1 : Ib p.1) (p2 : Ib p.2) (h1 : Ib q.1) (h2 : Ib q.2) : Calls Try.prog 28 #[.agg #[.int .i64 p.1, .int .i64 p.2], .agg #[.int .i64 q.1, .int .i64 q.2]] w fun e w' => e = .returned (.int .i64 (cmpQ p q)) ∧ Below w.heap.size w w' := by
  unfold cmpQ
  cases hp : vr p.1 p.2 with
  | true =>
    cases hq : vr q.1 q.2 with
    | true => exact impl_cmp_yes p.1 p.2 q.1 q.2 w hp hq
    | false => exact impl_cmp_no p.1 p.2 q.1 q.2 w p1 p2 h1 h2 (by rw [hp, hq]; rfl)
  | false => exact impl_cmp_no p.1 p.2 q.1 q.2 w p1 p2 h1 h2 (by rw [hp]; rfl)
theorem spec_cmpQ (p q : RatD) (w : World) (p1 : Ib p.1) (p2 : Ib p.2) (h1 : Ib q.1) (h2 : Ib q.2) : Calls Try.prog 103 #[.agg #[.int .i64 p.1, .int .i64 p.2], .agg #[.int .i64 q.1, .int .i64 q.2]] w fun e w' => e = .returned (.int .i64 (cmpQ p q)) ∧ Below w.heap.size w w' := by
  unfold cmpQ
  cases hp : vr p.1 p.2 with
  | true =>
    cases hq : vr q.1 q.2 with
    | true => exact spec_cmp_yes p.1 p.2 q.1 q.2 w hp hq
    | false => exact spec_cmp_no p.1 p.2 q.1 q.2 w p1 p2 h1 h2 (by rw [hp, hq]; rfl)
  | false => exact spec_cmp_no p.1 p.2 q.1 q.2 w p1 p2 h1 h2 (by rw [hp]; rfl)

/-- No element of xs is greater than that of ys. -/
def atMost (xs ys : List RatD) : Bool := (List.range xs.length).all fun i => decide (¬ 0 < cmpQ (xs.getD i (0, 0)) (ys.getD i (0, 0)))
def amTo (xs ys : List RatD) (k : Nat) : Prop := ∀ j (h : j < xs.length) (h' : j < ys.length), j < k → ¬ 0 < cmpQ xs[j] ys[j]
theorem getD_of {xs : List RatD} {j : Nat} (h : j < xs.length) : xs.getD j (0, 0) = xs[j] := by rw [List.getD_eq_getElem?_getD, List.getElem?_eq_getElem h]; rfl
theorem am_yes {xs ys : List RatD} (hl : xs.length = ys.length) (h : amTo xs ys xs.length) : atMost xs ys = true := List.all_eq_true.2 fun j hj => by
  have hj := List.mem_range.1 hj
  rw [decide_eq_true_eq, getD_of hj, getD_of (by omega : j < ys.length)]
  exact h j hj (by omega) hj
theorem am_no {xs ys : List RatD} {k : Nat} (hk : k < xs.length) (hk' : k < ys.length) (h : 0 < cmpQ xs[k] ys[k]) : atMost xs ys = false := by
  cases hb : atMost xs ys with
  | false => rfl
  | true =>
    have := List.all_eq_true.1 hb k (List.mem_range.2 hk)
    rw [decide_eq_true_eq, getD_of hk, getD_of hk'] at this
    exact absurd h this
theorem amTo_step {xs ys : List RatD} {k : Nat} (h : amTo xs ys k) (hk : k < xs.length) (hk' : k < ys.length) (hv : ¬ 0 < cmpQ xs[k] ys[k]) : amTo xs ys (k + 1) := fun j hj hj' hjk => by
  by_cases e : j = k
  · subst e; exact hv
  · exact h j hj hj' (by omega)

/-- The side of a program on which its products must lie: mn: at least, else: at most. -/
def side (mn : Bool) (y b : List RatD) : Bool := if mn then atMost b y else atMost y b
def sgOf (mn : Bool) : Int := if mn then 1 else -1
def sdTo (mn : Bool) (y b : List RatD) (k : Nat) : Prop := ∀ j (h : j < y.length) (h' : j < b.length), j < k → ¬ cmpQ y[j] b[j] * sgOf mn < 0
theorem sd_yes {mn : Bool} {y b : List RatD} (hl : y.length = b.length) (h : sdTo mn y b y.length) : side mn y b = true := by
  unfold side
  cases mn with
  | true =>
    refine am_yes hl.symm fun j hj hj' hk => ?_
    have := h j hj' hj hj'
    rw [cmpQ_anti]; simp [sgOf] at this; omega
  | false =>
    refine am_yes hl fun j hj hj' hk => ?_
    have := h j hj hj' hj
    simp [sgOf] at this; omega
theorem sd_no {mn : Bool} {y b : List RatD} {k : Nat} (hk : k < y.length) (hk' : k < b.length) (h : cmpQ y[k] b[k] * sgOf mn < 0) : side mn y b = false := by
  unfold side
  cases mn with
  | true => exact am_no hk' hk (by rw [cmpQ_anti]; simp [sgOf] at h; omega)
  | false => exact am_no hk hk' (by simp [sgOf] at h; omega)
theorem sdTo_step {mn : Bool} {y b : List RatD} {k : Nat} (h : sdTo mn y b k) (hk : k < y.length) (hk' : k < b.length) (hv : ¬ cmpQ y[k] b[k] * sgOf mn < 0) : sdTo mn y b (k + 1) := fun j hj hj' hjk => by
  by_cases e : j = k
  · subst e; exact hv
  · exact h j hj hj' (by omega)

/-- The products at a point that may be one of the program's. -/
def ppQ (x : LpD) (pt : List RatD) : Option (List RatD) := if okLp x = true ∧ pt.length = x.2.2.length ∧ nn pt = true then mvQ x.1 pt else none
def feas (mn : Bool) (x : LpD) (pt : List RatD) : Bool := match ppQ x pt with
  | none => false
  | some y => side mn y x.2.1
theorem pp_len {x : LpD} {pt y : List RatD} (h : ppQ x pt = some y) : y.length = x.2.1.length := by
  unfold ppQ at h
  split at h
  · next hx => rw [mv_len h]; exact (okLp_at hx.1).2.2.1
  · cases h
theorem pp_iba {x : LpD} {pt y : List RatD} (h : ppQ x pt = some y) : IbA y := by
  unfold ppQ at h
  split at h
  · exact mv_iba h
  · cases h
theorem pp_yes {x : LpD} {pt : List RatD} (h1 : okLp x = true) (h2 : pt.length = x.2.2.length) (h3 : nn pt = true) : ppQ x pt = mvQ x.1 pt := if_pos ⟨h1, h2, h3⟩
theorem pp_no1 {x : LpD} {pt : List RatD} (h : okLp x = false) : ppQ x pt = none := if_neg fun e => by rw [h] at e; cases e.1
theorem pp_no2 {x : LpD} {pt : List RatD} (h : ¬ pt.length = x.2.2.length) : ppQ x pt = none := if_neg fun e => h e.2.1
theorem pp_no3 {x : LpD} {pt : List RatD} (h : nn pt = false) : ppQ x pt = none := if_neg fun e => by rw [h] at e; cases e.2.2
theorem feas_none {mn : Bool} {x : LpD} {pt : List RatD} (h : ppQ x pt = none) : feas mn x pt = false := by unfold feas; rw [h]
theorem feas_some {mn : Bool} {x : LpD} {pt y : List RatD} (h : ppQ x pt = some y) : feas mn x pt = side mn y x.2.1 := by unfold feas; rw [h]
end Go.Proofs.Ytjnphlgmmjdeiaa.LpP
