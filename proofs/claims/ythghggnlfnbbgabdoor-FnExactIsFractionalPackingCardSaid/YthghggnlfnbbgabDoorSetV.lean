/- Sets of variables as numbers below 32: what the bits say; the list of a set. Of no program. -/
import Derived.WalkKit
import Derived.Lib.TrailingZeros
namespace Go.Proofs.YthghggnlfnbbgabDoor.SetV
open Go.RowKit
set_option linter.unusedVariables false

/-- The numbers below k of which p holds, ascending. -/
def fl (p : Nat → Bool) : Nat → List Int
  | 0 => []
  | k + 1 => if p k = true then fl p k ++ [(k : Int)] else fl p k
theorem fl_yes {p : Nat → Bool} {k : Nat} (h : p k = true) : fl p (k + 1) = fl p k ++ [(k : Int)] := by rw [fl, if_pos h]
theorem fl_no {p : Nat → Bool} {k : Nat} (h : p k = false) : fl p (k + 1) = fl p k := by rw [fl, if_neg (by rw [h]; decide)]
theorem fl_len (p : Nat → Bool) (k : Nat) : (fl p k).length ≤ k := by
  induction k with
  | zero => exact Nat.le_refl _
  | succ k ih =>
    rw [fl]
    split
    · simp; exact ih
    · omega
theorem fl_congr {p q : Nat → Bool} (k : Nat) (h : ∀ v, v < k → p v = q v) : fl p k = fl q k := by
  induction k with
  | zero => rfl
  | succ k ih => rw [fl, fl, h k (by omega), ih (fun v hv => h v (by omega))]
/-- Nothing from n on. -/
theorem fl_cut {p : Nat → Bool} {n : Nat} (m : Nat) (h : ∀ v, n ≤ v → v < n + m → p v = false) : fl p (n + m) = fl p n := by
  induction m with
  | zero => rfl
  | succ m ih => rw [show n + (m + 1) = (n + m) + 1 by omega, fl_no (h _ (by omega) (by omega)), ih (fun v h1 h2 => h v h1 (by omega))]

/-- m is the number of the set of those below 5 of which p holds. -/
def Is (m : Nat) (p : Nat → Bool) : Prop := m < 32 ∧ ∀ v, v < 5 → m.testBit v = p v
theorem is_congr {m : Nat} {p q : Nat → Bool} (h : Is m p) (e : ∀ v, v < 5 → p v = q v) : Is m q := ⟨h.1, fun v hv => (h.2 v hv).trans (e v hv)⟩
theorem high {m : Nat} (h : m < 32) {v : Nat} (hv : 5 ≤ v) : m.testBit v = false :=
  Nat.testBit_lt_two_pow (Nat.lt_of_lt_of_le h (by have : 2 ^ 5 ≤ 2 ^ v := Nat.pow_le_pow_right (by decide) hv; exact this))
theorem is_eq {m n : Nat} {p q : Nat → Bool} (h : Is m p) (k : Is n q) (e : ∀ v, v < 5 → p v = q v) : m = n := by
  apply Nat.eq_of_testBit_eq
  intro v
  by_cases hv : v < 5
  · rw [h.2 v hv, k.2 v hv, e v hv]
  · rw [high h.1 (by omega), high k.1 (by omega)]
theorem is_self {m : Nat} (h : m < 32) : Is m m.testBit := ⟨h, fun _ _ => rfl⟩
theorem is_zero : Is 0 (fun _ => false) := ⟨by decide, fun v _ => Nat.zero_testBit v⟩
theorem lt32 {m : Nat} (h : ∀ v, 5 ≤ v → m.testBit v = false) : m < 32 := by
  have := Nat.lt_pow_two_of_testBit (n := 5) m (fun i hi => h i hi)
  simpa using this
theorem is_or {m n : Nat} {p q : Nat → Bool} (h : Is m p) (k : Is n q) : Is (m ||| n) (fun v => p v || q v) :=
  ⟨lt32 (fun v hv => by rw [Nat.testBit_or, high h.1 hv, high k.1 hv]; rfl), fun v hv => by rw [Nat.testBit_or, h.2 v hv, k.2 v hv]⟩
theorem is_and {m n : Nat} {p q : Nat → Bool} (h : Is m p) (k : Is n q) : Is (m &&& n) (fun v => p v && q v) :=
  ⟨lt32 (fun v hv => by rw [Nat.testBit_and, high h.1 hv]; rfl), fun v hv => by rw [Nat.testBit_and, h.2 v hv, k.2 v hv]⟩
theorem is_sub {m n : Nat} {p q : Nat → Bool} (h : Is m p) (k : Is n q) : Is (m ^^^ (m &&& n)) (fun v => p v && !q v) :=
  ⟨lt32 (fun v hv => by rw [Nat.testBit_xor, Nat.testBit_and, high h.1 hv]; rfl), fun v hv => by rw [Nat.testBit_xor, Nat.testBit_and, h.2 v hv, k.2 v hv]; show (p v ^^ (p v && q v)) = (p v && !q v); cases p v <;> cases q v <;> rfl⟩
theorem is_one {k : Nat} (h : k < 5) : Is (2 ^ k) (fun v => decide (k = v)) :=
  ⟨by have : 2 ^ k ≤ 2 ^ 4 := Nat.pow_le_pow_right (by decide) (by omega); omega, fun v hv => by rw [Nat.testBit_two_pow]⟩
theorem is_none {m : Nat} {p : Nat → Bool} (h : Is m p) (e : ∀ v, v < 5 → p v = false) : m = 0 := is_eq h is_zero e
theorem is_some {m : Nat} {p : Nat → Bool} (h : Is m p) {v : Nat} (hv : v < 5) (e : p v = true) : m ≠ 0 := by
  intro hm
  have := h.2 v hv
  rw [hm, Nat.zero_testBit, e] at this
  cases this

/-- The list of the set m. -/
def lst (m : Nat) : List Int := fl m.testBit 5
theorem lst_is {m : Nat} {p : Nat → Bool} (h : Is m p) : lst m = fl p 5 := fl_congr 5 h.2
theorem lst_len (m : Nat) : (lst m).length ≤ 5 := fl_len _ 5
theorem lst_zero : lst 0 = [] := by decide
theorem lst_step_fin : ∀ r : Fin 32, r.val ≠ 0 → lst r.val = (Lib.ctz 64 r.val : Int) :: lst (r.val &&& (r.val - 1)) ∧ Lib.ctz 64 r.val < 5 ∧ (r.val &&& (r.val - 1)) < r.val := by decide
theorem lst_step {r : Nat} (h : r < 32) (h0 : r ≠ 0) : lst r = (Lib.ctz 64 r : Int) :: lst (r &&& (r - 1)) ∧ Lib.ctz 64 r < 5 ∧ (r &&& (r - 1)) < r := lst_step_fin ⟨r, h⟩ h0

/-! ### the operations on numbers of 64 bits -/
theorem wrap_u (n : Nat) (h : n < 18446744073709551616) : IntKind.u64.wrap (n : Int) = (n : Int) := by
  unfold IntKind.wrap
  simp [IntKind.signed, IntKind.bits]
  omega
theorem of_nat (n : Nat) (h : n < 18446744073709551616) : (BitVec.ofInt 64 (n : Int)).toNat = n := by
  simp
  omega
theorem u_or {m n : Nat} (h : m < 32) (k : n < 32) : bits .or .u64 (m : Int) (n : Int) = ((m ||| n : Nat) : Int) := by
  show IntKind.u64.wrap ((BitVec.ofInt 64 (m : Int) ||| BitVec.ofInt 64 (n : Int)).toNat : Int) = _
  rw [BitVec.toNat_or, of_nat m (by omega), of_nat n (by omega)]
  exact wrap_u _ (Nat.lt_trans (is_or (is_self h) (is_self k)).1 (by decide))
theorem u_and {m n : Nat} (h : m < 32) (k : n < 18446744073709551616) : bits .and .u64 (m : Int) (n : Int) = ((m &&& n : Nat) : Int) := by
  show IntKind.u64.wrap ((BitVec.ofInt 64 (m : Int) &&& BitVec.ofInt 64 (n : Int)).toNat : Int) = _
  rw [BitVec.toNat_and, of_nat m (by omega), of_nat n (by omega)]
  exact wrap_u _ (Nat.lt_of_le_of_lt Nat.and_le_left (by omega))
theorem andnot_fin : ∀ m n : Fin 32, (BitVec.ofNat 64 m.val &&& ~~~(BitVec.ofNat 64 n.val)).toNat = m.val ^^^ (m.val &&& n.val) := by decide
theorem u_sub {m n : Nat} (h : m < 32) (k : n < 32) : bits .andNot .u64 (m : Int) (n : Int) = ((m ^^^ (m &&& n) : Nat) : Int) := by
  show IntKind.u64.wrap ((BitVec.ofInt 64 (m : Int) &&& ~~~(BitVec.ofInt 64 (n : Int))).toNat : Int) = _
  have e1 : BitVec.ofInt 64 (m : Int) = BitVec.ofNat 64 m := by simp
  have e2 : BitVec.ofInt 64 (n : Int) = BitVec.ofNat 64 n := by simp
  rw [e1, e2, andnot_fin ⟨m, h⟩ ⟨n, k⟩]
  exact wrap_u _ (Nat.lt_trans (is_sub (is_self h) (is_self k)).1 (by decide))
theorem u_pred {r : Nat} (h : r < 32) (h0 : r ≠ 0) : IntKind.u64.wrap ((r : Int) - 1) = ((r - 1 : Nat) : Int) := by
  rw [show (r : Int) - 1 = ((r - 1 : Nat) : Int) by omega]
  exact wrap_u _ (by omega)
theorem u_one {k : Nat} (h : k < 5) : IntKind.u64.wrap ((1 : Int) * 2 ^ k) = ((2 ^ k : Nat) : Int) := by
  have e : (1 : Int) * 2 ^ k = ((2 ^ k : Nat) : Int) := by simp
  rw [e]
  exact wrap_u _ (Nat.lt_trans (is_one h).1 (by decide))
end Go.Proofs.YthghggnlfnbbgabDoor.SetV
