/- The equality of lists of rationals: the model's function and the program's. -/
import Derived.Test.YthghggnlfnbbgaaRats
import Derived.Laws.StructEq
import Derived.BigQuiet
import Derived.Deep.QuietTactic
namespace Go.Proofs.Ythghggnlfnbbgaa.Eqr
open Go.RowKit
open Go.Proofs.Ythghggnlfnbbgaa.Num Go.Proofs.Ythghggnlfnbbgaa.IntRow Go.Proofs.Ythghggnlfnbbgaa.Rdr Go.Proofs.Ythghggnlfnbbgaa.HasL Go.Proofs.Ythghggnlfnbbgaa.Rats
set_option linter.unusedVariables false

set_option maxRecDepth 100000 in
/-- What '==' says of two rationals. -/
@[go_sem] theorem eqRat (a b c d : Int) (w : World) : (Op.equalIn 10000 25 (.agg #[.int .i64 a, .int .i64 b]) (.agg #[.int .i64 c, .int .i64 d])).run Try.prog w = .ok (a == c && b == d) w := by
  have u3 := Try.underlying3
  have a3 := Try.isAgg3
  have z3 := Try.sizeOf3
  have hS : Try.prog.underlying 25 = some (.struct (Try.prog.fieldsOf 25)) := by kernel_rfl
  have hp : Try.prog.stoodInHeld 25 = false := by kernel_rfl
  rw [show (10000 : Nat) = 9999 + 1 from rfl, run_equalIn_agg w 9999 25 _ _ hS hp]
  simp only [Program.fieldsOf, Try.underlying25]
  go_simp
  by_cases h1 : a = c <;> by_cases h2 : b = d <;> simp [h1, h2]

theorem eqr_no {xs ys : List RatD} (h : xs.length ≠ ys.length) : decide (xs = ys) = false := decide_eq_false (fun e => h (by rw [e]))
theorem eqr_at {xs ys : List RatD} (k : Nat) (h1 : k < xs.length) (h2 : k < ys.length) (h : xs[k] ≠ ys[k]) : decide (xs = ys) = false := decide_eq_false (fun e => h (by subst e; rfl))
theorem eqr_yes {xs ys : List RatD} (hl : xs.length = ys.length) (h : ∀ j (h1 : j < xs.length) (h2 : j < ys.length), xs[j] = ys[j]) : decide (xs = ys) = true := decide_eq_true (List.ext_getElem hl h)

set_option maxRecDepth 100000 in
theorem spec_eqr (a a' : Option Addr) (cap cap' : Nat) (xs ys : List RatD) (lo hi lo' hi' : Nat) (w : World) (hn1 : xs.length ≤ 9223372036854775806) (hn2 : ys.length ≤ 9223372036854775806) (h : Els 2 rRat w lo hi a xs) (h' : Els 2 rRat w lo' hi' a' ys) (hh : hi ≤ w.heap.size) (hh' : hi' ≤ w.heap.size) :
    Calls Try.prog 37 #[.slice a xs.length cap, .slice a' ys.length cap'] w fun e w' => e = .returned (.bool (decide (xs = ys))) ∧ Below w.heap.size w w' := by
  by_cases hl : xs.length = ys.length
  · have hnl : ((xs.length : Int) != (ys.length : Int)) = false := by simp [hl]
    go_enter Try.func37, Try.ntmps37
    go_wp2
    go_loopw [5] (fun i wr => ∃ k : Nat, k ≤ xs.length ∧ i = .int .i64 k ∧ Hid (∀ j (h1 : j < xs.length) (h2 : j < ys.length), j < k → xs[j] = ys[j]) ∧ Below w.heap.size w wr) (fun i _ => xs.length - (intOf i).toNat)
    case atStart => exact ⟨0, Nat.zero_le _, rfl, hid (fun j _ _ h => by omega), Below.refl _ _⟩
    case round =>
      obtain ⟨k, hk, rfl, he, hb⟩ := hrel
      by_cases hlt : k < xs.length
      · have hlt2 : k < ys.length := by omega
        obtain ⟨b, off, rfl, _, hbB, c0, c1⟩ := rats_at (h.grow good_rat hb hh) k hlt
        obtain ⟨b', off', rfl, _, hbB', c0', c1'⟩ := rats_at (h'.grow good_rat hb hh') k hlt2
        have hlt' : (k : Int) < (xs.length : Int) := by omega
        have hlt2' : (k : Int) < (ys.length : Int) := by omega
        have h0' : (0 : Int) ≤ (k : Int) := by omega
        have H0 := hid hl
        clear h h' hl
        by_cases heq : xs[k] = ys[k]
        · have q1 : (xs[k].1 == ys[k].1) = true := by rw [heq]; simp
          have q2 : (xs[k].2 == ys[k].2) = true := by rw [heq]; simp
          have HE := hid (fun j (h1 : j < xs.length) (h2 : j < ys.length) (hj : j < k + 1) => show xs[j] = ys[j] by
            by_cases e : j = k
            · subst e; exact heq
            · exact he.out j h1 h2 (by omega))
          clear heq he
          go_wp2
          go_quiet (fail)
          go_wp2
          go_roundw
          case rel => exact ⟨k + 1, by omega, by go_num, HE, by exact ⟨hb.os, hb.tape, hb.output, hb.size, hb.block⟩⟩
          case measure => simp [intOf]; omega
        · have HF := hid (eqr_at k hlt hlt2 heq)
          by_cases q1 : (xs[k].1 == ys[k].1) = true
          · have q2 : (xs[k].2 == ys[k].2) = false := by
              cases hq : xs[k].2 == ys[k].2 with
              | false => rfl
              | true => exact absurd (Prod.ext (by simpa using q1) (by simpa using hq)) heq
            clear heq he
            go_wp2
            go_quiet (fail)
            go_wp2
            go_ret
            exact ⟨by rw [HF.out]; rfl, by exact ⟨hb.os, hb.tape, hb.output, hb.size, hb.block⟩⟩
          · replace q1 : (xs[k].1 == ys[k].1) = false := by simpa using q1
            clear heq he
            go_wp2
            go_quiet (fail)
            go_wp2
            go_ret
            exact ⟨by rw [HF.out]; rfl, by exact ⟨hb.os, hb.tape, hb.output, hb.size, hb.block⟩⟩
      · have hx1 : ¬ (k : Int) < (xs.length : Int) := by omega
        have hx2 : ¬ (k : Int) < (ys.length : Int) := by omega
        have HF := hid (eqr_yes hl (fun j h1 h2 => he.out j h1 h2 (by omega)))
        clear h h' hl he
        go_wp2
        go_ret
        exact ⟨by rw [HF.out]; rfl, hb⟩
  · have hnl : ((xs.length : Int) != (ys.length : Int)) = true := by simp; omega
    have HF := hid (eqr_no hl)
    clear h h' hl
    go_enter Try.func37, Try.ntmps37
    go_wp2
    go_ret
    exact ⟨by rw [HF.out]; rfl, Below.refl _ _⟩
end Go.Proofs.Ythghggnlfnbbgaa.Eqr
