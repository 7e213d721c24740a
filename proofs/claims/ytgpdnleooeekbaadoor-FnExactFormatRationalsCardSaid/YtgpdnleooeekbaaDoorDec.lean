/- The model's decimal digits (spec.l2Dec): as Go's strconv writes them. -/
import Derived.Test.YtgpdnleooeekbaaDoorRows
import Derived.Test.YtgpdnleooeekbaaDoorNum
import Derived.Test.YtgpdnleooeekbaaDoorRow
import Derived.WalkKit
import Derived.ProofKit
import Derived.OpenShut
import Derived.ShutString
import Derived.IntWalk
import Derived.Lib.ItoaNum
import Derived.Deep.RegionWith
namespace Go.Proofs.YtgpdnleooeekbaaDoor.Dec
open Go.ChangeShapes Go.WideShapes Go.ChangeAt Go.RowKit
open Go.ChangeMaps (open_string shut_string)
open Go.Proofs.YtgpdnleooeekbaaDoor.Num Go.Proofs.YtgpdnleooeekbaaDoor.Row
set_option linter.unusedVariables false

def dg (m : Nat) : UInt8 := UInt8.ofNat (48 + m % 10)
theorem dg_int (m : Nat) : (((dg m).toNat : Nat) : Int) = 48 + ((m % 10 : Nat) : Int) := by
  simp [dg]; omega
theorem dd_small (m : Nat) (h : m < 10) : Lib.decDigits m = [dg m] := by
  rw [Lib.decDigits, dif_pos h]; unfold dg; rw [Nat.mod_eq_of_lt h]
theorem dd_step (m : Nat) (h : ¬ m < 10) : Lib.decDigits m = Lib.decDigits (m / 10) ++ [dg m] := by
  rw [Lib.decDigits, dif_neg h]; rfl

theorem dd_length (f m : Nat) (h : m < 10 ^ (f + 1)) : (Lib.decDigits m).length ≤ f + 1 := by
  induction f generalizing m with
  | zero => rw [dd_small m (by omega)]; simp
  | succ f ih =>
    by_cases h0 : m < 10
    · rw [dd_small m h0]; simp
    · rw [dd_step m h0]
      have := ih (m / 10) (by rw [Nat.div_lt_iff_lt_mul (by omega)]; rw [Nat.pow_succ] at h; exact h)
      simp; omega

theorem convert_at {P : Program} {src e dst : TypeId} (hs : P.underlying src = some (.slice e)) (he : P.underlying e = some (.int .u8)) (hd : P.underlying dst = some .string)
    (z : Int) (c : UInt8) (hz : z = (c.toNat : Int)) (W : World) (b : Nat) (h : W.cell? ⟨b, 0, none⟩ = some (.int .u8 z)) : (convert src dst (.slice (some ⟨b, 0, none⟩) 1 1)).run P W = .ok (.string ⟨#[c]⟩) W := by
  subst hz
  have := run_convert_bytes_arg (P := P) W src e hs he b 0 1 1 [(c.toNat : Int)] rfl (fun i hi => by
    obtain rfl : i = 0 := by omega
    simpa using h) dst hd
  rw [this]
  simp [strOfNums]

theorem str_app (a b : List UInt8) : (⟨a.toArray⟩ : ByteArray) ++ (⟨b.toArray⟩ : ByteArray) = ⟨(a ++ b).toArray⟩ := by
  apply ByteArray.ext
  simp

def Has1 (w : World) (b : Nat) (x : Value) : Prop := w.cell? ⟨b, 0, none⟩ = some x ∧ b < w.heap.size
theorem has1_kept {w w1 : World} {x : Value} {t : TypeId} (hb : Below (w.alloc (.cells #[x] t)).heap.size (w.alloc (.cells #[x] t)) w1) : w1.cell? ⟨w.heap.size, 0, none⟩ = some x :=
  (hb.cell (p := ⟨w.heap.size, 0, none⟩) (by simp)).trans (by simp)
theorem has1_kept_drew {w w1 : World} {x : Value} {t : TypeId} (hb : Below (w.alloc (.cells #[x] t)).drew.heap.size (w.alloc (.cells #[x] t)).drew w1) : w1.cell? ⟨w.heap.size, 0, none⟩ = some x :=
  (hb.cell (p := ⟨w.heap.size, 0, none⟩) (by show _ < (w.alloc _).heap.size; simp)).trans (by show (w.alloc _).cell? _ = _; simp)

set_option maxRecDepth 100000 in
theorem dec_small (m : Nat) (w : World) (h : m < 10) :
    Calls Tryd.prog 79 #[.int .i64 m] w fun e w' => e = .returned (.string ⟨(Lib.decDigits m).toArray⟩) ∧ Below w.heap.size w w' := by
  have HD := hid (dd_small m h)
  have hcv := convert_at (P := Tryd.prog) Tryd.underlying22 Tryd.underlying5 Tryd.underlying9 (48 + (m : Int)) (dg m) (by rw [dg_int, Nat.mod_eq_of_lt h])
  go_enter Tryd.func79, Tryd.ntmps79
  go_wp2_with fail
  go_ret
  exact ⟨by rw [HD.out]; rfl, (Below.refl _ _).alloc (Nat.le_refl _) _⟩

set_option maxHeartbeats 1000000 in
set_option maxRecDepth 100000 in
theorem dec_more (m : Nat) (w : World) (h : ¬ m < 10) (h1 : m ≤ 9223372036854775807)
    (C : RowKit.Hid (∀ W, Calls Tryd.prog 79 #[.int .i64 (m / 10 : Nat)] W fun e w' => e = .returned (.string ⟨(Lib.decDigits (m / 10)).toArray⟩) ∧ Below W.heap.size W w')) :
    Calls Tryd.prog 79 #[.int .i64 m] w fun e w' => e = .returned (.string ⟨(Lib.decDigits m).toArray⟩) ∧ Below w.heap.size w w' := by
  rw [dd_step m h]
  have HA := hid (str_app (Lib.decDigits (m / 10)) [dg m])
  have hl : (Lib.decDigits (m / 10)).length ≤ 19 := dd_length 18 (m / 10) (by omega)
  generalize Lib.decDigits (m / 10) = l at C HA hl ⊢
  have hcv := convert_at (P := Tryd.prog) Tryd.underlying22 Tryd.underlying5 Tryd.underlying9 (48 + (m : Int) % 10) (dg m) (by rw [dg_int]; rfl)
  have e10 : (m : Int) / 10 = ((m / 10 : Nat) : Int) := by omega
  have E10 := hid e10
  rw [← e10] at C
  clear e10
  have w1 := IntWalk.i64_in ((m : Int) / 10) (by omega)
  have w2 := IntWalk.i64_in ((m : Int) % 10) (by omega)
  have w3 := IntWalk.i64_in (48 + (m : Int) % 10) (by omega)
  have w5 : (m : Int).tmod 10 = (m : Int) % 10 := Int.tmod_eq_emod_of_nonneg (by omega)
  have w4 := IntWalk.u8_in (48 + (m : Int) % 10) (by omega)
  have hc1 := fun (W : World) => hcv (W.alloc (.cells #[.int .u8 (48 + (m : Int) % 10)] 5)) W.heap.size (by simp)
  have hc2 := fun (W : World) => hcv (W.alloc (.cells #[.int .u8 (48 + (m : Int) % 10)] 5)).drew W.heap.size (by show (W.alloc _).cell? _ = _; simp)
  have HC := hid hcv
  clear hcv
  go_enter Tryd.func79, Tryd.ntmps79
  go_wp2_with fail
  go_region_with (go_at_call 79; (with_reducible refine (C.out _).mono ?_); rintro e w1 ⟨rfl, hb1⟩; (try (first | (with_reducible have hn := HC.out _ _ (has1_kept hb1)) | (with_reducible have hn := HC.out _ _ (has1_kept_drew hb1)))))
  all_goals
    go_wp2_with fail
    go_ret
    refine ⟨by rw [← HA.out]; rfl, ?_⟩
    first
      | exact ((Below.refl w.heap.size w).drew.trans hb1).alloc hb1.size _
      | exact (((Below.refl w.heap.size w).alloc (Nat.le_refl _) _).drew).trans (hb1.mono (by show _ ≤ (w.alloc _).heap.size; simp))

theorem dec_pos (k : Nat) : ∀ (m : Nat) (w : World), m ≤ k → m ≤ 9223372036854775807 →
    Calls Tryd.prog 79 #[.int .i64 m] w fun e w' => e = .returned (.string ⟨(Lib.decDigits m).toArray⟩) ∧ Below w.heap.size w w' := by
  induction k with
  | zero =>
    intro m w h0 h1
    exact dec_small m w (by omega)
  | succ k ih =>
    intro m w h0 h1
    by_cases h : m < 10
    · exact dec_small m w h
    · exact dec_more m w h h1 (fun W => ih (m / 10) W (by omega) (by omega))
theorem itoa_nat (m : Nat) : Lib.itoa (m : Int) = Lib.decDigits m := by
  unfold Lib.itoa; rw [if_neg (by omega)]; simp
theorem itoa_neg' (u : Nat) (h : 0 < u) : Lib.itoa (-(u : Int)) = 45 :: Lib.decDigits u := by
  unfold Lib.itoa; rw [if_pos (by omega)]; simp

set_option maxRecDepth 100000 in
theorem dec_neg1 (u : Nat) (w : World) (h0 : 0 < u) (h : u < 10) :
    Calls Tryd.prog 79 #[.int .i64 (-(u : Int))] w fun e w' => e = .returned (.string ⟨(45 :: Lib.decDigits u).toArray⟩) ∧ Below w.heap.size w w' := by
  have C := hid fun W => dec_pos u u W (Nat.le_refl _) (by omega)
  have HA := hid (str_app [45] (Lib.decDigits u))
  have hl : (Lib.decDigits u).length ≤ 19 := by have := dd_length 0 u (by omega); omega
  generalize Lib.decDigits u = l at C HA hl ⊢
  go_enter Tryd.func79, Tryd.ntmps79
  go_wp2_with (go_at_call 79; (with_reducible refine (C.out _).mono ?_); rintro e w1 ⟨rfl, hb1⟩)
  go_ret
  exact ⟨by rw [show (45 :: l) = [45] ++ l from rfl, ← HA.out]; rfl, hb1⟩

set_option maxRecDepth 100000 in
theorem dec_neg2 (u : Nat) (w : World) (h : ¬ u < 10) (h1 : u ≤ 9223372036854775808) :
    Calls Tryd.prog 79 #[.int .i64 (-(u : Int))] w fun e w' => e = .returned (.string ⟨(45 :: Lib.decDigits u).toArray⟩) ∧ Below w.heap.size w w' := by
  have C := hid fun W => dec_pos (u / 10) (u / 10) W (Nat.le_refl _) (by omega)
  have D := hid fun W => dec_pos (u % 10) (u % 10) W (Nat.le_refl _) (by omega)
  rw [dd_step u h]
  have e2 : Lib.decDigits (u % 10) = [dg u] := by rw [dd_small _ (by omega)]; unfold dg; rw [Nat.mod_mod]
  rw [e2] at D
  have HA := hid (str_app [45] (Lib.decDigits (u / 10)))
  have HB := hid (str_app (45 :: Lib.decDigits (u / 10)) [dg u])
  have hl : (Lib.decDigits (u / 10)).length ≤ 19 := dd_length 18 (u / 10) (by omega)
  generalize Lib.decDigits (u / 10) = l at C HA HB hl ⊢
  clear e2
  rw [show ((u / 10 : Nat) : Int) = (u : Int) / 10 by omega] at C
  rw [show ((u % 10 : Nat) : Int) = (u : Int) % 10 by omega] at D
  go_enter Tryd.func79, Tryd.ntmps79
  go_wp2_with fail
  refine (C.out _).mono ?_
  rintro e w1 ⟨rfl, hb1⟩
  go_wp2_with fail
  refine (D.out _).mono ?_
  rintro e w2 ⟨rfl, hb2⟩
  go_wp2_with fail
  go_ret
  exact ⟨by rw [show 45 :: (l ++ [dg u]) = (45 :: l) ++ [dg u] from rfl, ← HB.out, show (45 :: l) = [45] ++ l from rfl, ← HA.out]; rfl, hb1.trans (hb2.mono hb1.size)⟩

set_option maxRecDepth 100000 in
/-- The model's decimal digits, at every int. -/
theorem dec_any (n : Int) (w : World) (h0 : -9223372036854775808 ≤ n) (h1 : n ≤ 9223372036854775807) :
    Calls Tryd.prog 79 #[.int .i64 n] w fun e w' => e = .returned (.string ⟨(Lib.itoa n).toArray⟩) ∧ Below w.heap.size w w' := by
  by_cases hn : n < 0
  · obtain ⟨u, rfl⟩ : ∃ u : Nat, n = -(u : Int) := ⟨n.natAbs, by omega⟩
    rw [itoa_neg' u (by omega)]
    by_cases hu : u < 10
    · exact dec_neg1 u w (by omega) hu
    · exact dec_neg2 u w hu (by omega)
  · obtain ⟨u, rfl⟩ := Int.eq_ofNat_of_zero_le (show 0 ≤ n by omega)
    rw [itoa_nat]
    exact dec_pos u u w (Nat.le_refl _) (by omega)
end Go.Proofs.YtgpdnleooeekbaaDoor.Dec
