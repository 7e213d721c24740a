/- Sets of variables in the program, without the listing of a set: variableSetOf, intersects, isSubsetOf; what a valid query's variables are. -/
import Derived.Test.YtaeeogighoobdaaSetV
import Derived.Test.YtaeeogighoobdaaVarIn
import Derived.Test.YtaeeogighoobdaaIntLaw
import Derived.Test.YtaeeogighoobdaaVarName
import Derived.Test.YtaeeogighoobdaaQryVI
import Derived.Test.YtaeeogighoobdaaQryVS
namespace Go.Proofs.Ytaeeogighoobdaa.SetJ
open Go.RowKit
open Go.Proofs.Ytaeeogighoobdaa.Num Go.Proofs.Ytaeeogighoobdaa.IntRow Go.Proofs.Ytaeeogighoobdaa.IntLaw Go.Proofs.Ytaeeogighoobdaa.Rdr Go.Proofs.Ytaeeogighoobdaa.Dat Go.Proofs.Ytaeeogighoobdaa.HasL Go.Proofs.Ytaeeogighoobdaa.VarName Go.Proofs.Ytaeeogighoobdaa.VarIn Go.Proofs.Ytaeeogighoobdaa.SetV Go.Proofs.Ytaeeogighoobdaa.QryP
set_option linter.unusedVariables false

theorem impl_single (k : Nat) (w : World) (h : k < 5) :
    Calls Try.prog 87 #[.int .i64 (k : Int)] w fun e w' => e = .returned (.int .u64 ((2 ^ k : Nat) : Int)) ∧ w = w' := by
  rcases (by omega : k = 0 ∨ k = 1 ∨ k = 2 ∨ k = 3 ∨ k = 4) with rfl | rfl | rfl | rfl | rfl <;>
  · go_enter Try.func87, Try.ntmps87
    go_wp2
    go_ret
    exact ⟨rfl, rfl⟩

theorem impl_meets (m n : Nat) (b : Bool) (w : World) (hm : m < 32) (hn : n < 32) (hb : decide (m &&& n ≠ 0) = b) :
    Calls Try.prog 72 #[.int .u64 m, .int .u64 n] w fun e w' => e = .returned (.bool b) ∧ w = w' := by
  obtain ⟨p, hp⟩ : ∃ z, m &&& n = z := ⟨_, rfl⟩
  have e1 : bits .and .u64 (m : Int) (n : Int) = (p : Int) := by rw [← hp]; exact u_and hm (by omega)
  have e2 : ((p : Int) != 0) = b := by
    rw [← hb, hp]
    by_cases h : p = 0
    · subst h; rfl
    · simp [h]
  clear hb hp
  go_enter Try.func72, Try.ntmps72
  go_wp2
  go_ret
  exact ⟨rfl, rfl⟩

/-- Which numbers occur in xs. -/
def mem (xs : List Int) (v : Nat) : Bool := decide ((v : Int) ∈ xs)
theorem mem_yes {xs : List Int} {k z m : Nat} (h : k < xs.length) (e : xs[k] = (z : Int)) (hz : z < 5) (hm : Is m (mem (xs.take k))) : Is (m ||| 2 ^ z) (mem (xs.take (k + 1))) := by
  refine is_congr (is_or hm (is_one hz)) (fun v hv => ?_)
  unfold mem
  rw [List.take_succ_eq_append_getElem h, e]
  by_cases h1 : (v : Int) ∈ xs.take k
  · simp [h1]
  · by_cases h2 : z = v
    · simp [h1, h2]
    · have : ¬ (v : Int) = (z : Int) := by omega
      simp [h1, h2, this]
theorem mem_no {xs : List Int} {k m : Nat} (h : k < xs.length) (e : isv xs[k] 5 = false) (hm : Is m (mem (xs.take k))) : Is m (mem (xs.take (k + 1))) := by
  refine is_congr hm (fun v hv => ?_)
  unfold mem
  rw [List.take_succ_eq_append_getElem h]
  have : ¬ (v : Int) = xs[k] := by
    intro h1
    rw [← h1] at e
    rw [isv_yes (by omega) (by omega)] at e
    cases e
  exact decide_eq_decide.2 (by rw [List.mem_append, List.mem_singleton]; exact (or_iff_left this).symm)

set_option maxRecDepth 100000 in
theorem impl_of (a : Option Addr) (cap B : Nat) (xs : List Int) (w : World) (hn : xs.length ≤ 1048576) (h : Rd w B a xs) :
    Calls Try.prog 73 #[.slice a xs.length cap] w fun e w' => ∃ m : Nat, e = .returned (.int .u64 m) ∧ Is m (mem xs) ∧ w = w' := by
  have HR := hid h
  clear h
  go_enter Try.func73, Try.ntmps73
  go_wp2
  go_loop [3, 5, 8] (fun s _ i => ∃ k m : Nat, k ≤ xs.length ∧ i = .int .i64 k ∧ s = .int .u64 m ∧ m < 32 ∧ Hid (Is m (mem (xs.take k)))) (fun _ _ i => xs.length - (intOf i).toNat)
  case atStart => exact ⟨0, 0, Nat.zero_le _, rfl, rfl, by decide, hid (is_congr is_zero (fun v _ => by simp [mem]))⟩
  case round =>
    obtain ⟨k, m, hk, rfl, rfl, hm, his⟩ := hrel
    by_cases hlt : k < xs.length
    · have hlt' : (k : Int) < (xs.length : Int) := by omega
      have h0' : (0 : Int) ≤ (k : Int) := by omega
      obtain ⟨b, off, rfl, hbB, hc⟩ := HR.out (by omega)
      have g := hc k hlt
      clear hc
      cases hv : isv xs[k] 5 with
      | false =>
        have HI := hid (mem_no hlt hv his.out)
        have C := hid (isv_any xs[k] 5 w)
        rw [hv] at C
        clear hv his
        go_wp2_with fail
        with_reducible refine C.out.mono ?_
        rintro e w1 ⟨rfl, rfl⟩
        go_wp2
        go_round
        case rel => exact ⟨k + 1, m, by omega, by go_num, rfl, hm, HI⟩
        case measure => simp [intOf]; omega
      | true =>
        have hv2 := isv_iff.1 hv
        obtain ⟨z, hz⟩ : ∃ z : Nat, xs[k] = (z : Int) := ⟨xs[k].toNat, by omega⟩
        have hz5 : z < 5 := by omega
        obtain ⟨q, hq⟩ : ∃ u, 2 ^ z = u := ⟨_, rfl⟩
        have HI := hid (mem_yes hlt hz hz5 his.out)
        have hq5 : q < 32 := by rw [← hq]; exact (is_one hz5).1
        obtain ⟨p, hp⟩ : ∃ u, m ||| q = u := ⟨_, rfl⟩
        have e2 : bits .or .u64 (m : Int) (q : Int) = (p : Int) := by rw [← hp]; exact u_or hm hq5
        rw [hq, hp] at HI
        have C := hid (isv_any xs[k] 5 w)
        rw [hv] at C
        have D := hid (impl_single z w hz5)
        rw [hq] at D
        rw [hz] at C g
        clear hv hv2 hq hp his hz
        go_wp2_with fail
        with_reducible refine C.out.mono ?_
        rintro e w1 ⟨rfl, rfl⟩
        go_wp2_with fail
        with_reducible refine D.out.mono ?_
        rintro e w2 ⟨rfl, rfl⟩
        go_wp2
        go_round
        case rel => exact ⟨k + 1, p, by omega, by go_num, rfl, HI.out.1, HI⟩
        case measure => simp [intOf]; omega
    · have e : k = xs.length := by omega
      subst e
      have HI := hid (show Is m (mem xs) by have := his.out; rw [List.take_length] at this; exact this)
      clear his
      go_wp2
      go_ret
      exact ⟨m, rfl, HI.out, rfl⟩
theorem m5_fin : ∀ b0 b1 b2 b3 b4 : Bool, (b0.toNat + 2 * b1.toNat + 4 * b2.toNat + 8 * b3.toNat + 16 * b4.toNat) < 32 ∧ (b0.toNat + 2 * b1.toNat + 4 * b2.toNat + 8 * b3.toNat + 16 * b4.toNat).testBit 0 = b0 ∧ (b0.toNat + 2 * b1.toNat + 4 * b2.toNat + 8 * b3.toNat + 16 * b4.toNat).testBit 1 = b1 ∧ (b0.toNat + 2 * b1.toNat + 4 * b2.toNat + 8 * b3.toNat + 16 * b4.toNat).testBit 2 = b2 ∧ (b0.toNat + 2 * b1.toNat + 4 * b2.toNat + 8 * b3.toNat + 16 * b4.toNat).testBit 3 = b3 ∧ (b0.toNat + 2 * b1.toNat + 4 * b2.toNat + 8 * b3.toNat + 16 * b4.toNat).testBit 4 = b4 := by decide
theorem ex_is (p : Nat → Bool) : ∃ m, Is m p := by
  obtain ⟨h, h0, h1, h2, h3, h4⟩ := m5_fin (p 0) (p 1) (p 2) (p 3) (p 4)
  refine ⟨_, h, fun v hv => ?_⟩
  rcases (by omega : v = 0 ∨ v = 1 ∨ v = 2 ∨ v = 3 ∨ v = 4) with rfl | rfl | rfl | rfl | rfl
  · exact h0
  · exact h1
  · exact h2
  · exact h3
  · exact h4
/-- variableSetOf, the number known ahead. -/
theorem ofM (a : Option Addr) (cap B : Nat) (xs : List Int) (m : Nat) (w : World) (hn : xs.length ≤ 1048576) (h : Rd w B a xs) (hm : Is m (mem xs)) :
    Calls Try.prog 73 #[.slice a xs.length cap] w fun e w' => e = .returned (.int .u64 m) ∧ w = w' :=
  (impl_of a cap B xs w hn h).mono fun e w' ⟨n, he, hi, hw⟩ => ⟨by rw [he, is_eq hi hm (fun _ _ => rfl)], hw⟩
/-- What a valid query's variables are. -/
theorem vq_vars {x : QueryD} (h : vq x = true) : ∃ n : Nat, x.1 = (n : Int) ∧ 1 ≤ n ∧ n ≤ 5 ∧ ∀ a ∈ x.2.1, ∀ z ∈ a.2, 0 ≤ z ∧ z < (n : Int) := by
  unfold vq at h
  simp only [Bool.and_eq_true] at h
  obtain ⟨h1, h2, _, _⟩ := h
  have h1' : 1 ≤ x.1 ∧ x.1 ≤ 5 := by unfold inR at h1; simpa using h1
  refine ⟨x.1.toNat, by omega, by omega, by omega, fun a ha z hz => ?_⟩
  unfold okAs at h2
  simp only [Bool.and_eq_true, List.all_eq_true] at h2
  have h3 := h2.2 a ha
  unfold okA at h3
  simp only [Bool.and_eq_true, List.all_eq_true] at h3
  have h4 := isv_iff.1 (h3.2.2 z hz)
  omega

theorem any_step {α : Type} {p : α → Bool} {us : List α} (k : Nat) (h : k < us.length) : (us.take (k + 1)).any p = ((us.take k).any p || p us[k]) := by
  rw [List.take_succ_eq_append_getElem h, List.any_append]
  simp

theorem impl_sub (m n : Nat) (b : Bool) (w : World) (hm : m < 32) (hn : n < 32) (hb : decide (m ^^^ (m &&& n) = 0) = b) :
    Calls Try.prog 86 #[.int .u64 m, .int .u64 n] w fun e w' => e = .returned (.bool b) ∧ w = w' := by
  obtain ⟨p, hp⟩ : ∃ z, m ^^^ (m &&& n) = z := ⟨_, rfl⟩
  have e1 : bits .andNot .u64 (m : Int) (n : Int) = (p : Int) := by rw [← hp]; exact u_sub hm hn
  have e2 : ((p : Int) == 0) = b := by
    rw [← hb, hp]
    by_cases h : p = 0
    · subst h; rfl
    · simp [h]
  clear hb hp
  go_enter Try.func86, Try.ntmps86
  go_wp2
  go_ret
  exact ⟨rfl, rfl⟩
theorem own_lit (w : World) (base : Nat) (e : TypeId) (hb : base ≤ w.heap.size) : Own (w.alloc (.cells #[] e)) base e (.slice (some ⟨w.heap.size, 0, none⟩) 0 0) [] :=
  World.ownsRow_made w #[] 0 hb (by decide) (by decide)
end Go.Proofs.Ytaeeogighoobdaa.SetJ
