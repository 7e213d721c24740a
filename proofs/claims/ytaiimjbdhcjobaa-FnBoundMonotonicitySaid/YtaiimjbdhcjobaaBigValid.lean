/- Contracts of the two tests of validity of big integers. -/
import Derived.Test.YtaiimjbdhcjobaaRows
import Derived.Test.YtaiimjbdhcjobaaNum
import Derived.Test.YtaiimjbdhcjobaaIntRow
import Derived.Test.YtaiimjbdhcjobaaDig
import Derived.WalkKit
import Derived.IntWalk
import Derived.BigQuiet
import Derived.Deep.QuietTactic
namespace Go.Proofs.Ytaiimjbdhcjobaa.BigValid
open Go.RowKit
open Go.Proofs.Ytaiimjbdhcjobaa.Num Go.Proofs.Ytaiimjbdhcjobaa.IntRow Go.Proofs.Ytaiimjbdhcjobaa.Dig
set_option linter.unusedVariables false

def digB (d : Int) : Bool := decide (0 ≤ d) && decide (d ≤ 9)
/-- The ints are the digits of a valid big integer. -/
def vb (xs : List Int) : Bool := decide (xs.length ≤ 60) && xs.all digB && (xs.getLast? != some 0)
theorem vb_long {xs : List Int} (h : 60 < xs.length) : vb xs = false := by simp [vb]; omega
theorem vb_digit {xs : List Int} (k : Nat) (hk : k < xs.length) (h : digB xs[k] = false) : vb xs = false := by
  have : xs.all digB = false := by
    rw [List.all_eq_false]
    exact ⟨xs[k], List.getElem_mem hk, by simp [h]⟩
  simp [vb, this]
theorem vb_nil : vb [] = true := rfl
theorem vb_end {xs : List Int} (hl : xs.length ≤ 60) (h0 : 0 < xs.length) (hd : ∀ j (h : j < xs.length), digB xs[j] = true) : vb xs = (xs[xs.length - 1] != 0) := by
  have e1 : xs.all digB = true := by
    rw [List.all_eq_true]
    intro x hx
    obtain ⟨j, hj, rfl⟩ := List.getElem_of_mem hx
    exact hd j hj
  have e2 : xs.getLast? = some xs[xs.length - 1] := by
    rw [List.getLast?_eq_getElem?, List.getElem?_eq_getElem]
  unfold vb
  rw [e1, e2]
  simp [hl, bne]
/-- Numbers as ints. -/
def ci (ns : List Nat) : List Int := ns.map (fun n : Nat => (n : Int))
theorem ci_length (ns : List Nat) : (ci ns).length = ns.length := by simp [ci]
theorem ci_at (ns : List Nat) (j : Nat) (h : j < (ci ns).length) : (ci ns)[j] = (ns[j]'(by simpa [ci] using h) : Nat) := by simp [ci]
theorem vb_true {xs : List Int} (h : vb xs = true) : ∃ ns : List Nat, xs = ci ns ∧ Norm ns ∧ ns.length ≤ 60 := by
  simp only [vb, Bool.and_eq_true, decide_eq_true_eq, List.all_eq_true] at h
  obtain ⟨⟨h1, h2⟩, h3⟩ := h
  refine ⟨xs.map Int.toNat, ?_, ⟨?_, ?_⟩, by simpa using h1⟩
  · unfold ci
    rw [List.map_map]
    conv => lhs; rw [← List.map_id xs]
    exact List.map_congr_left fun x hx => by have := h2 x hx; simp [digB] at this; simp; omega
  · intro d hd
    obtain ⟨x, hx, rfl⟩ := List.mem_map.1 hd
    have := h2 x hx; simp [digB] at this; omega
  · intro hne hl
    have hx : xs ≠ [] := by rintro rfl; exact hne rfl
    rw [List.getLast_map] at hl
    have hd := h2 _ (List.getLast_mem hx)
    rw [List.getLast?_eq_some_getLast hx] at h3
    simp [digB] at hd h3
    omega
theorem vb_mk {ns : List Nat} (h : Norm ns) (hl : ns.length ≤ 60) : vb (ci ns) = true := by
  simp only [vb, Bool.and_eq_true, decide_eq_true_eq, List.all_eq_true]
  refine ⟨⟨by simpa [ci] using hl, ?_⟩, ?_⟩
  · intro x hx
    obtain ⟨n, hn, rfl⟩ := List.mem_map.1 hx
    have := h.1 n hn
    simp [digB]; omega
  · rcases List.eq_nil_or_concat ns with rfl | ⟨m, d, rfl⟩
    · rfl
    · have := h.2 (by simp)
      simp at this
      simp [ci]
      omega

theorem in_dig (d : Int) (w : World) : Calls Try.prog 76 #[.int .i64 d, .int .i64 0, .int .i64 9] w fun e w' => e = .returned (.bool (digB d)) ∧ w = w' := by
  by_cases h : 0 ≤ d
  · by_cases h2 : d ≤ 9
    · have H := hid (show digB d = true by simp [digB, h, h2])
      go_enter Try.func76, Try.ntmps76
      go_wp2
      go_ret
      exact ⟨by rw [H.out]; rfl, rfl⟩
    · have H := hid (show digB d = false by simp [digB, h2])
      go_enter Try.func76, Try.ntmps76
      go_wp2
      go_ret
      exact ⟨by rw [H.out]; rfl, rfl⟩
  · have H := hid (show digB d = false by simp [digB, h])
    go_enter Try.func76, Try.ntmps76
    go_wp2
    go_ret
    exact ⟨by rw [H.out]; rfl, rfl⟩
theorem in_dig_is (d : Int) (b : Bool) (w : World) (h : digB d = b) : Calls Try.prog 76 #[.int .i64 d, .int .i64 0, .int .i64 9] w fun e w' => e = .returned (.bool b) ∧ w = w' := h ▸ in_dig d w

theorem impl_valid (a : Option Addr) (cap B : Nat) (xs : List Int) (w : World) (hn : xs.length ≤ 1048576) (h : Rd w B a xs) (hB : B ≤ w.heap.size) :
    Calls Try.prog 149 #[.agg #[.slice a xs.length cap]] w fun e w' => e = .returned (.bool (vb xs)) ∧ Below w.heap.size w w' := by
  by_cases hl : 60 < xs.length
  · have H := hid (vb_long hl)
    go_enter Try.func149, Try.ntmps149
    go_wp2
    go_ret
    exact ⟨by rw [H.out]; rfl, (Below.refl _ _).alloc (Nat.le_refl _) _⟩
  · go_enter Try.func149, Try.ntmps149
    go_wp2
    go_loop [5, 14] (fun d i => ∃ k : Nat, k ≤ xs.length ∧ i = .int .i64 k ∧ (∀ j (h : j < xs.length), j < k → digB xs[j] = true)) (fun _ i => xs.length - (intOf i).toNat)
    case atStart => exact ⟨0, Nat.zero_le _, rfl, fun j _ h => by omega⟩
    case round =>
      obtain ⟨k, hk, rfl, hd⟩ := hrel
      by_cases hlt : k < xs.length
      · obtain ⟨b, off, rfl, hbB, hc⟩ := h (by omega)
        have g := hc k hlt
        have hbw : b < w.heap.size := by omega
        have HD := hid hd
        clear hd hc h
        cases hdg : digB xs[k] with
        | true =>
          have h1 : 0 ≤ xs[k] ∧ xs[k] ≤ 9 := by simpa [digB] using hdg
          have HG := hid hdg
          clear hdg
          obtain ⟨h1, h2⟩ := h1
          go_wp2
          go_round
          case rel => exact ⟨k + 1, by omega, by go_num, fun j hj hjk => by
            by_cases e : j = k
            · subst e; exact HG.out
            · exact HD.out j hj (by omega)⟩
          case measure => simp [intOf]; omega
        | false =>
          have H := hid (vb_digit k hlt hdg)
          have h1 : xs[k] < 0 ∨ (0 ≤ xs[k] ∧ 9 < xs[k]) := by simp [digB] at hdg; omega
          clear hdg
          rcases h1 with h1 | ⟨h1, h2⟩
          all_goals
            go_wp2
            go_ret
            exact ⟨by rw [H.out]; rfl, (Below.refl _ _).alloc (Nat.le_refl _) _⟩
      · by_cases h0 : xs.length = 0
        · have e : xs = [] := List.eq_nil_of_length_eq_zero h0
          subst e
          go_wp2
          go_ret
          exact ⟨rfl, (Below.refl _ _).alloc (Nat.le_refl _) _⟩
        · obtain ⟨b, off, rfl, hbB, hc⟩ := h (by omega)
          have g := hc (xs.length - 1) (by omega)
          have hbw : b < w.heap.size := by omega
          have H := hid (vb_end (xs := xs) (by omega) (by omega) (fun j hj => hd j hj (by omega)))
          have h0' : ((xs.length : Int) == 0) = false := by rw [beq_eq_false_iff_ne]; omega
          have h1 : (0 : Int) ≤ (xs.length : Int) - 1 := by omega
          have h2 : ((xs.length : Int) - 1).toNat = xs.length - 1 := by omega
          clear hd hc h
          go_wp2
          go_ret
          exact ⟨by rw [H.out]; rfl, (Below.refl _ _).alloc (Nat.le_refl _) _⟩

theorem spec_valid (a : Option Addr) (cap B : Nat) (xs : List Int) (w : World) (hn : xs.length ≤ 1048576) (h : Rd w B a xs) (hB : B ≤ w.heap.size) :
    Calls Try.prog 146 #[.agg #[.slice a xs.length cap]] w fun e w' => e = .returned (.bool (vb xs)) ∧ Below w.heap.size w w' := by
  go_enter Try.func146, Try.ntmps146
  go_wp2
  go_loop [3] (fun i => ∃ k : Nat, k ≤ xs.length ∧ i = .int .i64 k ∧ (∀ j (h : j < xs.length), j < k → digB xs[j] = true)) (fun i => xs.length - (intOf i).toNat)
  case atStart => exact ⟨0, Nat.zero_le _, rfl, fun j _ h => by omega⟩
  case round =>
    obtain ⟨k, hk, rfl, hd⟩ := hrel
    by_cases hlt : k < xs.length
    · obtain ⟨b, off, rfl, hbB, hc⟩ := h (by omega)
      have g := hc k hlt
      have hbw : b < w.heap.size := by omega
      have HD := hid hd
      clear hd hc h
      cases hdg : digB xs[k] with
      | true =>
        have HG := hid hdg
        clear hdg
        go_wp2_with fail
        refine (in_dig_is _ _ _ HG.out).mono ?_
        rintro e w' ⟨rfl, rfl⟩
        go_wp2
        go_round
        case rel => exact ⟨k + 1, by omega, by go_num, fun j hj hjk => by
          by_cases e : j = k
          · subst e; exact HG.out
          · exact HD.out j hj (by omega)⟩
        case measure => simp [intOf]; omega
      | false =>
        have H := hid (vb_digit k hlt hdg)
        have HG := hid hdg
        clear hdg
        go_wp2_with fail
        refine (in_dig_is _ _ _ HG.out).mono ?_
        rintro e w' ⟨rfl, rfl⟩
        go_wp2
        go_ret
        exact ⟨by rw [H.out]; rfl, (Below.refl _ _).alloc (Nat.le_refl _) _⟩
    · by_cases hl : 60 < xs.length
      · have H := hid (vb_long hl)
        have hl' : decide ((xs.length : Int) ≤ 60) = false := by simp; omega
        clear hd
        go_wp2
        go_ret
        exact ⟨by rw [H.out]; rfl, (Below.refl _ _).alloc (Nat.le_refl _) _⟩
      · by_cases h0 : xs.length = 0
        · have e : xs = [] := List.eq_nil_of_length_eq_zero h0
          subst e
          clear hd
          go_wp2
          go_ret
          exact ⟨rfl, (Below.refl _ _).alloc (Nat.le_refl _) _⟩
        · obtain ⟨b, off, rfl, hbB, hc⟩ := h (by omega)
          have g := hc (xs.length - 1) (by omega)
          have hbw : b < w.heap.size := by omega
          have H := hid (vb_end (xs := xs) (by omega) (by omega) (fun j hj => hd j hj (by omega)))
          have h0' : ((xs.length : Int) == 0) = false := by rw [beq_eq_false_iff_ne]; omega
          have h1 : (0 : Int) ≤ (xs.length : Int) - 1 := by omega
          have h2 : ((xs.length : Int) - 1).toNat = xs.length - 1 := by omega
          have hl' : decide ((xs.length : Int) ≤ 60) = true := by simp; omega
          clear hd hc h
          go_wp2
          go_ret
          exact ⟨by rw [H.out]; rfl, (Below.refl _ _).alloc (Nat.le_refl _) _⟩
end Go.Proofs.Ytaiimjbdhcjobaa.BigValid
