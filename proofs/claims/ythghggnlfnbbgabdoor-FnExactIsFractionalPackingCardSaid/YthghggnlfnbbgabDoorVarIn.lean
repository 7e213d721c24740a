/- Does a variable occur in an atom? The library's slices.Index and slices.Contains at ints; spec.ContainsVariable, impl.ContainsVariable; spec.l7Find. -/
import Derived.Test.YthghggnlfnbbgabDoorProg
import Derived.Test.YthghggnlfnbbgabDoorNum
import Derived.Test.YthghggnlfnbbgabDoorHasL
import Derived.Test.YthghggnlfnbbgabDoorDat
import Derived.Test.YthghggnlfnbbgabDoorLawKit
namespace Go.Proofs.YthghggnlfnbbgabDoor.VarIn
open Go.RowKit
open Go.Proofs.YthghggnlfnbbgabDoor.Num Go.Proofs.YthghggnlfnbbgabDoor.IntRow Go.Proofs.YthghggnlfnbbgabDoor.Rdr Go.Proofs.YthghggnlfnbbgabDoor.Dat Go.Proofs.YthghggnlfnbbgabDoor.HasL
set_option linter.unusedVariables false

theorem mem_yes {xs : List Int} {v : Int} (k : Nat) (h : k < xs.length) (e : xs[k] = v) : decide (v ∈ xs) = true := by simp only [decide_eq_true_eq]; rw [← e]; exact List.getElem_mem h
theorem mem_no {xs : List Int} {v : Int} (h : ∀ j (h : j < xs.length), xs[j] ≠ v) : decide (v ∈ xs) = false := by
  simp only [decide_eq_false_iff_not]
  intro hm
  obtain ⟨j, hj, e⟩ := List.getElem_of_mem hm
  exact h j hj e
/-- What an index of v in xs is: from 0 on just where v occurs. -/
def Idx (xs : List Int) (v : Int) (w : World) (e : Ending) (w' : World) : Prop := ∃ i : Int, e = .returned (.int .i64 i) ∧ -1 ≤ i ∧ i ≤ 9223372036854775807 ∧ decide (0 ≤ i) = decide (v ∈ xs) ∧ w = w'

theorem lib_index (a : Option Addr) (cap B : Nat) (xs : List Int) (v : Int) (w : World) (hn : xs.length ≤ 1048576) (h : Rd w B a xs) :
    Calls Tryd.prog 64 #[.slice a xs.length cap, .int .i64 v] w (Idx xs v w) := by
  go_enter Tryd.func64, Tryd.ntmps64
  go_wp2
  go_loop [5, 8] (fun _ i => ∃ k : Nat, k ≤ xs.length ∧ i = .int .i64 k ∧ Hid (∀ j (h : j < xs.length), j < k → xs[j] ≠ v)) (fun _ i => xs.length - (intOf i).toNat)
  case atStart => exact ⟨0, Nat.zero_le _, rfl, hid (fun j _ h => by omega)⟩
  case round =>
    obtain ⟨k, hk, rfl, hno⟩ := hrel
    by_cases hlt : k < xs.length
    · obtain ⟨b, off, rfl, hbB, hc⟩ := h (by omega)
      have g := hc k hlt
      clear hc h
      by_cases hx : xs[k] = v
      · have ht : (v == xs[k]) = true := by simp [hx]
        have H := hid (show decide (0 ≤ (k : Int)) = decide (v ∈ xs) by rw [mem_yes k hlt hx]; simp)
        clear hx
        go_wp2
        go_ret
        exact ⟨k, rfl, by omega, by omega, H.out, rfl⟩
      · have ht : (v == xs[k]) = false := by simp only [beq_eq_false_iff_ne]; exact fun e => hx e.symm
        have HN := hid (show ∀ j (h : j < xs.length), j < k + 1 → xs[j] ≠ v from fun j hj hjk => by
          by_cases e : j = k
          · subst e; exact hx
          · exact hno.out j hj (by omega))
        clear hx
        go_wp2
        go_round
        case rel => exact ⟨k + 1, by omega, by go_num, HN⟩
        case measure => simp [intOf]; omega
    · have H := hid (show decide (0 ≤ (-1 : Int)) = decide (v ∈ xs) by rw [mem_no (fun j hj => hno.out j hj (by omega))]; rfl)
      clear h
      go_wp2
      go_ret
      exact ⟨-1, rfl, by omega, by omega, H.out, rfl⟩

theorem lib_contains (a : Option Addr) (cap B : Nat) (xs : List Int) (v : Int) (w : World) (hn : xs.length ≤ 1048576) (h : Rd w B a xs) :
    Calls Tryd.prog 56 #[.slice a xs.length cap, .int .i64 v] w fun e w' => e = .returned (.bool (decide (v ∈ xs))) ∧ w = w' := by
  have I := hid (lib_index a cap B xs v w hn h)
  clear h
  go_enter Tryd.func56, Tryd.ntmps56
  go_wp2_with fail
  refine I.out.mono ?_
  rintro e w' ⟨i, rfl, h1, h2, hi, rfl⟩
  have HI := hid hi
  clear hi
  go_wp2
  go_ret
  exact ⟨by rw [← HI.out]; rfl, rfl⟩

/-- spec.l7Find. -/
theorem spec_find (a : Option Addr) (n cap B : Nat) (xs : List Int) (v : Int) (w : World) (hl : xs.length = n) (hn : n ≤ 1048576) (h : Rd w B a xs) :
    Calls Tryd.prog 35 #[.slice a n cap, .int .i64 v] w (Idx xs v w) := by
  subst hl
  go_enter Tryd.func35, Tryd.ntmps35
  go_wp2
  go_loop [5] (fun i => ∃ k : Nat, k ≤ xs.length ∧ i = .int .i64 k ∧ Hid (∀ j (h : j < xs.length), j < k → xs[j] ≠ v)) (fun i => xs.length - (intOf i).toNat)
  case atStart => exact ⟨0, Nat.zero_le _, rfl, hid (fun j _ h => by omega)⟩
  case round =>
    obtain ⟨k, hk, rfl, hno⟩ := hrel
    by_cases hlt : k < xs.length
    · obtain ⟨b, off, rfl, hbB, hc⟩ := h (by omega)
      have g := hc k hlt
      clear hc h
      by_cases hx : xs[k] = v
      · have ht : (xs[k] == v) = true := by simp [hx]
        have H := hid (show decide (0 ≤ (k : Int)) = decide (v ∈ xs) by rw [mem_yes k hlt hx]; simp)
        clear hx
        go_wp2
        go_ret
        exact ⟨k, rfl, by omega, by omega, H.out, rfl⟩
      · have ht : (xs[k] == v) = false := by simp only [beq_eq_false_iff_ne]; exact hx
        have HN := hid (show ∀ j (h : j < xs.length), j < k + 1 → xs[j] ≠ v from fun j hj hjk => by
          by_cases e : j = k
          · subst e; exact hx
          · exact hno.out j hj (by omega))
        clear hx
        go_wp2
        go_round
        case rel => exact ⟨k + 1, by omega, by go_num, HN⟩
        case measure => simp [intOf]; omega
    · have H := hid (show decide (0 ≤ (-1 : Int)) = decide (v ∈ xs) by rw [mem_no (fun j hj => hno.out j hj (by omega))]; rfl)
      clear h
      go_wp2
      go_ret
      exact ⟨-1, rfl, by omega, by omega, H.out, rfl⟩

theorem spec_has (cs : List Value) (x : AtomD) (v : Int) (lo hi : Nat) (w : World) (hs : x.2.length ≤ 1048576) (h : rAtom w lo hi cs x) (hh : hi ≤ w.heap.size) :
    Calls Tryd.prog 16 #[.agg cs.toArray, .int .i64 v] w fun e w' => e = .returned (.bool (decide (v ∈ x.2))) ∧ Below w.heap.size w w' := by
  obtain ⟨a, cap, rfl, hz1, hz2, hr⟩ := atom_open h
  obtain ⟨c0, c1, _, _, z⟩ := (hasl_new w [.string x.1, .slice a x.2.length cap] 45).two
  have B1 := hid ((Below.refl w.heap.size w).alloc (Nat.le_refl _) (.cells #[.string x.1, .slice a x.2.length cap] 45))
  have HR := hid ((rd_of hr).below (B1.out.mono hh))
  clear h hr
  go_enter Tryd.func16, Tryd.ntmps16
  go_wp2
  go_loop [5] (fun i => ∃ k : Nat, k ≤ x.2.length ∧ i = .int .i64 k ∧ Hid (∀ j (h : j < x.2.length), j < k → x.2[j] ≠ v)) (fun i => x.2.length - (intOf i).toNat)
  case atStart => exact ⟨0, Nat.zero_le _, rfl, hid (fun j _ h => by omega)⟩
  case round =>
    obtain ⟨k, hk, rfl, hno⟩ := hrel
    by_cases hlt : k < x.2.length
    · obtain ⟨b, off, rfl, hbB, hc⟩ := HR.out (by omega)
      have g := hc k hlt
      clear hc
      by_cases hx : x.2[k] = v
      · have ht : (x.2[k] == v) = true := by simp [hx]
        have H := hid (mem_yes k hlt hx)
        clear hx
        go_wp2
        go_ret
        exact ⟨by rw [H.out]; rfl, B1.out⟩
      · have ht : (x.2[k] == v) = false := by simp only [beq_eq_false_iff_ne]; exact hx
        have HN := hid (show ∀ j (h : j < x.2.length), j < k + 1 → x.2[j] ≠ v from fun j hj hjk => by
          by_cases e : j = k
          · subst e; exact hx
          · exact hno.out j hj (by omega))
        clear hx
        go_wp2
        go_round
        case rel => exact ⟨k + 1, by omega, by go_num, HN⟩
        case measure => simp [intOf]; omega
    · have H := hid (mem_no (fun j hj => hno.out j hj (by omega)))
      go_wp2
      go_ret
      exact ⟨by rw [H.out]; rfl, B1.out⟩

theorem impl_has (cs : List Value) (x : AtomD) (v : Int) (lo hi : Nat) (w : World) (hs : x.2.length ≤ 1048576) (h : rAtom w lo hi cs x) (hh : hi ≤ w.heap.size) :
    Calls Tryd.prog 53 #[.agg cs.toArray, .int .i64 v] w fun e w' => e = .returned (.bool (decide (v ∈ x.2))) ∧ Below w.heap.size w w' := by
  obtain ⟨a, cap, rfl, hz1, hz2, hr⟩ := atom_open h
  have B1 := hid ((Below.refl w.heap.size w).alloc (Nat.le_refl _) (.cells #[.string x.1, .slice a x.2.length cap] 45))
  have L := hid (lib_contains a cap hi x.2 v _ hs ((rd_of hr).below (B1.out.mono hh)))
  clear h hr
  go_enter Tryd.func53, Tryd.ntmps53
  go_wp2_with fail
  refine L.out.mono ?_
  rintro e w' ⟨rfl, rfl⟩
  go_wp2
  go_ret
  exact ⟨rfl, B1.out⟩
end Go.Proofs.YthghggnlfnbbgabDoor.VarIn
