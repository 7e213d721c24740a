/- The model's reading of a number (spec.l2Num) at every string. -/
import Derived.Test.YtanfakpeongfjaaDoorReadR
import Derived.WalkKit
import Derived.ProofKit
import Derived.OpenShut
namespace Go.Proofs.YtanfakpeongfjaaDoor.NumCall
open Go.ChangeShapes Go.WideShapes Go.ChangeAt Go.RowKit
open Go.Proofs.YtanfakpeongfjaaDoor.Num Go.Proofs.YtanfakpeongfjaaDoor.Row Go.Proofs.YtanfakpeongfjaaDoor.ReadR
set_option linter.unusedVariables false

theorem hcase (s : ByteArray) : s.size = 0 ∨ (∃ h : 0 < s.size, (((s[0].toNat : Nat) : Int) == 45) = true) ∨ (∃ h : 0 < s.size, (((s[0].toNat : Nat) : Int) == 45) = false) := by
  by_cases h : 0 < s.size
  · cases hb : (((s[0].toNat : Nat) : Int) == 45)
    · exact Or.inr (Or.inr ⟨h, hb⟩)
    · exact Or.inr (Or.inl ⟨h, hb⟩)
  · exact Or.inl (by omega)

theorem none' (s : ByteArray) (w : World) (h0 : s.size = 0) :
    Calls Tryd.prog 7 #[.string s] w fun e w' => e = .returned (.int .i64 (l2 s.data.toList)) ∧ Below w.heap.size w w' := by
  have hl := hid (l2_none s h0)
  go_enter Tryd.func7, Tryd.ntmps7
  go_wp2_with fail
  go_loop [3, 5] (fun n i => n = .int .i64 0 ∧ i = .int .i64 0) (fun _ _ => 0)
  case atStart => exact ⟨rfl, rfl⟩
  case round =>
    obtain ⟨rfl, rfl⟩ := hrel
    go_wp2
    go_ret
    exact ⟨by rw [hl.out]; rfl, Below.refl _ _⟩

theorem minus (s : ByteArray) (w : World) (hs : s.size ≤ 1048576) (h0 : 0 < s.size) (hc : (((s[0].toNat : Nat) : Int) == 45) = true) :
    Calls Tryd.prog 7 #[.string s] w fun e w' => e = .returned (.int .i64 (l2 s.data.toList)) ∧ Below w.heap.size w w' := by
  have hl := hid (l2_minus s h0 hc)
  have htl := hid (tail_of s)
  have hts := hid (show (s.extract 1 s.size).size = s.size - 1 by simp)
  go_enter Tryd.func7, Tryd.ntmps7
  go_wp2_with fail
  generalize s.extract 1 s.size = t at htl hts ⊢
  have hm : t.size ≤ 1048576 := by have := hts.out; omega
  rw [← htl.out] at hl
  clear htl hts
  go_loop [3, 5] (fun n i => ∃ j : Nat, j ≤ t.size ∧ (t.size < 12 ∨ j = 0) ∧ PD t j ∧ n = .int .i64 (rv t j : Nat) ∧ i = .int .i64 j) (fun _ i => t.size + 1 - (intOf i).toNat)
  case atStart => exact ⟨0, Nat.zero_le _, Or.inr rfl, pd_zero t, by rw [rv_zero]; rfl, rfl⟩
  case round =>
    obtain ⟨j, hj, hsm, hP, rfl, rfl⟩ := hrel
    have hb := rv_bound t j (by omega) hP
    by_cases hlt : j < t.size ∧ t.size < 12
    · obtain ⟨hl1, hl2⟩ := hlt
      go_wp2
      · have hz := hid (mag_bad t j hl1 (by omega))
        go_ret
        exact ⟨by rw [hl.out, hz.out]; rfl, Below.refl _ _⟩
      · have hd := hid (rv_step t j hl1 hP (by omega) (by omega))
        go_round
        case rel => exact ⟨j + 1, by omega, by omega, hd.out.2, by rw [hd.out.1], by go_num⟩
        case measure => simp [intOf]; omega
      · have hz := hid (mag_bad t j hl1 (by omega))
        go_ret
        exact ⟨by rw [hl.out, hz.out]; rfl, Below.refl _ _⟩
    · by_cases hsz : t.size < 12
      · have hz := hid (mag_end t j (by omega) hsz hP)
        have hge : ¬ j < t.size := by omega
        clear hlt
        go_wp2
        go_ret
        exact ⟨by rw [hl.out, hz.out]; simp, Below.refl _ _⟩
      · have hz := hid (mag_long t hsz)
        obtain rfl : j = 0 := by omega
        have hge : 0 < t.size := by omega
        rw [rv_zero]
        clear hlt
        go_wp2
        go_ret
        exact ⟨by rw [hl.out, hz.out]; rfl, Below.refl _ _⟩

theorem plus (s : ByteArray) (w : World) (hs : s.size ≤ 1048576) (h0 : 0 < s.size) (hc : (((s[0].toNat : Nat) : Int) == 45) = false) :
    Calls Tryd.prog 7 #[.string s] w fun e w' => e = .returned (.int .i64 (l2 s.data.toList)) ∧ Below w.heap.size w w' := by
  have hl := hid (l2_plus s h0 hc)
  have hm := hs
  go_enter Tryd.func7, Tryd.ntmps7
  go_wp2_with fail
  go_loop [3, 5] (fun n i => ∃ j : Nat, j ≤ s.size ∧ (s.size < 12 ∨ j = 0) ∧ PD s j ∧ n = .int .i64 (rv s j : Nat) ∧ i = .int .i64 j) (fun _ i => s.size + 1 - (intOf i).toNat)
  case atStart => exact ⟨0, Nat.zero_le _, Or.inr rfl, pd_zero s, by rw [rv_zero]; rfl, rfl⟩
  case round =>
    obtain ⟨j, hj, hsm, hP, rfl, rfl⟩ := hrel
    have hb := rv_bound s j (by omega) hP
    by_cases hlt : j < s.size ∧ s.size < 12
    · obtain ⟨hl1, hl2⟩ := hlt
      go_wp2
      · have hz := hid (mag_bad s j hl1 (by omega))
        go_ret
        exact ⟨by rw [hl.out, hz.out]; rfl, Below.refl _ _⟩
      · have hd := hid (rv_step s j hl1 hP (by omega) (by omega))
        go_round
        case rel => exact ⟨j + 1, by omega, by omega, hd.out.2, by rw [hd.out.1], by go_num⟩
        case measure => simp [intOf]; omega
      · have hz := hid (mag_bad s j hl1 (by omega))
        go_ret
        exact ⟨by rw [hl.out, hz.out]; rfl, Below.refl _ _⟩
    · by_cases hsz : s.size < 12
      · have hz := hid (mag_end s j (by omega) hsz hP)
        have hge : ¬ j < s.size := by omega
        clear hlt
        go_wp2
        go_ret
        exact ⟨by rw [hl.out, hz.out]; simp, Below.refl _ _⟩
      · have hz := hid (mag_long s hsz)
        obtain rfl : j = 0 := by omega
        have hge : 0 < s.size := by omega
        rw [rv_zero]
        clear hlt
        go_wp2
        go_ret
        exact ⟨by rw [hl.out, hz.out]; rfl, Below.refl _ _⟩

theorem num_any (s : ByteArray) (w : World) (hs : s.size ≤ 1048576) :
    Calls Tryd.prog 7 #[.string s] w fun e w' => e = .returned (.int .i64 (l2 s.data.toList)) ∧ Below w.heap.size w w' := by
  rcases hcase s with hz | ⟨h0, hc⟩ | ⟨h0, hc⟩
  · exact none' s w hz
  · exact minus s w hs h0 hc
  · exact plus s w hs h0 hc

end Go.Proofs.YtanfakpeongfjaaDoor.NumCall
