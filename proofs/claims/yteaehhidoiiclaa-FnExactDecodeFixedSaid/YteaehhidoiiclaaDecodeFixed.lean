/-
  The decoder of fixed-width numbers (impl.DecodeFixed) answers as its model at every string and width: law FnExactDecodeFixed is true. No condition.
-/
import Derived.Test.YteaehhidoiiclaaRows
import Derived.Test.YteaehhidoiiclaaNum
import Derived.WalkKit
import Derived.ProofKit
import Derived.OpenShut
import Derived.ShutString
import Derived.IntWalk
import Derived.BigQuiet
import Derived.Deep.QuietTactic
namespace Go.Proofs.Yteaehhidoiiclaa.DecodeFixed
open Go.ChangeShapes Go.WideShapes Go.ChangeAt Go.RowKit
open Go.ChangeMaps (open_string shut_string)
open Go.Proofs.Yteaehhidoiiclaa.Num
set_option linter.unusedVariables false

theorem spec_no (s : ByteArray) (k : Int) (w : World) (hs : s.size ≤ maxLen) (h : k < 1 ∨ 7 < k ∨ (s.size : Int) < k) :
    Calls Try.prog 11 #[.string s, .int .i64 k] w fun e w' => e = .returned (.tuple #[.int .i64 0, .bool false]) ∧ w = w' := by
  unfold maxLen at hs
  rcases (by omega : k < 1 ∨ 7 < k ∨ (1 ≤ k ∧ k ≤ 7 ∧ (s.size : Int) < k)) with h | h | ⟨h1, h2, h3⟩ <;>
  · go_enter Try.func11, Try.ntmps11
    go_wp2
    go_ret2
    exact ⟨rfl, rfl⟩

theorem impl_no (s : ByteArray) (k : Int) (w : World) (hs : s.size ≤ maxLen) (h : k < 1 ∨ 7 < k ∨ (s.size : Int) < k) :
    Calls Try.prog 12 #[.string s, .int .i64 k] w fun e w' => e = .returned (.tuple #[.int .i64 0, .bool false]) ∧ w = w' := by
  unfold maxLen at hs
  rcases (by omega : k < 1 ∨ 7 < k ∨ (1 ≤ k ∧ k ≤ 7 ∧ (s.size : Int) < k)) with h | h | ⟨h1, h2, h3⟩ <;>
  · go_enter Try.func12, Try.ntmps12
    go_wp2
    go_ret2
    exact ⟨rfl, rfl⟩

theorem spec_yes (s : ByteArray) (k : Nat) (w : World) (hs : s.size ≤ maxLen) (h1 : 1 ≤ k) (h2 : k ≤ 7) (h3 : k ≤ s.size) :
    Calls Try.prog 11 #[.string s, .int .i64 k] w fun e w' => e = .returned (.tuple #[.int .i64 (decB (s.data.toList.take k)), .bool true]) ∧ w = w' := by
  unfold maxLen at hs
  go_enter Try.func11, Try.ntmps11
  go_wp2
  go_loop [6, 7] (fun n i => ∃ j : Nat, j ≤ k ∧ i = .int .i64 j ∧ n = .int .i64 (decB (s.data.toList.take j))) (fun _ i => k - (intOf i).toNat)
  case atStart => exact ⟨0, Nat.zero_le _, rfl, rfl⟩
  case round =>
    obtain ⟨j, hj, rfl, rfl⟩ := hrel
    have d0 := decB_nonneg (s.data.toList.take j)
    by_cases hlt : j < k
    · have hjs : j < s.size := by omega
      have d1 := decB_small (s.data.toList.take j) (by simp; omega)
      have hsn := hid (show decB (s.data.toList.take (j + 1)) = decB (s.data.toList.take j) * 256 + (s[j].toNat : Int) by rw [take_snoc s j hjs, decB_snoc])
      have hb := s[j].toNat_lt
      go_wp2
      go_round
      case rel => exact ⟨j + 1, by omega, by go_num, by rw [hsn.out]⟩
      case measure => simp [intOf]; omega
    · go_wp2
      go_ret2
      have e : j = k := by omega
      subst e
      exact ⟨rfl, rfl⟩

theorem impl_yes (s : ByteArray) (k : Nat) (w : World) (hs : s.size ≤ maxLen) (h1 : 1 ≤ k) (h2 : k ≤ 7) (h3 : k ≤ s.size) :
    Calls Try.prog 12 #[.string s, .int .i64 k] w fun e w' => e = .returned (.tuple #[.int .i64 (decB (s.data.toList.take k)), .bool true]) ∧ w = w' := by
  unfold maxLen at hs
  go_enter Try.func12, Try.ntmps12
  go_wp2
  go_loop [6, 18] (fun n i => ∃ j : Nat, j ≤ k ∧ i = .int .i64 j ∧ n = .int .i64 (decB (s.data.toList.take j))) (fun _ i => k - (intOf i).toNat)
  case atStart => exact ⟨0, Nat.zero_le _, rfl, rfl⟩
  case round =>
    obtain ⟨j, hj, rfl, rfl⟩ := hrel
    have d0 := decB_nonneg (s.data.toList.take j)
    by_cases hlt : j < k
    · have hjs : j < s.size := by omega
      have d1 := decB_small (s.data.toList.take j) (by simp; omega)
      have hsn := hid (show decB (s.data.toList.take (j + 1)) = decB (s.data.toList.take j) * 256 + (s[j].toNat : Int) by rw [take_snoc s j hjs, decB_snoc])
      have hb := s[j].toNat_lt
      go_wp2
      go_round
      case rel => exact ⟨j + 1, by omega, by go_num, by rw [hsn.out, or256 _ _ d0 (by omega) (by omega) d1]⟩
      case measure => simp [intOf]; omega
    · go_wp2
      go_ret2
      have e : j = k := by omega
      subst e
      exact ⟨rfl, rfl⟩

theorem walk (a0 : ByteArray) (a1 : Int) (w0 : a0.size ≤ maxLen) (w1 : (Lit.int .i64 a1).wf = true) (w : World) :
    Calls Try.prog 4 #[.string a0, .int .i64 a1] w fun e w' => e = .returned (.bool true) ∧ Grown w w' := by
  have hm : a0.size ≤ 9223372036854775807 := by unfold maxLen at w0; omega
  by_cases hbig : 1048576 < a0.size
  · go_enter Try.func4, Try.ntmps4
    go_wp2
    go_ret
    exact ⟨rfl, Grown.refl _⟩
  · by_cases hv : 1 ≤ a1 ∧ a1 ≤ 7 ∧ a1 ≤ (a0.size : Int)
    · obtain ⟨k, rfl⟩ := Int.eq_ofNat_of_zero_le (show 0 ≤ a1 by omega)
      obtain ⟨g1, g2, g3⟩ := hv
      go_enter Try.func4, Try.ntmps4
      go_wp2_with fail
      refine (spec_yes a0 k _ w0 (by omega) (by omega) (by omega)).mono ?_
      rintro e w' ⟨rfl, rfl⟩
      go_wp2_with fail
      refine (impl_yes a0 k _ w0 (by omega) (by omega) (by omega)).mono ?_
      rintro e w' ⟨rfl, rfl⟩
      go_wp2
      go_ret
      exact ⟨rfl, Grown.refl _⟩
    · go_enter Try.func4, Try.ntmps4
      go_wp2_with fail
      refine (spec_no a0 a1 _ w0 (by omega)).mono ?_
      rintro e w' ⟨rfl, rfl⟩
      go_wp2_with fail
      refine (impl_no a0 a1 _ w0 (by omega)).mono ?_
      rintro e w' ⟨rfl, rfl⟩
      go_wp2
      go_ret
      exact ⟨rfl, Grown.refl _⟩

theorem own : ownKnob Try.prog.godebug = none := by kernel_rfl

set_option maxRecDepth 100000 in
theorem lifted (os : Os) (started : os.Started) (H : Type) (enc : TypeId × Value → H) :
    ReturnsInHanded {} Try.checked os 4 .any (Rows.fnExactDecodeFixedSpec.pre6 enc Try.prog Try.f4 Rows.fnExactDecodeFixedRow.domain false) (Rows.fnExactDecodeFixedSpec.post enc Try.prog Try.f4 false true false false) := by
  refine returnsInHanded_of_change (C := Try.checked) own started (by kernel_rfl) Try.func4
    (ChangeSpec.witness6 (enc := enc) (C := Try.checked) false ⟨#[], #[.string ByteArray.empty, .int .i64 0], []⟩ 8 (by kernel_rfl) (by kernel_rfl) (by kernel_rfl) (by kernel_rfl)) ?_
  intro W base args ds gs before hval0 hW hcnd _
  have hval : ∀ (j : Nat) t v, Try.f4.params[j]? = some t → args[j]? = some v → Value.okWide Try.prog W .any base t v := hval0
  have hW' := hW
  obtain ⟨p, q, hA0, hV, rfl, hfz, hnd⟩ := hW
  have hA : DataW.TrodAll enc Try.prog W 0 (fun _ => true) true Try.f4.params.toList args.toList ds p := hA0
  rw [Try.params4] at hA hval
  obtain ⟨v0, vs0, d0, ds0, p0, q0, hargs, rfl, rfl, h0, r0⟩ := trodAll_cons hA
  obtain ⟨v1, vs1, d1, ds1, p1, q1, rfl, rfl, rfl, h1, r1⟩ := trodAll_cons r0
  obtain ⟨rfl, rfl, rfl⟩ := trodAll_nil r1
  obtain rfl : args = #[v0, v1] := by cases args; simp_all
  obtain ⟨rfl, rfl⟩ := trodVars_none hV
  obtain ⟨a0, rfl, rfl, rfl, w0⟩ := open_string Try.underlying9 (hval 0 9 v0 rfl rfl) h0
  obtain ⟨a1, rfl, rfl, rfl, w1⟩ := open_int Try.underlying3 (hval 1 3 v1 rfl rfl) h1
  clear hA0 hval0
  simp only [List.append_nil] at hW'
  refine (walk a0 a1 w0 w1 W).mono fun e W' ⟨he, hg⟩ => ?_
  subst he
  exact ⟨_, rfl, post_of_same (pa := []) (pv := []) hW' (fun _ _ _ => (trodAll_cons_mk (shut_bool Try.underlying4 _) trodAll_mk0)) (fun sp _ => (trodAll_cons_mk (shut_string Try.underlying9 w0) (trodAll_cons_mk (shut_int Try.underlying3 w1) trodAll_mk0))) (fun _ _ => rfl) rfl
    (hg.frame _) hg.2.1 (ok_one (by kernel_rfl) rfl (okWide_bool_mk Try.underlying4 _))⟩

theorem proved : Rows.FnExactDecodeFixedSaid :=
  OpenClaim.holds_of_wide 4 Try.f4 rfl rfl rfl rfl rfl rfl rfl ⟨rfl, rfl, rfl, rfl, rfl⟩ rfl rfl rfl rfl rfl (by kernel_rfl) Try.func4 (by kernel_rfl)
    (of_decide_eq_true (by kernel_rfl)) (by unfold Func.isWrapper; first | (rw [if_pos (by decide +kernel)]; kernel_rfl) | (rw [if_neg (by decide +kernel)]; exact ⟨rfl, rfl⟩))
    (fun os started H enc _ => lifted os started H enc)
#print axioms proved

end Go.Proofs.Yteaehhidoiiclaa.DecodeFixed
