/-
  The encoder of fixed-width numbers (impl.EncodeFixed) answers as its model at every number and width: law FnExactEncodeFixed is true. No condition.
-/
import Derived.Test.YteaehhidoiiclaaRows
import Derived.Test.YteaehhidoiiclaaNum
import Derived.Test.YteaehhidoiiclaaRow
import Derived.WalkKit
import Derived.ProofKit
import Derived.OpenShut
import Derived.ShutString
import Derived.IntWalk
import Derived.BigQuiet
import Derived.Deep.QuietTactic
namespace Go.Proofs.Yteaehhidoiiclaa.EncodeFixed
open Go.ChangeShapes Go.WideShapes Go.ChangeAt Go.RowKit
open Go.ChangeMaps (open_string shut_string)
open Go.Proofs.Yteaehhidoiiclaa.Num Go.Proofs.Yteaehhidoiiclaa.Row
set_option linter.unusedVariables false

theorem info : (Try.prog.info? 5).map (fun i => (i.zero, i.size, i.bytes)) = some (some (.int .u8 0), 1, 1) := by kernel_rfl

theorem l1in (a b c : Int) (w : World) (h1 : b ≤ a) (h2 : a ≤ c) :
    Calls Try.prog 21 #[.int .i64 a, .int .i64 b, .int .i64 c] w fun e w' => e = .returned (.bool true) ∧ w = w' := by
  go_enter Try.func21, Try.ntmps21
  go_wp2
  go_ret
  exact ⟨rfl, rfl⟩

theorem l1in_no (a b c : Int) (w : World) (h : a < b ∨ c < a) :
    Calls Try.prog 21 #[.int .i64 a, .int .i64 b, .int .i64 c] w fun e w' => e = .returned (.bool false) ∧ w = w' := by
  rcases (by omega : ¬ b ≤ a ∨ (b ≤ a ∧ ¬ a ≤ c)) with h | ⟨h0, h⟩ <;>
  · go_enter Try.func21, Try.ntmps21
    go_wp2
    go_ret
    exact ⟨rfl, rfl⟩

theorem width (a : Int) (w : World) (h1 : 1 ≤ a) (h2 : a ≤ 7) :
    Calls Try.prog 22 #[.int .i64 a] w fun e w' => e = .returned (.bool true) ∧ w = w' := by
  go_enter Try.func22, Try.ntmps22
  go_wp2
  go_ret
  exact ⟨rfl, rfl⟩

theorem width_no (a : Int) (w : World) (h : a < 1 ∨ 7 < a) :
    Calls Try.prog 22 #[.int .i64 a] w fun e w' => e = .returned (.bool false) ∧ w = w' := by
  rcases (by omega : ¬ 1 ≤ a ∨ (1 ≤ a ∧ ¬ a ≤ 7)) with h | ⟨h0, h⟩ <;>
  · go_enter Try.func22, Try.ntmps22
    go_wp2
    go_ret
    exact ⟨rfl, rfl⟩

/-- What both encoders answer at a width from 1 to 7 and a number that is not negative. -/
def fixS (n k : Nat) : ByteArray := if n / 256 ^ k = 0 then ⟨(fixB n k).toArray⟩ else ⟨#[]⟩

theorem spec_yes (n k : Nat) (w : World) (hn : n ≤ 9223372036854775807) (h1 : 1 ≤ k) (h2 : k ≤ 7) :
    Calls Try.prog 9 #[.int .i64 n, .int .i64 k] w fun e w' => e = .returned (.string (fixS n k)) ∧ Below w.heap.size w w' := by
  go_enter Try.func9, Try.ntmps9
  go_wp2_with (go_at_call 21; refine (l1in _ _ _ _ (by omega) (by omega)).mono ?_; rintro e w' ⟨rfl, rfl⟩)
  go_loopw [0, 5, 6] (fun m o i wr => ∃ j x : Nat, j ≤ k ∧ x ≤ n ∧ m = .int .i64 x ∧ i = .int .i64 j ∧ Hid (x = n / 256 ^ j) ∧ o = .string ⟨(fixB n j).toArray⟩ ∧ Below w.heap.size w wr ∧ w.heap.size ≤ wr.heap.size) (fun _ _ i _ => k - (intOf i).toNat)
  case atStart => exact ⟨0, n, Nat.zero_le _, Nat.le_refl _, rfl, rfl, hid (by simp), rfl, Below.refl _ _, Nat.le_refl _⟩
  case round =>
    obtain ⟨j, x, hj, hx, rfl, rfl, hxj, rfl, hbel, hsz⟩ := hrel
    by_cases hlt : j < k
    · have hcv := convert_one (P := Try.prog) wr 36 5 9 Try.underlying36 Try.underlying5 Try.underlying9 ((x : Int) % 256) (byteAt n j) (byteAt_int n j x hxj.out).symm
      have hlen : (fixB n j).length ≤ 7 := by rw [fixB_length]; omega
      go_wp2
      go_roundw
      case rel =>
        exact ⟨j + 1, x / 256, by omega, Nat.le_trans (Nat.div_le_self _ _) hx, by go_num, by go_num, hid (div_step n j x hxj.out), by rw [str_cons]; rfl, hbel.alloc hsz _, by simp; omega⟩
      case measure => simp [intOf]; omega
    · obtain rfl : j = k := by omega
      by_cases hx0 : x = 0
      · subst hx0
        go_wp2
        go_ret
        refine ⟨?_, hbel⟩
        unfold fixS
        rw [if_pos hxj.out.symm]
        rfl
      · have hx1 : 0 < (x : Int) := by omega
        go_wp2
        go_ret
        refine ⟨?_, hbel⟩
        unfold fixS
        rw [if_neg (fun h => hx0 (hxj.out.trans h))]
        rfl

theorem pow_same (n k : Nat) : (n : Int) / 2 ^ (8 * k) = ((n / 256 ^ k : Nat) : Int) := by
  have e : (2 : Int) ^ (8 * k) = ((256 ^ k : Nat) : Int) := by
    rw [Int.pow_mul]
    simp
  rw [e]
  rfl

theorem impl_big (n k : Nat) (w : World) (hn : n ≤ 9223372036854775807) (h1 : 1 ≤ k) (h2 : k ≤ 7) (hb : ¬ n / 256 ^ k = 0) :
    Calls Try.prog 10 #[.int .i64 n, .int .i64 k] w fun e w' => e = .returned (.string (fixS n k)) ∧ Below w.heap.size w w' := by
  have hb1 : ((n : Int) / 2 ^ (8 * k) != 0) = true := by
    rw [pow_same]
    simp only [bne_iff_ne]
    omega
  have hfix := hid (show fixS n k = ⟨#[]⟩ by unfold fixS; rw [if_neg hb])
  clear hb
  go_enter Try.func10, Try.ntmps10
  go_wp2_with (go_at_call 22; refine (width _ _ (by omega) (by omega)).mono ?_; rintro e w' ⟨rfl, rfl⟩)
  go_ret
  exact ⟨by rw [hfix.out]; rfl, Below.refl _ _⟩

theorem impl_fits (n k : Nat) (w : World) (hn : n ≤ 9223372036854775807) (h1 : 1 ≤ k) (h2 : k ≤ 7) (hb : n / 256 ^ k = 0) :
    Calls Try.prog 10 #[.int .i64 n, .int .i64 k] w fun e w' => e = .returned (.string (fixS n k)) ∧ Below w.heap.size w w' := by
  obtain ⟨i0, hi, hz0, hz1, hz2⟩ := info_parts info
  have hb1 : ((n : Int) / 2 ^ (8 * k) != 0) = false := by
    rw [pow_same, hb]
    rfl
  have hfix := hid (show fixS n k = ⟨(fixB n k).toArray⟩ by unfold fixS; rw [if_pos hb])
  clear hb
  have hmk := make_bytes (P := Try.prog) w 36 5 i0 Try.underlying36 hi hz0 hz1 hz2 k k (by omega) (by omega) (by omega)
  simp only [Int.toNat_natCast, zrow_made] at hmk
  go_enter Try.func10, Try.ntmps10
  go_wp2_with (go_at_call 22; refine (width _ _ (by omega) (by omega)).mono ?_; rintro e w' ⟨rfl, rfl⟩)
  go_loopw [0, 6] (fun m i wr => ∃ (j p x : Nat) (z : Int), Hid (p + j = k) ∧ Hid (z = p - 1) ∧ x ≤ n ∧ m = .int .i64 x ∧ i = .int .i64 z ∧ Hid (x = n / 256 ^ j) ∧ wr = w.alloc (.cells (zrow p (fixB n j)) 5)) (fun _ i _ => (intOf i + 1).toNat)
  case atStart => exact ⟨0, k, n, _, hid rfl, hid rfl, Nat.le_refl _, rfl, rfl, hid (by simp), rfl⟩
  case round =>
    obtain ⟨j, p, x, z, hp, hz, hx, rfl, rfl, hxj, rfl⟩ := hrel
    have hpk := hp.out
    have hzp := hz.out
    rcases p with _ | q
    · obtain rfl : z = -1 := by omega
      obtain rfl : j = k := by omega
      have hcv := convert_block (P := Try.prog) w 36 5 9 Try.underlying36 Try.underlying5 Try.underlying9 (fixB n j) j j (fixB_length _ _)
      clear hpk hzp
      go_wp2
      go_ret
      refine ⟨?_, (Below.refl _ _).alloc (Nat.le_refl _) _⟩
      rw [hfix.out]
      rfl
    · obtain rfl : z = (q : Int) := by omega
      have hat := zrow_at q (fixB n j)
      have hset := zrow_set q (byteAt n j) (fixB n j)
      rw [byteAt_int n j x hxj.out] at hset
      have hq : q < k := by omega
      have hj : Hid (q + (j + 1) = k) := by show q + (j + 1) = k; omega
      clear hpk hzp hp hz
      go_wp2
      go_roundw
      case rel => exact ⟨j + 1, q, x / 256, _, hj, hid rfl, Nat.le_trans (Nat.div_le_self _ _) hx, by go_num, rfl, hid (div_step n j x hxj.out), rfl⟩
      case measure => simp [intOf]

theorem impl_yes (n k : Nat) (w : World) (hn : n ≤ 9223372036854775807) (h1 : 1 ≤ k) (h2 : k ≤ 7) :
    Calls Try.prog 10 #[.int .i64 n, .int .i64 k] w fun e w' => e = .returned (.string (fixS n k)) ∧ Below w.heap.size w w' := by
  by_cases hb : n / 256 ^ k = 0
  · exact impl_fits n k w hn h1 h2 hb
  · exact impl_big n k w hn h1 h2 hb

theorem spec_no (n k : Int) (w : World) (h : n < 0 ∨ k < 1 ∨ 7 < k) :
    Calls Try.prog 9 #[.int .i64 n, .int .i64 k] w fun e w' => e = .returned (.string ⟨#[]⟩) ∧ w = w' := by
  by_cases hk : k < 1 ∨ 7 < k
  · go_enter Try.func9, Try.ntmps9
    go_wp2_with (go_at_call 21; refine (l1in_no _ _ _ _ (by omega)).mono ?_; rintro e w' ⟨rfl, rfl⟩)
    go_ret
    exact ⟨rfl, rfl⟩
  · have hn : n < 0 := by omega
    go_enter Try.func9, Try.ntmps9
    go_wp2_with (go_at_call 21; refine (l1in _ _ _ _ (by omega) (by omega)).mono ?_; rintro e w' ⟨rfl, rfl⟩)
    go_ret
    exact ⟨rfl, rfl⟩

theorem impl_no (n k : Int) (w : World) (h : n < 0 ∨ k < 1 ∨ 7 < k) :
    Calls Try.prog 10 #[.int .i64 n, .int .i64 k] w fun e w' => e = .returned (.string ⟨#[]⟩) ∧ w = w' := by
  by_cases hk : k < 1 ∨ 7 < k
  · go_enter Try.func10, Try.ntmps10
    go_wp2_with (go_at_call 22; refine (width_no _ _ (by omega)).mono ?_; rintro e w' ⟨rfl, rfl⟩)
    go_ret
    exact ⟨rfl, rfl⟩
  · have hn : n < 0 := by omega
    go_enter Try.func10, Try.ntmps10
    go_wp2_with (go_at_call 22; refine (width _ _ (by omega) (by omega)).mono ?_; rintro e w' ⟨rfl, rfl⟩)
    go_ret
    exact ⟨rfl, rfl⟩

theorem walk (a0 : Int) (a1 : Int) (w0 : (Lit.int .i64 a0).wf = true) (w1 : (Lit.int .i64 a1).wf = true) (w : World) :
    Calls Try.prog 3 #[.int .i64 a0, .int .i64 a1] w fun e w' => e = .returned (.bool true) ∧ Below w.heap.size w w' := by
  have hb := bounds_i64 w0
  by_cases hv : a0 < 0 ∨ a1 < 1 ∨ 7 < a1
  · go_enter Try.func3, Try.ntmps3
    go_wp2_with fail
    refine (spec_no a0 a1 _ hv).mono ?_
    rintro e w1 ⟨rfl, rfl⟩
    go_wp2_with fail
    refine (impl_no a0 a1 _ hv).mono ?_
    rintro e w2 ⟨rfl, rfl⟩
    go_wp2
    go_ret
    exact ⟨rfl, Below.refl _ _⟩
  · obtain ⟨n, rfl⟩ := Int.eq_ofNat_of_zero_le (show 0 ≤ a0 by omega)
    obtain ⟨k, rfl⟩ := Int.eq_ofNat_of_zero_le (show 0 ≤ a1 by omega)
    have hn : n ≤ 9223372036854775807 := by omega
    have hk1 : 1 ≤ k := by omega
    have hk2 : k ≤ 7 := by omega
    clear hb hv
    go_enter Try.func3, Try.ntmps3
    go_wp2_with fail
    refine (spec_yes n k _ hn hk1 hk2).mono ?_
    rintro e w1 ⟨rfl, hb1⟩
    go_wp2_with fail
    refine (impl_yes n k _ hn hk1 hk2).mono ?_
    rintro e w2 ⟨rfl, hb2⟩
    go_wp2
    go_ret
    exact ⟨rfl, hb1.trans (hb2.mono hb1.size)⟩

theorem own : ownKnob Try.prog.godebug = none := by kernel_rfl

set_option maxRecDepth 100000 in
theorem lifted (os : Os) (started : os.Started) (H : Type) (enc : TypeId × Value → H) :
    ReturnsInHanded {} Try.checked os 3 .any (Rows.fnExactEncodeFixedSpec.pre6 enc Try.prog Try.f3 Rows.fnExactEncodeFixedRow.domain false) (Rows.fnExactEncodeFixedSpec.post enc Try.prog Try.f3 false true false false) := by
  refine returnsInHanded_of_change (C := Try.checked) own started (by kernel_rfl) Try.func3
    (ChangeSpec.witness6 (enc := enc) (C := Try.checked) false ⟨#[], #[.int .i64 0, .int .i64 0], []⟩ 8 (by kernel_rfl) (by kernel_rfl) (by kernel_rfl) (by kernel_rfl)) ?_
  intro W base args ds gs before hval0 hW hcnd _
  have hval : ∀ (j : Nat) t v, Try.f3.params[j]? = some t → args[j]? = some v → Value.okWide Try.prog W .any base t v := hval0
  have hW' := hW
  obtain ⟨p, q, hA0, hV, rfl, hfz, hnd⟩ := hW
  have hA : DataW.TrodAll enc Try.prog W 0 (fun _ => true) true Try.f3.params.toList args.toList ds p := hA0
  rw [Try.params3] at hA hval
  obtain ⟨v0, vs0, d0, ds0, p0, q0, hargs, rfl, rfl, h0, r0⟩ := trodAll_cons hA
  obtain ⟨v1, vs1, d1, ds1, p1, q1, rfl, rfl, rfl, h1, r1⟩ := trodAll_cons r0
  obtain ⟨rfl, rfl, rfl⟩ := trodAll_nil r1
  obtain rfl : args = #[v0, v1] := by cases args; simp_all
  obtain ⟨rfl, rfl⟩ := trodVars_none hV
  obtain ⟨a0, rfl, rfl, rfl, w0⟩ := open_int Try.underlying3 (hval 0 3 v0 rfl rfl) h0
  obtain ⟨a1, rfl, rfl, rfl, w1⟩ := open_int Try.underlying3 (hval 1 3 v1 rfl rfl) h1
  clear hA0 hval0
  simp only [List.append_nil] at hW'
  refine (walk a0 a1 w0 w1 W).mono fun e W' ⟨he, bel⟩ => ?_
  subst he
  exact ⟨_, rfl, _, _, _, [], [], [], hW', trodAll_mk1 (shut_bool Try.underlying4 _), (trodAll_cons_mk (shut_int Try.underlying3 w0) (trodAll_cons_mk (shut_int Try.underlying3 w1) trodAll_mk0)), rfl, bel.frame _, fun h => by cases h⟩

theorem proved : Rows.FnExactEncodeFixedSaid :=
  OpenClaim.holds_of_wide 3 Try.f3 rfl rfl rfl rfl rfl rfl rfl ⟨rfl, rfl, rfl, rfl, rfl⟩ rfl rfl rfl rfl rfl (by kernel_rfl) Try.func3 (by kernel_rfl)
    (of_decide_eq_true (by kernel_rfl)) (by unfold Func.isWrapper; first | (rw [if_pos (by decide +kernel)]; kernel_rfl) | (rw [if_neg (by decide +kernel)]; exact ⟨rfl, rfl⟩))
    (fun os started H enc _ => lifted os started H enc)
#print axioms proved

end Go.Proofs.Yteaehhidoiiclaa.EncodeFixed
