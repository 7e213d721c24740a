/-
  The encoder of varints (impl.EncodeVarint) answers as its model at every int: law FnExactEncodeVarint is true. No condition.
-/
import Derived.Test.YteaehhidoiiclaaRows
import Derived.Test.YteaehhidoiiclaaNum
import Derived.Test.YteaehhidoiiclaaRow
import Derived.WalkKit
import Derived.ProofKit
import Derived.OpenShut
import Derived.ShutString
import Derived.IntWalk
import Derived.BigQuiet
import Derived.Deep.QuietTactic
namespace Go.Proofs.Yteaehhidoiiclaa.EncodeVarint
open Go.ChangeShapes Go.WideShapes Go.ChangeAt Go.RowKit
open Go.ChangeMaps (open_string shut_string)
open Go.Proofs.Yteaehhidoiiclaa.Num Go.Proofs.Yteaehhidoiiclaa.Row
set_option linter.unusedVariables false

theorem info : (Try.prog.info? 5).map (fun i => (i.zero, i.size, i.bytes)) = some (some (.int .u8 0), 1, 1) := by kernel_rfl

theorem l1in (a b c : Int) (w : World) (h1 : b ≤ a) (h2 : a ≤ c) :
    Calls Try.prog 21 #[.int .i64 a, .int .i64 b, .int .i64 c] w fun e w' => e = .returned (.bool true) ∧ w = w' := by
  go_enter Try.func21, Try.ntmps21
  go_wp2
  go_ret
  exact ⟨rfl, rfl⟩

theorem l1in_no (a b c : Int) (w : World) (h : a < b ∨ c < a) :
    Calls Try.prog 21 #[.int .i64 a, .int .i64 b, .int .i64 c] w fun e w' => e = .returned (.bool false) ∧ w = w' := by
  rcases (by omega : ¬ b ≤ a ∨ (b ≤ a ∧ ¬ a ≤ c)) with h | ⟨h0, h⟩ <;>
  · go_enter Try.func21, Try.ntmps21
    go_wp2
    go_ret
    exact ⟨rfl, rfl⟩

theorem spec_yes (n : Nat) (w : World) (h2 : n ≤ 562949953421311) :
    Calls Try.prog 13 #[.int .i64 n] w fun e w' => e = .returned (.string ⟨(vint 6 n).toArray⟩) ∧ Below w.heap.size w w' := by
  obtain ⟨i0, hi, hz0, hz1, hz2⟩ := info_parts info
  have h1 : 0 ≤ (n : Int) := by omega
  have h3 : (n : Int) ≤ 562949953421311 := by omega
  go_enter Try.func13, Try.ntmps13
  go_wp2_with (go_at_call 21; refine (l1in _ _ _ _ (by omega) (by omega)).mono ?_; rintro e w' ⟨rfl, rfl⟩)
  go_loopw [0, 3] (fun m v wr => ∃ (k f : Nat) (l : List UInt8), m = .int .i64 k ∧ k ≤ 562949953421311 ∧ k < 128 ^ (f + 1) ∧ Hid (l ++ vint f k = vint 6 n) ∧ l.length + f ≤ 6 ∧ Owns wr w.heap.size 5 v l ∧ Below w.heap.size w wr ∧ w.heap.size ≤ wr.heap.size) (fun m _ _ => (intOf m).toNat)
  case atStart => exact ⟨n, 6, [], rfl, h2, by omega, hid rfl, by simp, Owns.made w _ #[] 0 _ (Nat.le_refl _) (by decide) rfl, (Below.refl _ _).alloc (Nat.le_refl _) _, by simp⟩
  case round =>
    obtain ⟨k, f, l, rfl, hkb, hk, hl, hlf, hown, hbel, hsz⟩ := hrel
    have hkb1 : (k : Int) ≤ 562949953421311 := by omega
    by_cases hlt : 128 ≤ (k : Int)
    · obtain ⟨f, rfl⟩ : ∃ g, f = g + 1 := ⟨f - 1, by
        rcases f with _ | f
        · simp at hk; omega
        · rfl⟩
      have hk1 : ¬ k < 128 := by omega
      have hk2 : k / 128 < 128 ^ (f + 1) := by
        rw [Nat.div_lt_iff_lt_mul (by omega)]; rw [Nat.pow_succ] at hk; exact hk
      go_wp2_with (at_builtin; refine append_byte rfl _ _ 36 rfl w.heap.size 5 i0 Try.underlying36 hi hz0 hz1 hz2 w wr _ l (hi7 k) hown (by rfl) hbel hsz _ ?c1 (by rfl) (by omega) ?_)
      case c1 => rw [hi7_int]
      intro v1 w1 hown1 hbel1 hsz1
      clear hown hbel hsz
      go_wp2
      go_roundw
      case rel => exact ⟨k / 128, f, l ++ [hi7 k], by go_num, by omega, hk2, hid (by rw [← hl.out, vint_more f k hk1]; simp), by simp; omega, hown1, hbel1, hsz1⟩
      case measure => simp [intOf]; omega
    · have hk1 : k < 128 := by omega
      go_wp2_with (at_builtin; refine append_byte rfl _ _ 36 rfl w.heap.size 5 i0 Try.underlying36 hi hz0 hz1 hz2 w wr _ l (lo7 k) hown (by rfl) hbel hsz _ ?c1 (by rfl) (by omega) ?_)
      case c1 => rw [lo7_int _ (by omega)]
      intro v1 w1 hown1 hbel1 hsz1
      have hcv := convert_own (P := Try.prog) w1 36 5 9 Try.underlying36 Try.underlying5 Try.underlying9 _ v1 _ hown1
      clear hown hbel hsz
      go_wp2
      go_ret
      refine ⟨?_, hbel1⟩
      rw [← hl.out, vint_last f k hk1]
      rfl

theorem impl_yes (n : Nat) (w : World) (h2 : n ≤ 562949953421311) :
    Calls Try.prog 14 #[.int .i64 n] w fun e w' => e = .returned (.string ⟨(vint 6 n).toArray⟩) ∧ Below w.heap.size w w' := by
  obtain ⟨i0, hi, hz0, hz1, hz2⟩ := info_parts info
  have h1 : 0 ≤ (n : Int) := by omega
  have h3 : (n : Int) ≤ 562949953421311 := by omega
  have hmk := make_bytes (P := Try.prog) w 36 5 i0 Try.underlying36 hi hz0 hz1 hz2 0 7 (by omega) (by omega) (by omega)
  go_enter Try.func14, Try.ntmps14
  go_wp2
  go_loopw [0, 3] (fun m v wr => ∃ (k f : Nat) (l : List UInt8), m = .int .i64 k ∧ k ≤ 562949953421311 ∧ k < 128 ^ (f + 1) ∧ Hid (l ++ vint f k = vint 6 n) ∧ l.length + f ≤ 6 ∧ Owns wr w.heap.size 5 v l ∧ Below w.heap.size w wr ∧ w.heap.size ≤ wr.heap.size) (fun m _ _ => (intOf m).toNat)
  case atStart => exact ⟨n, 6, [], rfl, h2, by omega, hid rfl, by simp, Owns.made w _ _ 7 _ (Nat.le_refl _) (by decide) rfl, (Below.refl _ _).alloc (Nat.le_refl _) _, by simp⟩
  case round =>
    obtain ⟨k, f, l, rfl, hkb, hk, hl, hlf, hown, hbel, hsz⟩ := hrel
    have hkb1 : (k : Int) ≤ 562949953421311 := by omega
    by_cases hlt : 128 ≤ (k : Int)
    · obtain ⟨f, rfl⟩ : ∃ g, f = g + 1 := ⟨f - 1, by
        rcases f with _ | f
        · simp at hk; omega
        · rfl⟩
      have hk1 : ¬ k < 128 := by omega
      have hk2 : k / 128 < 128 ^ (f + 1) := by
        rw [Nat.div_lt_iff_lt_mul (by omega)]; rw [Nat.pow_succ] at hk; exact hk
      go_wp2_with (at_builtin; refine append_byte rfl _ _ 36 rfl w.heap.size 5 i0 Try.underlying36 hi hz0 hz1 hz2 w wr _ l (hi7 k) hown (by rfl) hbel hsz _ ?c1 (by rfl) (by omega) ?_)
      case c1 => rw [hi7_int]; omega
      intro v1 w1 hown1 hbel1 hsz1
      clear hown hbel hsz
      go_wp2
      go_roundw
      case rel => exact ⟨k / 128, f, l ++ [hi7 k], by go_num, by omega, hk2, hid (by rw [← hl.out, vint_more f k hk1]; simp), by simp; omega, hown1, hbel1, hsz1⟩
      case measure => simp [intOf]; omega
    · have hk1 : k < 128 := by omega
      go_wp2_with (at_builtin; refine append_byte rfl _ _ 36 rfl w.heap.size 5 i0 Try.underlying36 hi hz0 hz1 hz2 w wr _ l (lo7 k) hown (by rfl) hbel hsz _ ?c1 (by rfl) (by omega) ?_)
      case c1 => rw [lo7_int _ (by omega)]
      intro v1 w1 hown1 hbel1 hsz1
      have hcv := convert_own (P := Try.prog) w1 36 5 9 Try.underlying36 Try.underlying5 Try.underlying9 _ v1 _ hown1
      clear hown hbel hsz
      go_wp2
      go_ret
      refine ⟨?_, hbel1⟩
      rw [← hl.out, vint_last f k hk1]
      rfl

theorem spec_no (n : Int) (w : World) (h : n < 0 ∨ 562949953421311 < n) :
    Calls Try.prog 13 #[.int .i64 n] w fun e w' => e = .returned (.string ⟨#[]⟩) ∧ w = w' := by
  go_enter Try.func13, Try.ntmps13
  go_wp2_with (go_at_call 21; refine (l1in_no _ _ _ _ (by omega)).mono ?_; rintro e w' ⟨rfl, rfl⟩)
  go_ret
  exact ⟨rfl, rfl⟩

theorem impl_no (n : Int) (w : World) (h : n < 0 ∨ 562949953421311 < n) :
    Calls Try.prog 14 #[.int .i64 n] w fun e w' => e = .returned (.string ⟨#[]⟩) ∧ w = w' := by
  rcases (by omega : n < 0 ∨ (0 ≤ n ∧ 562949953421311 < n)) with h | ⟨h0, h⟩ <;>
  · go_enter Try.func14, Try.ntmps14
    go_wp2
    go_ret
    exact ⟨rfl, rfl⟩

theorem walk (a0 : Int) (w0 : (Lit.int .i64 a0).wf = true) (w : World) :
    Calls Try.prog 5 #[.int .i64 a0] w fun e w' => e = .returned (.bool true) ∧ Below w.heap.size w w' := by
  by_cases hv : 0 ≤ a0 ∧ a0 ≤ 562949953421311
  · obtain ⟨n, rfl⟩ := Int.eq_ofNat_of_zero_le hv.1
    have hn : n ≤ 562949953421311 := by omega
    go_enter Try.func5, Try.ntmps5
    go_wp2_with fail
    refine (spec_yes n _ hn).mono ?_
    rintro e w1 ⟨rfl, hb1⟩
    go_wp2_with fail
    refine (impl_yes n _ hn).mono ?_
    rintro e w2 ⟨rfl, hb2⟩
    go_wp2
    go_ret
    exact ⟨rfl, hb1.trans (hb2.mono hb1.size)⟩
  · have hn : a0 < 0 ∨ 562949953421311 < a0 := by omega
    go_enter Try.func5, Try.ntmps5
    go_wp2_with fail
    refine (spec_no a0 _ hn).mono ?_
    rintro e w1 ⟨rfl, rfl⟩
    go_wp2_with fail
    refine (impl_no a0 _ hn).mono ?_
    rintro e w2 ⟨rfl, rfl⟩
    go_wp2
    go_ret
    exact ⟨rfl, Below.refl _ _⟩

theorem own : ownKnob Try.prog.godebug = none := by kernel_rfl

set_option maxRecDepth 100000 in
theorem lifted (os : Os) (started : os.Started) (H : Type) (enc : TypeId × Value → H) :
    ReturnsInHanded {} Try.checked os 5 .any (Rows.fnExactEncodeVarintSpec.pre6 enc Try.prog Try.f5 Rows.fnExactEncodeVarintRow.domain false) (Rows.fnExactEncodeVarintSpec.post enc Try.prog Try.f5 false true false false) := by
  refine returnsInHanded_of_change (C := Try.checked) own started (by kernel_rfl) Try.func5
    (ChangeSpec.witness6 (enc := enc) (C := Try.checked) false ⟨#[], #[.int .i64 0], []⟩ 8 (by kernel_rfl) (by kernel_rfl) (by kernel_rfl) (by kernel_rfl)) ?_
  intro W base args ds gs before hval0 hW hcnd _
  have hval : ∀ (j : Nat) t v, Try.f5.params[j]? = some t → args[j]? = some v → Value.okWide Try.prog W .any base t v := hval0
  have hW' := hW
  obtain ⟨p, q, hA0, hV, rfl, hfz, hnd⟩ := hW
  have hA : DataW.TrodAll enc Try.prog W 0 (fun _ => true) true Try.f5.params.toList args.toList ds p := hA0
  rw [Try.params5] at hA hval
  obtain ⟨v0, vs0, d0, ds0, p0, q0, hargs, rfl, rfl, h0, r0⟩ := trodAll_cons hA
  obtain ⟨rfl, rfl, rfl⟩ := trodAll_nil r0
  obtain rfl : args = #[v0] := by cases args; simp_all
  obtain ⟨rfl, rfl⟩ := trodVars_none hV
  obtain ⟨a0, rfl, rfl, rfl, w0⟩ := open_int Try.underlying3 (hval 0 3 v0 rfl rfl) h0
  clear hA0 hval0
  simp only [List.append_nil] at hW'
  refine (walk a0 w0 W).mono fun e W' ⟨he, bel⟩ => ?_
  subst he
  exact ⟨_, rfl, _, _, _, [], [], [], hW', trodAll_mk1 (shut_bool Try.underlying4 _), (trodAll_cons_mk (shut_int Try.underlying3 w0) trodAll_mk0), rfl, bel.frame _, fun h => by cases h⟩

theorem proved : Rows.FnExactEncodeVarintSaid :=
  OpenClaim.holds_of_wide 5 Try.f5 rfl rfl rfl rfl rfl rfl rfl ⟨rfl, rfl, rfl, rfl, rfl⟩ rfl rfl rfl rfl rfl (by kernel_rfl) Try.func5 (by kernel_rfl)
    (of_decide_eq_true (by kernel_rfl)) (by unfold Func.isWrapper; first | (rw [if_pos (by decide +kernel)]; kernel_rfl) | (rw [if_neg (by decide +kernel)]; exact ⟨rfl, rfl⟩))
    (fun os started H enc _ => lifted os started H enc)
#print axioms proved

end Go.Proofs.Yteaehhidoiiclaa.EncodeVarint
