/-
  The hexadecimal encoder (impl.EncodeHex) answers as its model at every string: law FnExactEncodeHex is true. No condition.
-/
import Derived.Test.YteaehhidoiiclaaRows
import Derived.Test.YteaehhidoiiclaaNum
import Derived.Test.YteaehhidoiiclaaRow
import Derived.WalkKit
import Derived.ProofKit
import Derived.OpenShut
import Derived.ShutString
import Derived.IntWalk
import Derived.BigQuiet
import Derived.Deep.QuietTactic
import Derived.Deep.RegionLaw
import Derived.Deep.DeepMust
namespace Go.Proofs.Yteaehhidoiiclaa.EncodeHex
open Go.ChangeShapes Go.WideShapes Go.ChangeAt Go.RowKit
open Go.ChangeMaps (open_string shut_string)
open Go.Proofs.Yteaehhidoiiclaa.Num Go.Proofs.Yteaehhidoiiclaa.Row
set_option linter.unusedVariables false

theorem info : (Try.prog.info? 5).map (fun i => (i.zero, i.size, i.bytes)) = some (some (.int .u8 0), 1, 1) := by kernel_rfl

theorem digit (k : Nat) (w : World) (h1 : k < 16) :
    Calls Try.prog 23 #[.int .i64 k] w fun e w' => e = .returned (.int .u8 ((hx k).toNat : Nat)) ∧ w' = w := by
  have h2 := hid (hx_at k h1)
  go_enter Try.func23, Try.ntmps23
  go_wp2
  go_ret
  refine ⟨?_, rfl⟩
  rw [← h2.out]
  rfl

theorem digit' (k : Int) (w : World) (h0 : 0 ≤ k) (h1 : k < 16) :
    Calls Try.prog 23 #[.int .i64 k] w fun e w' => e = .returned (.int .u8 ((hx k.toNat).toNat : Nat)) ∧ w' = w := by
  obtain ⟨n, rfl⟩ := Int.eq_ofNat_of_zero_le h0
  exact digit n w (by omega)

theorem spec_any (s : ByteArray) (w : World) (hs : s.size ≤ 1048576) :
    Calls Try.prog 17 #[.string s] w fun e w' => e = .returned (.string ⟨(hexL s.data.toList).toArray⟩) ∧ Below w.heap.size w w' := by
  obtain ⟨i0, hi, hz0, hz1, hz2⟩ := info_parts info
  go_enter Try.func17, Try.ntmps17
  go_wp2
  go_loopw [3, 4] (fun v i wr => ∃ k : Nat, k ≤ s.size ∧ i = .int .i64 k ∧ Owns wr w.heap.size 5 v (hexL (s.data.toList.take k)) ∧ Below w.heap.size w wr ∧ w.heap.size ≤ wr.heap.size) (fun _ i _ => s.size - (intOf i).toNat)
  case atStart => exact ⟨0, Nat.zero_le _, rfl, Owns.made w _ #[] 0 _ (Nat.le_refl _) (by decide) rfl, (Below.refl _ _).alloc (Nat.le_refl _) _, by simp⟩
  case round =>
    obtain ⟨k, hk, rfl, hown, hbel, hsz⟩ := hrel
    by_cases hlt : k < s.size
    · obtain ⟨b, hb⟩ : ∃ b : UInt8, Hid (b = s[k]) := ⟨_, hid rfl⟩
      obtain ⟨d1, h1⟩ : ∃ d : Nat, Hid (d = b.toNat / 16) := ⟨_, hid rfl⟩
      obtain ⟨d2, h2⟩ : ∃ d : Nat, Hid (d = b.toNat % 16) := ⟨_, hid rfl⟩
      have hb1 := b.toNat_lt
      have hd1 : d1 < 16 := by have := h1.out; omega
      have hd2 : d2 < 16 := by have := h2.out; omega
      have e1 : IntKind.i64.wrap ((s[k].toNat : Nat) : Int) = ((s[k].toNat : Nat) : Int) := IntWalk.i64_in _ (by have := s[k].toNat_lt; omega)
      have e2 : ((s[k].toNat : Nat) : Int).tdiv 16 = (d1 : Int) := by rw [h1.out, hb.out]; rfl
      have e3 : ((s[k].toNat : Nat) : Int).tmod 16 = (d2 : Int) := by rw [h2.out, hb.out]; rfl
      have e4 : IntKind.i64.wrap (d1 : Int) = (d1 : Int) := IntWalk.i64_in _ (by omega)
      have e5 : IntKind.i64.wrap (d2 : Int) = (d2 : Int) := IntWalk.i64_in _ (by omega)
      go_wp2
      have hown1 : Owns wr.drew w.heap.size 5 u3 (hexL (s.data.toList.take k)) := hown
      have hl : (hexL (s.data.toList.take k)).length ≤ 2097152 := by rw [hexL_length, List.length_take]; omega
      go_region_law (first
        | (refine step_two rfl _ _ 36 rfl w.heap.size 5 i0 Try.underlying36 hi hz0 hz1 hz2 w wr.drew _ _ (hx d1) (hx d2) hown1 (by rfl) hbel.drew hsz _ _ rfl rfl (by rfl) (by omega) ?_; intro v1 w1 hown2 hbel2 hsz2)
        | (go_simp; go_at_call 23; go_must (refine (digit _ _ (by assumption)).mono ?_); rintro e w' ⟨rfl, rfl⟩))
      all_goals
        clear hown hbel hsz hown1
        go_wp2
        go_roundw
        case rel =>
          refine ⟨k + 1, by omega, by go_num, ?_, hbel2, hsz2⟩
          rw [take_snoc s k hlt, hexL_snoc, ← hb.out, ← h1.out, ← h2.out]
          exact hown2
        case measure => simp [intOf]; omega
    · have hcv := convert_own (P := Try.prog) wr 36 5 9 Try.underlying36 Try.underlying5 Try.underlying9 _ u3 _ hown
      go_wp2
      go_ret
      refine ⟨?_, hbel⟩
      rw [List.take_of_length_le (by simp; omega)]
      rfl

theorem impl_any (s : ByteArray) (w : World) (hs : s.size ≤ 1048576) :
    Calls Try.prog 18 #[.string s] w fun e w' => e = .returned (.string ⟨(hexL s.data.toList).toArray⟩) ∧ Below w.heap.size w w' := by
  obtain ⟨i0, hi, hz0, hz1, hz2⟩ := info_parts info
  have hmk := make_bytes (P := Try.prog) w 36 5 i0 Try.underlying36 hi hz0 hz1 hz2 0 (2 * s.size) (by omega) (by omega) (by omega)
  go_enter Try.func18, Try.ntmps18
  go_wp2
  go_loopw [3, 11] (fun v i wr => ∃ k : Nat, k ≤ s.size ∧ i = .int .i64 k ∧ Owns wr w.heap.size 5 v (hexL (s.data.toList.take k)) ∧ Below w.heap.size w wr ∧ w.heap.size ≤ wr.heap.size) (fun _ i _ => s.size - (intOf i).toNat)
  case atStart => exact ⟨0, Nat.zero_le _, rfl, Owns.made w _ _ _ _ (Nat.le_refl _) (by unfold maxLen; omega) (by simp), (Below.refl _ _).alloc (Nat.le_refl _) _, by simp⟩
  case round =>
    obtain ⟨k, hk, rfl, hown, hbel, hsz⟩ := hrel
    by_cases hlt : k < s.size
    · obtain ⟨b, hb⟩ : ∃ b : UInt8, Hid (b = s[k]) := ⟨_, hid rfl⟩
      obtain ⟨d1, h1⟩ : ∃ d : Nat, Hid (d = b.toNat / 16) := ⟨_, hid rfl⟩
      obtain ⟨d2, h2⟩ : ∃ d : Nat, Hid (d = b.toNat % 16) := ⟨_, hid rfl⟩
      have hb1 := b.toNat_lt
      have hd1 : d1 < 16 := by have := h1.out; omega
      have hd2 : d2 < 16 := by have := h2.out; omega
      have hd1i : (d1 : Int) < 16 := by omega
      have hd2i : (d2 : Int) < 16 := by omega
      have e1 : ((s[k].toNat : Nat) : Int) / 16 = (d1 : Int) := by rw [h1.out, hb.out]; rfl
      have e2 : ((s[k].toNat : Nat) : Int).tmod 16 = (d2 : Int) := by rw [h2.out, hb.out]; rfl
      have e3 : IntKind.u8.wrap (d1 : Int) = (d1 : Int) := by rw [IntKind.wrap_u8]; omega
      have e4 : IntKind.u8.wrap (d2 : Int) = (d2 : Int) := by rw [IntKind.wrap_u8]; omega
      have g1 := hx_at d1 hd1
      have g2 := hx_at d2 hd2
      have hown1 : Owns wr.drew w.heap.size 5 u3 (hexL (s.data.toList.take k)) := hown
      have hl : (hexL (s.data.toList.take k)).length ≤ 2097152 := by rw [hexL_length, List.length_take]; omega
      go_wp2
      go_region_law (refine step_two rfl _ _ 36 rfl w.heap.size 5 i0 Try.underlying36 hi hz0 hz1 hz2 w wr.drew _ _ (hx d1) (hx d2) hown1 (by rfl) hbel.drew hsz _ _ rfl rfl (by rfl) (by omega) ?_; intro v1 w1 hown2 hbel2 hsz2)
      all_goals
        clear hown hbel hsz hown1 e1 e2 e3 e4 g1 g2
        go_wp2
        go_roundw
        case rel =>
          refine ⟨k + 1, by omega, by go_num, ?_, hbel2, hsz2⟩
          rw [take_snoc s k hlt, hexL_snoc, ← hb.out, ← h1.out, ← h2.out]
          exact hown2
        case measure => simp [intOf]; omega
    · have hcv := convert_own (P := Try.prog) wr 36 5 9 Try.underlying36 Try.underlying5 Try.underlying9 _ u3 _ hown
      go_wp2
      go_ret
      refine ⟨?_, hbel⟩
      rw [List.take_of_length_le (by simp; omega)]
      rfl

theorem walk (a0 : ByteArray) (w0 : a0.size ≤ maxLen) (w : World) :
    Calls Try.prog 7 #[.string a0] w fun e w' => e = .returned (.bool true) ∧ Below w.heap.size w w' := by
  have hm : a0.size ≤ 9223372036854775807 := by unfold maxLen at w0; omega
  by_cases hbig : 1048576 < a0.size
  · go_enter Try.func7, Try.ntmps7
    go_wp2
    go_ret
    exact ⟨rfl, Below.refl _ _⟩
  · have hs : a0.size ≤ 1048576 := by omega
    go_enter Try.func7, Try.ntmps7
    go_wp2_with fail
    refine (spec_any a0 _ hs).mono ?_
    rintro e w1 ⟨rfl, hb1⟩
    go_wp2_with fail
    refine (impl_any a0 _ hs).mono ?_
    rintro e w2 ⟨rfl, hb2⟩
    go_wp2
    go_ret
    exact ⟨rfl, hb1.trans (hb2.mono hb1.size)⟩

theorem own : ownKnob Try.prog.godebug = none := by kernel_rfl

set_option maxRecDepth 100000 in
theorem lifted (os : Os) (started : os.Started) (H : Type) (enc : TypeId × Value → H) :
    ReturnsInHanded {} Try.checked os 7 .any (Rows.fnExactEncodeHexSpec.pre6 enc Try.prog Try.f7 Rows.fnExactEncodeHexRow.domain false) (Rows.fnExactEncodeHexSpec.post enc Try.prog Try.f7 false true false false) := by
  refine returnsInHanded_of_change (C := Try.checked) own started (by kernel_rfl) Try.func7
    (ChangeSpec.witness6 (enc := enc) (C := Try.checked) false ⟨#[], #[.string ByteArray.empty], []⟩ 8 (by kernel_rfl) (by kernel_rfl) (by kernel_rfl) (by kernel_rfl)) ?_
  intro W base args ds gs before hval0 hW hcnd _
  have hval : ∀ (j : Nat) t v, Try.f7.params[j]? = some t → args[j]? = some v → Value.okWide Try.prog W .any base t v := hval0
  have hW' := hW
  obtain ⟨p, q, hA0, hV, rfl, hfz, hnd⟩ := hW
  have hA : DataW.TrodAll enc Try.prog W 0 (fun _ => true) true Try.f7.params.toList args.toList ds p := hA0
  rw [Try.params7] at hA hval
  obtain ⟨v0, vs0, d0, ds0, p0, q0, hargs, rfl, rfl, h0, r0⟩ := trodAll_cons hA
  obtain ⟨rfl, rfl, rfl⟩ := trodAll_nil r0
  obtain rfl : args = #[v0] := by cases args; simp_all
  obtain ⟨rfl, rfl⟩ := trodVars_none hV
  obtain ⟨a0, rfl, rfl, rfl, w0⟩ := open_string Try.underlying9 (hval 0 9 v0 rfl rfl) h0
  clear hA0 hval0
  simp only [List.append_nil] at hW'
  refine (walk a0 w0 W).mono fun e W' ⟨he, bel⟩ => ?_
  subst he
  exact ⟨_, rfl, _, _, _, [], [], [], hW', trodAll_mk1 (shut_bool Try.underlying4 _), (trodAll_cons_mk (shut_string Try.underlying9 w0) trodAll_mk0), rfl, bel.frame _, fun h => by cases h⟩

theorem proved : Rows.FnExactEncodeHexSaid :=
  OpenClaim.holds_of_wide 7 Try.f7 rfl rfl rfl rfl rfl rfl rfl ⟨rfl, rfl, rfl, rfl, rfl⟩ rfl rfl rfl rfl rfl (by kernel_rfl) Try.func7 (by kernel_rfl)
    (of_decide_eq_true (by kernel_rfl)) (by unfold Func.isWrapper; first | (rw [if_pos (by decide +kernel)]; kernel_rfl) | (rw [if_neg (by decide +kernel)]; exact ⟨rfl, rfl⟩))
    (fun os started H enc _ => lifted os started H enc)
#print axioms proved

end Go.Proofs.Yteaehhidoiiclaa.EncodeHex
