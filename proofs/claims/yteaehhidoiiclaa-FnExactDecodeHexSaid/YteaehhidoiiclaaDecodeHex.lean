/-
  The hexadecimal decoder (impl.DecodeHex) answers as its model at every string: law FnExactDecodeHex is true. No condition.
-/
import Derived.Test.YteaehhidoiiclaaRows
import Derived.Test.YteaehhidoiiclaaNum
import Derived.Test.YteaehhidoiiclaaRow
import Derived.Test.YteaehhidoiiclaaUnhex
import Derived.Test.YteaehhidoiiclaaEncodeHex
import Derived.WalkKit
import Derived.ProofKit
import Derived.OpenShut
import Derived.ShutString
import Derived.IntWalk
import Derived.BigQuiet
import Derived.Deep.QuietTactic
namespace Go.Proofs.Yteaehhidoiiclaa.DecodeHex
open Go.ChangeShapes Go.WideShapes Go.ChangeAt Go.RowKit
open Go.ChangeMaps (open_string shut_string)
open Go.Proofs.Yteaehhidoiiclaa.Num Go.Proofs.Yteaehhidoiiclaa.Row Go.Proofs.Yteaehhidoiiclaa.Unhex
set_option linter.unusedVariables false

theorem info : (Try.prog.info? 5).map (fun i => (i.zero, i.size, i.bytes)) = some (some (.int .u8 0), 1, 1) := by kernel_rfl

theorem from_yes (c : UInt8) (d : Nat) (w : World) (h : unhex c = some d) :
    Calls Try.prog 24 #[.int .u8 (c.toNat : Nat)] w fun e w' => e = .returned (.int .i64 d) ∧ w = w' := by
  have hd := (unhex_some h).1
  have H := hid h
  clear h
  go_enter Try.func24, Try.ntmps24
  go_wp2
  go_loop [3] (fun i => ∃ k : Nat, k ≤ d ∧ i = .int .i64 k) (fun i => 16 - (intOf i).toNat)
  case atStart => exact ⟨0, Nat.zero_le _, rfl⟩
  case round =>
    obtain ⟨k, hk, rfl⟩ := hrel
    by_cases hlt : k < d
    · have he := hx_ne (c := c) (k := k) (by omega) (by rw [H.out]; intro e; cases e; omega)
      go_wp2_with (go_at_call 23; refine (EncodeHex.digit k _ (by omega)).mono ?_; rintro e w' ⟨rfl, rfl⟩)
      go_round
      case rel => exact ⟨k + 1, by omega, by go_num⟩
      case measure => simp [intOf]; omega
    · obtain rfl : k = d := by omega
      have he := hx_eq H.out
      go_wp2_with (go_at_call 23; refine (EncodeHex.digit k _ (by omega)).mono ?_; rintro e w' ⟨rfl, rfl⟩)
      go_ret
      exact ⟨rfl, rfl⟩

theorem from_no (c : UInt8) (w : World) (h : unhex c = none) :
    Calls Try.prog 24 #[.int .u8 (c.toNat : Nat)] w fun e w' => e = .returned (.int .i64 (-1)) ∧ w = w' := by
  have H := hid h
  clear h
  go_enter Try.func24, Try.ntmps24
  go_wp2
  go_loop [3] (fun i => ∃ k : Nat, k ≤ 16 ∧ i = .int .i64 k) (fun i => 16 - (intOf i).toNat)
  case atStart => exact ⟨0, Nat.zero_le _, rfl⟩
  case round =>
    obtain ⟨k, hk, rfl⟩ := hrel
    by_cases hlt : k < 16
    · have he := hx_ne (c := c) (k := k) (by omega) (by rw [H.out]; intro e; cases e)
      go_wp2_with (go_at_call 23; refine (EncodeHex.digit k _ (by omega)).mono ?_; rintro e w' ⟨rfl, rfl⟩)
      go_round
      case rel => exact ⟨k + 1, by omega, by go_num⟩
      case measure => simp [intOf]; omega
    · go_wp2_with fail
      go_ret
      exact ⟨rfl, rfl⟩

theorem value_yes (c : UInt8) (d : Nat) (w : World) (h : unhex c = some d) :
    Calls Try.prog 25 #[.int .u8 (c.toNat : Nat)] w fun e w' => e = .returned (.tuple #[.int .u8 d, .bool true]) ∧ w = w' := by
  obtain ⟨h0, h1⟩ := unhex_some h
  generalize hn : c.toNat = n at h1
  clear h hn
  rcases h1 with ⟨rfl, h1⟩ | ⟨rfl, h1⟩
  · go_enter Try.func25, Try.ntmps25
    go_wp2
    go_ret2
    exact ⟨rfl, rfl⟩
  · go_enter Try.func25, Try.ntmps25
    go_wp2
    go_ret2
    refine ⟨?_, rfl⟩
    rw [show (d : Int) + 87 - 97 + 10 = (d : Int) by omega]
    rfl

theorem value_no (c : UInt8) (w : World) (h : unhex c = none) :
    Calls Try.prog 25 #[.int .u8 (c.toNat : Nat)] w fun e w' => e = .returned (.tuple #[.int .u8 0, .bool false]) ∧ w = w' := by
  obtain ⟨h0, h1⟩ := unhex_none h
  generalize hn : c.toNat = n at h0 h1
  clear h hn
  rcases h0 with h0 | h0
  · go_enter Try.func25, Try.ntmps25
    go_wp2
    go_ret2
    exact ⟨rfl, rfl⟩
  · rcases h1 with h1 | h1
    · go_enter Try.func25, Try.ntmps25
      go_wp2
      go_ret2
      exact ⟨rfl, rfl⟩
    · go_enter Try.func25, Try.ntmps25
      go_wp2
      go_ret2
      exact ⟨rfl, rfl⟩

set_option maxRecDepth 100000 in
theorem spec_even (s : ByteArray) (n : Nat) (w : World) (hs : s.size ≤ 1048576) (hn : s.size = 2 * n) :
    Calls Try.prog 19 #[.string s] w fun e w' => e = hexEnd (decH s.data.toList) ∧ Below w.heap.size w w' := by
  obtain ⟨i0, hi, hz0, hz1, hz2⟩ := info_parts info
  have HN := hid hn
  have hev : ((s.size : Int) % 2 == 1) = false := by simp only [beq_eq_false_iff_ne]; omega
  clear hn
  go_enter Try.func19, Try.ntmps19
  go_wp2
  go_loopw [4, 5] (fun v i wr => ∃ (k : Nat) (acc : List UInt8), 2 * k ≤ s.size ∧ i = .int .i64 (2 * k : Nat) ∧ Hid (SWay s (2 * k) acc) ∧ acc.length ≤ k ∧ Owns wr w.heap.size 5 v acc ∧ Below w.heap.size w wr ∧ w.heap.size ≤ wr.heap.size) (fun _ i _ => s.size - (intOf i).toNat)
  case atStart => exact ⟨0, [], Nat.zero_le _, rfl, hid (SWay.start s), Nat.zero_le _, Owns.made w _ #[] 0 _ (Nat.le_refl _) (by decide) rfl, (Below.refl _ _).alloc (Nat.le_refl _) _, by simp⟩
  case round =>
    obtain ⟨k, acc, hk, rfl, hway, hacc, hown, hbel, hsz⟩ := hrel
    by_cases hlt : 2 * k < s.size
    · have hk1 : 2 * k + 1 < s.size := by have := HN.out; omega
      rcases hx : unhex s[2 * k] with _ | x
      · rcases hy : unhex s[2 * k + 1] with _ | y
        · have HB := hid (hway.out.bad hk1 (Or.inl hx))
          go_wp2_with fail
          refine (from_no s[2 * k] _ hx).mono ?_
          rintro e w1 ⟨rfl, rfl⟩
          go_wp2_with fail
          refine (from_no s[2 * k + 1] _ hy).mono ?_
          rintro e w1 ⟨rfl, rfl⟩
          go_wp2
          go_ret2
          exact ⟨by rw [HB.out]; rfl, hbel⟩
        · have HB := hid (hway.out.bad hk1 (Or.inl hx))
          go_wp2_with fail
          refine (from_no s[2 * k] _ hx).mono ?_
          rintro e w1 ⟨rfl, rfl⟩
          go_wp2_with fail
          refine (from_yes s[2 * k + 1] y _ hy).mono ?_
          rintro e w1 ⟨rfl, rfl⟩
          go_wp2
          go_ret2
          exact ⟨by rw [HB.out]; rfl, hbel⟩
      · rcases hy : unhex s[2 * k + 1] with _ | y
        · have HB := hid (hway.out.bad hk1 (Or.inr hy))
          go_wp2_with fail
          refine (from_yes s[2 * k] x _ hx).mono ?_
          rintro e w1 ⟨rfl, rfl⟩
          go_wp2_with fail
          refine (from_no s[2 * k + 1] _ hy).mono ?_
          rintro e w1 ⟨rfl, rfl⟩
          go_wp2
          go_ret2
          exact ⟨by rw [HB.out]; rfl, hbel⟩
        · have hx1 := (unhex_some hx).1
          have hy1 := (unhex_some hy).1
          have HG := hid (hway.out.good hk1 hx hy)
          have HX := hid hx
          have HY := hid hy
          clear hx hy
          go_wp2_with fail
          refine (from_yes s[2 * k] x _ HX.out).mono ?_
          rintro e w1 ⟨rfl, rfl⟩
          go_wp2_with fail
          refine (from_yes s[2 * k + 1] y _ HY.out).mono ?_
          rintro e w1 ⟨rfl, rfl⟩
          go_wp2_with (at_builtin; refine append_byte rfl _ _ 36 rfl w.heap.size 5 i0 Try.underlying36 hi hz0 hz1 hz2 w wr _ acc (pair x y) hown (by rfl) hbel hsz _ ?c1 (by rfl) (by omega) ?_)
          case c1 => rw [pair_int x y hx1 hy1]
          intro v1 w1 hown1 hbel1 hsz1
          clear hown hbel hsz
          go_wp2
          go_roundw
          case rel => exact ⟨k + 1, acc ++ [pair x y], by omega, by go_num, HG, by simp; omega, hown1, hbel1, hsz1⟩
          case measure => simp [intOf]; omega
    · have HD := hid (hway.out.done (by omega))
      have hcv := convert_own (P := Try.prog) wr 36 5 9 Try.underlying36 Try.underlying5 Try.underlying9 _ u4 _ hown
      go_wp2
      go_ret2
      exact ⟨by rw [HD.out]; rfl, hbel⟩

set_option maxRecDepth 100000 in
theorem impl_even (s : ByteArray) (n : Nat) (w : World) (hs : s.size ≤ 1048576) (hn : s.size = 2 * n) :
    Calls Try.prog 20 #[.string s] w fun e w' => e = hexEnd (decH s.data.toList) ∧ Below w.heap.size w w' := by
  obtain ⟨i0, hi, hz0, hz1, hz2⟩ := info_parts info
  have HN := hid hn
  have hev : ((s.size : Int) % 2 != 0) = false := by simp only [bne_eq_false_iff_eq]; omega
  have hmk := make_bytes (P := Try.prog) w 36 5 i0 Try.underlying36 hi hz0 hz1 hz2 0 ((s.size : Int) / 2) (by omega) (by omega) (by omega)
  clear hn
  go_enter Try.func20, Try.ntmps20
  go_wp2
  go_loopw [4, 5] (fun v i wr => ∃ (k : Nat) (acc : List UInt8), 2 * k ≤ s.size ∧ i = .int .i64 (2 * k : Nat) ∧ Hid (SWay s (2 * k) acc) ∧ acc.length ≤ k ∧ Owns wr w.heap.size 5 v acc ∧ Below w.heap.size w wr ∧ w.heap.size ≤ wr.heap.size) (fun _ i _ => s.size - (intOf i).toNat)
  case atStart => exact ⟨0, [], Nat.zero_le _, rfl, hid (SWay.start s), Nat.zero_le _, Owns.made w _ _ _ _ (Nat.le_refl _) (by unfold maxLen; omega) (by simp), (Below.refl _ _).alloc (Nat.le_refl _) _, by simp⟩
  case round =>
    obtain ⟨k, acc, hk, rfl, hway, hacc, hown, hbel, hsz⟩ := hrel
    by_cases hlt : 2 * k < s.size
    · have hk1 : 2 * k + 1 < s.size := by have := HN.out; omega
      rcases hx : unhex s[2 * k] with _ | x
      · rcases hy : unhex s[2 * k + 1] with _ | y
        · have HB := hid (hway.out.bad hk1 (Or.inl hx))
          go_wp2_with fail
          refine (value_no s[2 * k] _ hx).mono ?_
          rintro e w1 ⟨rfl, rfl⟩
          go_wp2_with fail
          refine (value_no s[2 * k + 1] _ hy).mono ?_
          rintro e w1 ⟨rfl, rfl⟩
          go_wp2
          go_ret2
          exact ⟨by rw [HB.out]; rfl, hbel⟩
        · have HB := hid (hway.out.bad hk1 (Or.inl hx))
          go_wp2_with fail
          refine (value_no s[2 * k] _ hx).mono ?_
          rintro e w1 ⟨rfl, rfl⟩
          go_wp2_with fail
          refine (value_yes s[2 * k + 1] y _ hy).mono ?_
          rintro e w1 ⟨rfl, rfl⟩
          go_wp2
          go_ret2
          exact ⟨by rw [HB.out]; rfl, hbel⟩
      · rcases hy : unhex s[2 * k + 1] with _ | y
        · have HB := hid (hway.out.bad hk1 (Or.inr hy))
          go_wp2_with fail
          refine (value_yes s[2 * k] x _ hx).mono ?_
          rintro e w1 ⟨rfl, rfl⟩
          go_wp2_with fail
          refine (value_no s[2 * k + 1] _ hy).mono ?_
          rintro e w1 ⟨rfl, rfl⟩
          go_wp2
          go_ret2
          exact ⟨by rw [HB.out]; rfl, hbel⟩
        · have hx1 := (unhex_some hx).1
          have hy1 := (unhex_some hy).1
          have HG := hid (hway.out.good hk1 hx hy)
          have HX := hid hx
          have HY := hid hy
          clear hx hy
          go_wp2_with fail
          refine (value_yes s[2 * k] x _ HX.out).mono ?_
          rintro e w1 ⟨rfl, rfl⟩
          go_wp2_with fail
          refine (value_yes s[2 * k + 1] y _ HY.out).mono ?_
          rintro e w1 ⟨rfl, rfl⟩
          go_wp2_with (at_builtin; refine append_byte rfl _ _ 36 rfl w.heap.size 5 i0 Try.underlying36 hi hz0 hz1 hz2 w wr _ acc (pair x y) hown (by rfl) hbel hsz _ ?c1 (by rfl) (by omega) ?_)
          case c1 => rw [pair_int x y hx1 hy1]
          intro v1 w1 hown1 hbel1 hsz1
          clear hown hbel hsz
          go_wp2
          go_roundw
          case rel => exact ⟨k + 1, acc ++ [pair x y], by omega, by go_num, HG, by simp; omega, hown1, hbel1, hsz1⟩
          case measure => simp [intOf]; omega
    · have HD := hid (hway.out.done (by omega))
      have hcv := convert_own (P := Try.prog) wr 36 5 9 Try.underlying36 Try.underlying5 Try.underlying9 _ u4 _ hown
      go_wp2
      go_ret2
      exact ⟨by rw [HD.out]; rfl, hbel⟩

theorem spec_odd (s : ByteArray) (w : World) (hs : s.size ≤ 1048576) (hn : s.size % 2 = 1) :
    Calls Try.prog 19 #[.string s] w fun e w' => e = hexEnd (decH s.data.toList) ∧ Below w.heap.size w w' := by
  have hev : ((s.size : Int) % 2 == 1) = true := by simp only [beq_iff_eq]; omega
  have HD := hid (decH_odd s.size s.data.toList (by simp) hn)
  clear hn
  go_enter Try.func19, Try.ntmps19
  go_wp2
  go_ret2
  exact ⟨by rw [HD.out]; rfl, by first | exact Below.refl _ _ | exact (Below.refl _ _).alloc (Nat.le_refl _) _⟩

theorem impl_odd (s : ByteArray) (w : World) (hs : s.size ≤ 1048576) (hn : s.size % 2 = 1) :
    Calls Try.prog 20 #[.string s] w fun e w' => e = hexEnd (decH s.data.toList) ∧ Below w.heap.size w w' := by
  have hev : ((s.size : Int) % 2 != 0) = true := by simp only [bne_iff_ne]; omega
  have HD := hid (decH_odd s.size s.data.toList (by simp) hn)
  clear hn
  go_enter Try.func20, Try.ntmps20
  go_wp2
  go_ret2
  exact ⟨by rw [HD.out]; rfl, by first | exact Below.refl _ _ | exact (Below.refl _ _).alloc (Nat.le_refl _) _⟩

theorem spec_any (s : ByteArray) (w : World) (hs : s.size ≤ 1048576) :
    Calls Try.prog 19 #[.string s] w fun e w' => e = hexEnd (decH s.data.toList) ∧ Below w.heap.size w w' := by
  by_cases h : s.size % 2 = 1
  · exact spec_odd s w hs h
  · exact spec_even s (s.size / 2) w hs (by omega)

theorem impl_any (s : ByteArray) (w : World) (hs : s.size ≤ 1048576) :
    Calls Try.prog 20 #[.string s] w fun e w' => e = hexEnd (decH s.data.toList) ∧ Below w.heap.size w w' := by
  by_cases h : s.size % 2 = 1
  · exact impl_odd s w hs h
  · exact impl_even s (s.size / 2) w hs (by omega)

theorem walk (a0 : ByteArray) (w0 : a0.size ≤ maxLen) (w : World) :
    Calls Try.prog 8 #[.string a0] w fun e w' => e = .returned (.bool true) ∧ Below w.heap.size w w' := by
  have hm : a0.size ≤ 9223372036854775807 := by unfold maxLen at w0; omega
  by_cases hbig : 1048576 < a0.size
  · go_enter Try.func8, Try.ntmps8
    go_wp2
    go_ret
    exact ⟨rfl, Below.refl _ _⟩
  · have hs : a0.size ≤ 1048576 := by omega
    generalize hd : decH a0.data.toList = o
    have HD := hid hd
    clear hd
    cases o
    all_goals
      go_enter Try.func8, Try.ntmps8
      go_wp2_with fail
      refine (spec_any a0 _ hs).mono ?_
      rintro e w1 ⟨rfl, hb1⟩
      rw [HD.out]
      unfold hexEnd
      go_wp2_with fail
      refine (impl_any a0 _ hs).mono ?_
      rintro e w2 ⟨rfl, hb2⟩
      rw [HD.out]
      unfold hexEnd
      go_wp2
      go_ret
      exact ⟨rfl, hb1.trans (hb2.mono hb1.size)⟩

theorem own : ownKnob Try.prog.godebug = none := by kernel_rfl

set_option maxRecDepth 100000 in
theorem lifted (os : Os) (started : os.Started) (H : Type) (enc : TypeId × Value → H) :
    ReturnsInHanded {} Try.checked os 8 .any (Rows.fnExactDecodeHexSpec.pre6 enc Try.prog Try.f8 Rows.fnExactDecodeHexRow.domain false) (Rows.fnExactDecodeHexSpec.post enc Try.prog Try.f8 false true false false) := by
  refine returnsInHanded_of_change (C := Try.checked) own started (by kernel_rfl) Try.func8
    (ChangeSpec.witness6 (enc := enc) (C := Try.checked) false ⟨#[], #[.string ByteArray.empty], []⟩ 8 (by kernel_rfl) (by kernel_rfl) (by kernel_rfl) (by kernel_rfl)) ?_
  intro W base args ds gs before hval0 hW hcnd _
  have hval : ∀ (j : Nat) t v, Try.f8.params[j]? = some t → args[j]? = some v → Value.okWide Try.prog W .any base t v := hval0
  have hW' := hW
  obtain ⟨p, q, hA0, hV, rfl, hfz, hnd⟩ := hW
  have hA : DataW.TrodAll enc Try.prog W 0 (fun _ => true) true Try.f8.params.toList args.toList ds p := hA0
  rw [Try.params8] at hA hval
  obtain ⟨v0, vs0, d0, ds0, p0, q0, hargs, rfl, rfl, h0, r0⟩ := trodAll_cons hA
  obtain ⟨rfl, rfl, rfl⟩ := trodAll_nil r0
  obtain rfl : args = #[v0] := by cases args; simp_all
  obtain ⟨rfl, rfl⟩ := trodVars_none hV
  obtain ⟨a0, rfl, rfl, rfl, w0⟩ := open_string Try.underlying9 (hval 0 9 v0 rfl rfl) h0
  clear hA0 hval0
  simp only [List.append_nil] at hW'
  refine (walk a0 w0 W).mono fun e W' ⟨he, bel⟩ => ?_
  subst he
  exact ⟨_, rfl, _, _, _, [], [], [], hW', trodAll_mk1 (shut_bool Try.underlying4 _), (trodAll_cons_mk (shut_string Try.underlying9 w0) trodAll_mk0), rfl, bel.frame _, fun h => by cases h⟩

theorem proved : Rows.FnExactDecodeHexSaid :=
  OpenClaim.holds_of_wide 8 Try.f8 rfl rfl rfl rfl rfl rfl rfl ⟨rfl, rfl, rfl, rfl, rfl⟩ rfl rfl rfl rfl rfl (by kernel_rfl) Try.func8 (by kernel_rfl)
    (of_decide_eq_true (by kernel_rfl)) (by unfold Func.isWrapper; first | (rw [if_pos (by decide +kernel)]; kernel_rfl) | (rw [if_neg (by decide +kernel)]; exact ⟨rfl, rfl⟩))
    (fun os started H enc _ => lifted os started H enc)
#print axioms proved

end Go.Proofs.Yteaehhidoiiclaa.DecodeHex
