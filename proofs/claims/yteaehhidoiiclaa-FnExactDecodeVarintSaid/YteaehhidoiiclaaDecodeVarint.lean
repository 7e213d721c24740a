/-
  The decoder of varints (impl.DecodeVarint) answers as its model at every string: law FnExactDecodeVarint is true. No condition.
-/
import Derived.Test.YteaehhidoiiclaaRows
import Derived.Test.YteaehhidoiiclaaNum
import Derived.Test.YteaehhidoiiclaaVar
import Derived.Test.YteaehhidoiiclaaEncodeVarint
import Derived.WalkKit
import Derived.ProofKit
import Derived.OpenShut
import Derived.ShutString
import Derived.IntWalk
import Derived.BigQuiet
import Derived.Deep.QuietTactic
import Derived.Deep.RegionWith
namespace Go.Proofs.Yteaehhidoiiclaa.DecodeVarint
open Go.ChangeShapes Go.WideShapes Go.ChangeAt Go.RowKit
open Go.ChangeMaps (open_string shut_string)
open Go.Proofs.Yteaehhidoiiclaa.Num Go.Proofs.Yteaehhidoiiclaa.Row Go.Proofs.Yteaehhidoiiclaa.Var
set_option linter.unusedVariables false

/-- How a decoder ends: with the answer; nothing else has turned below block number B. -/
def Post (s : ByteArray) (B : Nat) (w : World) (e : Ending) (w' : World) : Prop :=
  ∃ x k : Nat, SAns s x k ∧ e = .returned (.tuple #[.int .i64 x, .int .i64 k]) ∧ Below B w w'

theorem post_of {s : ByteArray} {B x k : Nat} {w w' : World} {a b : Int} (h : SAns s x k) (ha : a = (x : Int)) (hb : b = (k : Int)) (hw : Below B w w') :
    Post s B w (.returned (.tuple #[.int .i64 a, .int .i64 b])) w' := by
  subst ha hb
  exact ⟨x, k, h, rfl, hw⟩

set_option maxRecDepth 100000 in
theorem impl_any (s : ByteArray) (w : World) (hs : s.size ≤ 1048576) :
    Calls Try.prog 16 #[.string s] w fun e w' => Post s w.heap.size w e w' := by
  go_enter Try.func16, Try.ntmps16
  go_wp2
  go_loop [4, 5] (fun n i => ∃ k : Nat, k ≤ 7 ∧ k ≤ s.size ∧ Hid (High s k) ∧ i = .int .i64 k ∧ n = .int .i64 (sval s k : Nat)) (fun _ i => 8 - (intOf i).toNat)
  case atStart => exact ⟨0, Nat.zero_le _, Nat.zero_le _, hid (high_zero s), rfl, by rw [sval_zero]; rfl⟩
  case round =>
    obtain ⟨k, hk7, hks, hh, rfl, rfl⟩ := hrel
    by_cases hlt : k < s.size
    · go_wp2
      · have hc : 128 ≤ ((s[k].toNat : Nat) : Int) := by assumption
        have h7 : (k : Int) < 7 := by assumption
        go_round
        case rel => exact ⟨k + 1, by omega, by omega, hid (high_more s k hlt hh.out hc), by go_num, by rw [sval_or s k hlt (by omega)]⟩
        case measure => simp [intOf]; omega
      · have hc : ((s[k].toNat : Nat) : Int) < 128 := by assumption
        have h7 : (k : Int) < 7 := by assumption
        have hz : ((s[k].toNat : Nat) : Int) % 128 = 0 := by assumption
        have h0 : 0 < k := by assumption
        go_ret2
        exact post_of (sans_zero s k hlt (by omega) hh.out hc hz h0) rfl rfl (Below.refl _ _)
      · have hc : ((s[k].toNat : Nat) : Int) < 128 := by assumption
        have h7 : (k : Int) < 7 := by assumption
        have hz : ((s[k].toNat : Nat) : Int) % 128 = 0 := by assumption
        have h0 : ¬ 0 < k := by assumption
        go_ret2
        refine post_of (sans_some s k hlt (by omega) hh.out hc (by omega)) ?_ (by omega) (Below.refl _ _)
        have := sval_or s k hlt (by omega)
        rw [hz, Int.zero_mul] at this
        exact this
      · have hc : ((s[k].toNat : Nat) : Int) < 128 := by assumption
        have h7 : (k : Int) < 7 := by assumption
        have hz : ¬ ((s[k].toNat : Nat) : Int) % 128 = 0 := by assumption
        go_ret2
        exact post_of (sans_some s k hlt (by omega) hh.out hc (Or.inr hz)) (sval_or s k hlt (by omega)) (by omega) (Below.refl _ _)
      · have h7 : 7 ≤ (k : Int) := by assumption
        go_ret2
        exact post_of (sans_stop s k (by omega) hk7 hh.out) rfl rfl (Below.refl _ _)
    · go_wp2
      go_ret2
      exact post_of (sans_stop s k (by omega) hk7 hh.out) rfl rfl (Below.refl _ _)

set_option maxRecDepth 100000 in
theorem spec_any (s : ByteArray) (w : World) (hs : s.size ≤ 1048576) :
    Calls Try.prog 15 #[.string s] w fun e w' => Post s w.heap.size w e w' := by
  go_enter Try.func15, Try.ntmps15
  go_wp2
  go_loopw [4] (fun i wr => ∃ k : Nat, 1 ≤ k ∧ k ≤ 8 ∧ Hid (NoHit s k) ∧ i = .int .i64 k ∧ Below w.heap.size w wr ∧ w.heap.size ≤ wr.heap.size) (fun i _ => 9 - (intOf i).toNat)
  case atStart => exact ⟨1, Nat.le_refl _, by omega, hid (noHit_one s), rfl, Below.refl _ _, Nat.le_refl _⟩
  case round =>
    obtain ⟨k, hk1, hk8, hno, rfl, hbel, hsz⟩ := hrel
    by_cases h7 : k ≤ 7
    · by_cases hlt : k ≤ s.size
      · obtain ⟨wo, rfl⟩ : ∃ wo : World, wo = wr := ⟨_, rfl⟩
        go_wp2
        go_loop [5, 6] (fun n i => ∃ (m : Nat) (z : Int), m ≤ k ∧ Hid (z = m - 1) ∧ i = .int .i64 z ∧ n = .int .i64 (mval s k m : Nat)) (fun _ i => (intOf i + 1).toNat)
        case atStart => exact ⟨k, _, Nat.le_refl _, hid rfl, rfl, by rw [mval_end]; rfl⟩
        case round =>
          obtain ⟨m, z, hm, hz, rfl, rfl⟩ := hrel
          have hzm := hz.out
          rcases m with _ | m
          · obtain rfl : z = -1 := by omega
            clear hzm
            have hmx := mval_max s k 0 h7
            go_wp2
            go_region_with (go_at_call 13; refine (EncodeVarint.spec_yes _ _ hmx).mono ?_; rintro e w1 ⟨rfl, hb1⟩)
            all_goals go_wp2
            · have ht : (vint 6 (mval s k 0) == (s.extract 0 k).toList) = true := by assumption
              go_ret2
              exact post_of (sans_hit s k hk1 h7 hlt hno.out (hit_of s k ht)) rfl rfl (hbel.drew.trans (hb1.mono hsz))
            · have ht : (vint 6 (mval s k 0) == (s.extract 0 k).toList) = false := by assumption
              go_roundw
              case rel => exact ⟨k + 1, by omega, by omega, hid (noHit_more s k hno.out (hit_not s k ht)), by go_num, hbel.drew.trans (hb1.mono hsz), Nat.le_trans hsz hb1.size⟩
              case measure => simp [intOf]; omega
          · obtain rfl : z = (m : Int) := by omega
            clear hzm hz
            have hms : m < s.size := by omega
            have hbt : s[m].toNat < 256 := s[m].toNat_lt
            have hst := hid (mval_step s k m (by omega) hlt hms)
            have hmx := mval_lt s k (m + 1) h7 (by omega)
            go_wp2
            go_round
            case rel => exact ⟨m, _, by omega, hid rfl, rfl, by rw [hst.out]⟩
            case measure => simp [intOf]
      · go_wp2
        go_ret2
        exact post_of (sans_none s k (by omega) hno.out) rfl rfl hbel
    · go_wp2
      go_ret2
      exact post_of (sans_none s k (by omega) hno.out) rfl rfl hbel

theorem walk (a0 : ByteArray) (w0 : a0.size ≤ maxLen) (w : World) :
    Calls Try.prog 6 #[.string a0] w fun e w' => e = .returned (.bool true) ∧ Below w.heap.size w w' := by
  have hm : a0.size ≤ 9223372036854775807 := by unfold maxLen at w0; omega
  by_cases hbig : 1048576 < a0.size
  · go_enter Try.func6, Try.ntmps6
    go_wp2
    go_ret
    exact ⟨rfl, Below.refl _ _⟩
  · have hs : a0.size ≤ 1048576 := by omega
    go_enter Try.func6, Try.ntmps6
    go_wp2_with fail
    refine (spec_any a0 _ hs).mono ?_
    rintro e w1 ⟨x, k, h1, rfl, hb1⟩
    go_wp2_with fail
    refine (impl_any a0 _ hs).mono ?_
    rintro e w2 ⟨x', k', h2, rfl, hb2⟩
    obtain ⟨rfl, rfl⟩ := Ans.unique h1 h2
    go_wp2
    go_ret
    exact ⟨rfl, hb1.trans (hb2.mono hb1.size)⟩

theorem own : ownKnob Try.prog.godebug = none := by kernel_rfl

set_option maxRecDepth 100000 in
theorem lifted (os : Os) (started : os.Started) (H : Type) (enc : TypeId × Value → H) :
    ReturnsInHanded {} Try.checked os 6 .any (Rows.fnExactDecodeVarintSpec.pre6 enc Try.prog Try.f6 Rows.fnExactDecodeVarintRow.domain false) (Rows.fnExactDecodeVarintSpec.post enc Try.prog Try.f6 false true false false) := by
  refine returnsInHanded_of_change (C := Try.checked) own started (by kernel_rfl) Try.func6
    (ChangeSpec.witness6 (enc := enc) (C := Try.checked) false ⟨#[], #[.string ByteArray.empty], []⟩ 8 (by kernel_rfl) (by kernel_rfl) (by kernel_rfl) (by kernel_rfl)) ?_
  intro W base args ds gs before hval0 hW hcnd _
  have hval : ∀ (j : Nat) t v, Try.f6.params[j]? = some t → args[j]? = some v → Value.okWide Try.prog W .any base t v := hval0
  have hW' := hW
  obtain ⟨p, q, hA0, hV, rfl, hfz, hnd⟩ := hW
  have hA : DataW.TrodAll enc Try.prog W 0 (fun _ => true) true Try.f6.params.toList args.toList ds p := hA0
  rw [Try.params6] at hA hval
  obtain ⟨v0, vs0, d0, ds0, p0, q0, hargs, rfl, rfl, h0, r0⟩ := trodAll_cons hA
  obtain ⟨rfl, rfl, rfl⟩ := trodAll_nil r0
  obtain rfl : args = #[v0] := by cases args; simp_all
  obtain ⟨rfl, rfl⟩ := trodVars_none hV
  obtain ⟨a0, rfl, rfl, rfl, w0⟩ := open_string Try.underlying9 (hval 0 9 v0 rfl rfl) h0
  clear hA0 hval0
  simp only [List.append_nil] at hW'
  refine (walk a0 w0 W).mono fun e W' ⟨he, bel⟩ => ?_
  subst he
  exact ⟨_, rfl, _, _, _, [], [], [], hW', trodAll_mk1 (shut_bool Try.underlying4 _), (trodAll_cons_mk (shut_string Try.underlying9 w0) trodAll_mk0), rfl, bel.frame _, fun h => by cases h⟩

theorem proved : Rows.FnExactDecodeVarintSaid :=
  OpenClaim.holds_of_wide 6 Try.f6 rfl rfl rfl rfl rfl rfl rfl ⟨rfl, rfl, rfl, rfl, rfl⟩ rfl rfl rfl rfl rfl (by kernel_rfl) Try.func6 (by kernel_rfl)
    (of_decide_eq_true (by kernel_rfl)) (by unfold Func.isWrapper; first | (rw [if_pos (by decide +kernel)]; kernel_rfl) | (rw [if_neg (by decide +kernel)]; exact ⟨rfl, rfl⟩))
    (fun os started H enc _ => lifted os started H enc)
#print axioms proved

end Go.Proofs.Yteaehhidoiiclaa.DecodeVarint
