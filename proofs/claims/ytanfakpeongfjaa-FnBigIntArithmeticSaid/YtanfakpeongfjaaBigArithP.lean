/- Plain facts and contracts for law FnBigIntArithmetic. -/
import Derived.Test.YtanfakpeongfjaaBigAdd
import Derived.Test.YtanfakpeongfjaaBigAddS
import Derived.Test.YtanfakpeongfjaaBigMulS
import Derived.Test.YtanfakpeongfjaaBigFmt
import Derived.Test.YtanfakpeongfjaaBigCmp
import Derived.Test.YtanfakpeongfjaaDrawMul
import Derived.Test.YtanfakpeongfjaaBig
import Derived.Test.YtanfakpeongfjaaKept
import Derived.Deep.RegionHeld3
import Derived.Deep.DeepCutAuto
namespace Go.Proofs.Ytanfakpeongfjaa.BigArithP
open Go.RowKit
open Go.Proofs.Ytanfakpeongfjaa.Num Go.Proofs.Ytanfakpeongfjaa.IntRow Go.Proofs.Ytanfakpeongfjaa.IntLaw Go.Proofs.Ytanfakpeongfjaa.Dig Go.Proofs.Ytanfakpeongfjaa.BigValid Go.Proofs.Ytanfakpeongfjaa.BigFrom Go.Proofs.Ytanfakpeongfjaa.BigCols Go.Proofs.Ytanfakpeongfjaa.BigMul Go.Proofs.Ytanfakpeongfjaa.BigMulS Go.Proofs.Ytanfakpeongfjaa.BigAdd Go.Proofs.Ytanfakpeongfjaa.BigAddS Go.Proofs.Ytanfakpeongfjaa.BigFmt Go.Proofs.Ytanfakpeongfjaa.BigCmp Go.Proofs.Ytanfakpeongfjaa.DrawMul Go.Proofs.Ytanfakpeongfjaa.Keep Go.Proofs.Ytanfakpeongfjaa.Kept
set_option linter.unusedVariables false

def rn (R : List Nat) : List Nat := if R.length ≤ 60 then R else []
theorem rx_rn (R : List Nat) : rx R = ci (rn R) := by
  unfold rx rn
  split <;> rfl
theorem rn_norm (v : Nat) : Norm (rn (dg v)) ∧ (rn (dg v)).length ≤ 60 := by
  unfold rn
  split
  · exact ⟨norm_dg v, by assumption⟩
  · exact ⟨⟨fun d hd => (by cases hd), fun h => absurd rfl h⟩, by simp⟩
theorem rn_vl (v : Nat) (h : rb (dg v) = true) : vl (rn (dg v)) = v := by
  have h2 : (dg v).length ≤ 60 := by simpa [rb] using h
  rw [rn, if_pos h2, vl_dg]
theorem sg_ge {a b : Nat} (h : b ≤ a) : 0 ≤ sg (a : Int) (b : Int) := by
  unfold sg
  rw [if_neg (by omega)]
  split <;> omega

theorem cmp_self (P : List Nat) (hP : Norm P) (hl : P.length ≤ 60) (W : World) (a a' : Option Addr) (cap cap' B B' : Nat) (h1 : Rd W B a (ci P)) (h2 : Rd W B' a' (ci P)) (hB : B ≤ W.heap.size) (hB' : B' ≤ W.heap.size) :
    Calls Try.prog 29 #[.agg #[.slice a (ci P).length cap], .agg #[.slice a' (ci P).length cap']] W fun e w' => e = .returned (.int .i64 0) ∧ Below W.heap.size W w' := by
  have H := impl_cmp_yes a a' _ _ cap cap' B B' P P W hP hP (ci_length P).symm (ci_length P).symm (by rw [ci_length]; exact hl) (by rw [ci_length]; exact hl) h1 h2 hB hB'
  rw [sg_eq rfl] at H
  exact H
theorem cmp_dg (a1 a2 : Option Addr) (cap1 cap2 p q : Nat) (s : Int) (w : World) (hp : (dg p).length ≤ 60) (hq : (dg q).length ≤ 60) (hs : sg (p : Int) (q : Int) = s) (h1 : Rd w w.heap.size a1 (ci (dg p))) (h2 : Rd w w.heap.size a2 (ci (dg q))) :
    Calls Try.prog 29 #[.agg #[.slice a1 (ci (dg p)).length cap1], .agg #[.slice a2 (ci (dg q)).length cap2]] w fun e w' => e = .returned (.int .i64 s) ∧ Below w.heap.size w w' := by
  have H := impl_cmp_yes a1 a2 _ _ cap1 cap2 _ _ (dg p) (dg q) w (norm_dg p) (norm_dg q) (ci_length (dg p)).symm (ci_length (dg q)).symm (by rw [ci_length]; exact hp) (by rw [ci_length]; exact hq) h1 h2 (Nat.le_refl _) (Nat.le_refl _)
  rw [vl_dg, vl_dg, hs] at H
  exact H

/-- What the sums and products give at two arguments. -/
theorem setup (xs ys : List Int) (hx : xs.length ≤ 100) (hy : ys.length ≤ 100) : ∃ (P S : List Nat) (ok od : Bool), Norm P ∧ P.length ≤ 60 ∧ Norm S ∧ S.length ≤ 60 ∧
    RowKit.Hid (∀ (W : World) (a a' : Option Addr) (cap cap' : Nat), Rd W W.heap.size a xs → Rd W W.heap.size a' ys → Calls Try.prog 25 #[.agg #[.slice a xs.length cap], .agg #[.slice a' ys.length cap']] W fun e w' => ∃ r cr, e = .returned (.tuple #[.agg #[.slice r (ci P).length cr], .bool ok]) ∧ Own w' W.heap.size 3 (.slice r (ci P).length cr) (ci P) ∧ Below W.heap.size W w') ∧ RowKit.Hid (∀ (W : World) (a a' : Option Addr) (cap cap' : Nat), Rd W W.heap.size a ys → Rd W W.heap.size a' xs → Calls Try.prog 25 #[.agg #[.slice a ys.length cap], .agg #[.slice a' xs.length cap']] W fun e w' => ∃ r cr, e = .returned (.tuple #[.agg #[.slice r (ci P).length cr], .bool ok]) ∧ Own w' W.heap.size 3 (.slice r (ci P).length cr) (ci P) ∧ Below W.heap.size W w') ∧ RowKit.Hid (∀ (W : World) (a a' : Option Addr) (cap cap' : Nat), Rd W W.heap.size a xs → Rd W W.heap.size a' ys → Calls Try.prog 26 #[.agg #[.slice a xs.length cap], .agg #[.slice a' ys.length cap']] W fun e w' => ∃ r cr, e = .returned (.tuple #[.agg #[.slice r (ci S).length cr], .bool od]) ∧ Own w' W.heap.size 3 (.slice r (ci S).length cr) (ci S) ∧ Below W.heap.size W w') ∧ RowKit.Hid (∀ (W : World) (a a' : Option Addr) (cap cap' : Nat), Rd W W.heap.size a xs → Rd W W.heap.size a' ys → Calls Try.prog 27 #[.agg #[.slice a xs.length cap], .agg #[.slice a' ys.length cap']] W fun e w' => ∃ r cr, e = .returned (.tuple #[.agg #[.slice r (ci P).length cr], .bool ok]) ∧ Own w' W.heap.size 3 (.slice r (ci P).length cr) (ci P) ∧ Below W.heap.size W w') ∧ RowKit.Hid (∀ (W : World) (a a' : Option Addr) (cap cap' : Nat), Rd W W.heap.size a xs → Rd W W.heap.size a' ys → Calls Try.prog 28 #[.agg #[.slice a xs.length cap], .agg #[.slice a' ys.length cap']] W fun e w' => ∃ r cr, e = .returned (.tuple #[.agg #[.slice r (ci S).length cr], .bool od]) ∧ Own w' W.heap.size 3 (.slice r (ci S).length cr) (ci S) ∧ Below W.heap.size W w') ∧ (od = false ∨ (od = true ∧ (∃ c : Int, 0 ≤ c ∧ RowKit.Hid (∀ (W : World) (a a' : Option Addr) (cap cap' : Nat), Rd W W.heap.size a (ci S) → Rd W W.heap.size a' xs → Calls Try.prog 29 #[.agg #[.slice a (ci S).length cap], .agg #[.slice a' xs.length cap']] W fun e w' => e = .returned (.int .i64 c) ∧ Below W.heap.size W w')) ∧ RowKit.Hid (∀ (W : World) (a : Option Addr) (cap : Nat), Rd W W.heap.size a xs → Calls Try.prog 35 #[.agg #[.slice a xs.length cap]] W fun e w' => e = .returned (.bool true) ∧ Below W.heap.size W w'))) := by
  cases hv : (vb xs && vb ys) with
  | false =>
    have hv2 : (vb ys && vb xs) = false := by rw [Bool.and_comm]; exact hv
    exact ⟨[], [], false, false, ⟨fun d hd => (by cases hd), fun h => absurd rfl h⟩, by simp, ⟨fun d hd => (by cases hd), fun h => absurd rfl h⟩, by simp, hid (fun W a a' cap cap' h1 h2 => (impl_mul_no a a' cap cap' _ _ xs ys W (by omega) (by omega) h1 h2 (Nat.le_refl _) (Nat.le_refl _) hv).mono fun e w' ⟨he, hb⟩ => ⟨none, 0, he, Own.nil _ _ _, hb⟩), hid (fun W a a' cap cap' h1 h2 => (impl_mul_no a a' cap cap' _ _ ys xs W (by omega) (by omega) h1 h2 (Nat.le_refl _) (Nat.le_refl _) hv2).mono fun e w' ⟨he, hb⟩ => ⟨none, 0, he, Own.nil _ _ _, hb⟩), hid (fun W a a' cap cap' h1 h2 => (impl_add_no a a' cap cap' _ _ xs ys W (by omega) (by omega) h1 h2 (Nat.le_refl _) (Nat.le_refl _) hv).mono fun e w' ⟨he, hb⟩ => ⟨none, 0, he, Own.nil _ _ _, hb⟩), hid (fun W a a' cap cap' h1 h2 => (spec_mul_no a a' cap cap' _ _ xs ys W (by omega) (by omega) h1 h2 (Nat.le_refl _) (Nat.le_refl _) hv).mono fun e w' ⟨he, hb⟩ => ⟨none, 0, he, Own.nil _ _ _, hb⟩), hid (fun W a a' cap cap' h1 h2 => (spec_add_no a a' cap cap' _ _ xs ys W (by omega) (by omega) h1 h2 (Nat.le_refl _) (Nat.le_refl _) hv).mono fun e w' ⟨he, hb⟩ => ⟨none, 0, he, Own.nil _ _ _, hb⟩), .inl rfl⟩
  | true =>
    rw [Bool.and_eq_true] at hv
    obtain ⟨ns, rfl, hN, hnl⟩ := vb_true hv.1
    obtain ⟨ms, rfl, hM, hml⟩ := vb_true hv.2
    obtain ⟨p1, p2⟩ := rn_norm (vl ns * vl ms)
    obtain ⟨s1, s2⟩ := rn_norm (vl ns + vl ms)
    refine ⟨rn (dg (vl ns * vl ms)), rn (dg (vl ns + vl ms)), rb (dg (vl ns * vl ms)), rb (dg (vl ns + vl ms)), p1, p2, s1, s2, hid (fun W a a' cap cap' r1 r2 => by
        have h := impl_mul_yes a a' _ _ cap cap' _ _ ns ms W hN hM (ci_length ns).symm (ci_length ms).symm (by rw [ci_length]; exact hnl) (by rw [ci_length]; exact hml) r1 r2 (Nat.le_refl _) (Nat.le_refl _)
        rw [rx_rn] at h
        exact h), hid (fun W a a' cap cap' r1 r2 => by
        have h := impl_mul_yes a a' _ _ cap cap' _ _ ms ns W hM hN (ci_length ms).symm (ci_length ns).symm (by rw [ci_length]; exact hml) (by rw [ci_length]; exact hnl) r1 r2 (Nat.le_refl _) (Nat.le_refl _)
        rw [Nat.mul_comm (vl ms), rx_rn] at h
        exact h), hid (fun W a a' cap cap' r1 r2 => by
        have h := impl_add_yes a a' _ _ cap cap' _ _ ns ms W hN hM (ci_length ns).symm (ci_length ms).symm (by rw [ci_length]; exact hnl) (by rw [ci_length]; exact hml) r1 r2 (Nat.le_refl _) (Nat.le_refl _)
        rw [rx_rn] at h
        exact h), hid (fun W a a' cap cap' r1 r2 => by
        have h := spec_mul_yes a a' _ _ cap cap' _ _ ns ms W hN hM (ci_length ns).symm (ci_length ms).symm (by rw [ci_length]; exact hnl) (by rw [ci_length]; exact hml) r1 r2 (Nat.le_refl _) (Nat.le_refl _)
        rw [rx_rn] at h
        exact h), hid (fun W a a' cap cap' r1 r2 => by
        have h := spec_add_yes a a' _ _ cap cap' _ _ ns ms W hN hM (ci_length ns).symm (ci_length ms).symm (by rw [ci_length]; exact hnl) (by rw [ci_length]; exact hml) r1 r2 (Nat.le_refl _) (Nat.le_refl _)
        rw [rx_rn] at h
        exact h), ?_⟩
    cases hr : rb (dg (vl ns + vl ms)) with
    | false => exact .inl rfl
    | true =>
      have hvl := rn_vl _ hr
      refine .inr ⟨rfl, ⟨_, sg_ge (show vl ns ≤ vl (rn (dg (vl ns + vl ms))) by rw [hvl]; omega), hid (fun W a a' cap cap' r1 r2 => ?_)⟩, hid (fun W a cap r1 => ?_)⟩
      · exact impl_cmp_yes a a' _ _ cap cap' _ _ _ ns W s1 hN (ci_length _).symm (ci_length _).symm (by rw [ci_length]; exact s2) (by rw [ci_length]; exact hnl) r1 r2 (Nat.le_refl _) (Nat.le_refl _)
      · exact valid_yes a _ cap _ ns W hN (ci_length _).symm (by rw [ci_length]; exact hnl) r1 (Nat.le_refl _)

theorem at_any (i : Nat) (hi : i ≤ 1) (sv : Value) (l : List UInt8) (w : World) (c : Nat) (hl : l.length ≤ 1048576) (hc : Cur.Code w c sv l) :
    Calls Try.prog 32 #[sv, .int .i64 i] w fun e w' => ∃ x : Nat, x ≤ 255 ∧ e = .returned (.int .i64 x) ∧ w = w' := by
  by_cases hlt : i < l.length
  · rcases hc with ⟨rfl, a, cap, rfl⟩ | ⟨b, off, cap, rfl, hb, hcell⟩
    · simp at hlt
    · have g := hcell i hlt
      have hx := (l[i]).toNat_lt
      obtain ⟨x, hxe⟩ : ∃ x : Nat, Hid ((l[i]).toNat = x) := ⟨_, hid rfl⟩
      rw [hxe.out] at g hx
      have t1 : (i : Int) < (l.length : Int) := by omega
      have t2 : (0 : Int) ≤ (i : Int) := by omega
      have t3 : IntKind.i64.wrap (x : Int) = (x : Int) := IntWalk.i64_in _ (by omega)
      clear hcell
      go_enter Try.func32, Try.ntmps32
      go_wp2
      go_ret
      exact ⟨x, by omega, rfl, rfl⟩
  · obtain ⟨a, cap, rfl⟩ : ∃ a cap, sv = .slice a l.length cap := by
      rcases hc with ⟨rfl, a, cap, rfl⟩ | ⟨b, off, cap, rfl, hb, hcell⟩
      · exact ⟨a, cap, rfl⟩
      · exact ⟨_, cap, rfl⟩
    clear hc
    generalize l.length = n at hl hlt
    have t1 : ¬ (i : Int) < (n : Int) := by omega
    have t4 : (n : Int) ≤ 1 := by omega
    have t5 : (i : Int) ≤ 1 := by omega
    obtain ⟨x, hxe⟩ : ∃ x : Nat, Hid (((i : Int) * 37 + (n : Int) * 11) % 256 = (x : Int)) := ⟨(((i : Int) * 37 + (n : Int) * 11) % 256).toNat, hid (by omega)⟩
    have hx9 : x ≤ 255 := by have := hxe.out; omega
    go_enter Try.func32, Try.ntmps32
    go_wp2
    go_ret
    exact ⟨x, hx9, by rw [← hxe.out]; rfl, rfl⟩

theorem sg_neg (a b : Int) : decide (a < b) = decide (sg a b < 0) := by
  unfold sg
  by_cases h : a < b
  · simp [h]
  · rw [if_neg h]
    split <;> simp [h]
theorem mul_small (a1 a2 : Option Addr) (cap1 cap2 m n mn : Nat) (w : World) (hmn : m * n = mn) (hm : (dg m).length ≤ 60) (hn : (dg n).length ≤ 60) (hq : (dg mn).length ≤ 60) (h1 : Rd w w.heap.size a1 (ci (dg m))) (h2 : Rd w w.heap.size a2 (ci (dg n))) :
    Calls Try.prog 25 #[.agg #[.slice a1 (ci (dg m)).length cap1], .agg #[.slice a2 (ci (dg n)).length cap2]] w fun e w' => ∃ a cap', e = .returned (.tuple #[.agg #[.slice a (ci (dg mn)).length cap'], .bool true]) ∧ Own w' w.heap.size 3 (.slice a (ci (dg mn)).length cap') (ci (dg mn)) ∧ Below w.heap.size w w' := by
  have h := impl_mul_yes a1 a2 _ _ cap1 cap2 _ _ (dg m) (dg n) w (norm_dg m) (norm_dg n) (ci_length _).symm (ci_length _).symm (by rw [ci_length]; exact hm) (by rw [ci_length]; exact hn) h1 h2 (Nat.le_refl _) (Nat.le_refl _)
  rw [vl_dg, vl_dg, hmn, rx_yes hq, rb_yes hq] at h
  exact h
theorem add_small (a1 a2 : Option Addr) (cap1 cap2 m n : Nat) (w : World) (hm : (dg m).length ≤ 60) (hn : (dg n).length ≤ 60) (hq : (dg (m + n)).length ≤ 60) (h1 : Rd w w.heap.size a1 (ci (dg m))) (h2 : Rd w w.heap.size a2 (ci (dg n))) :
    Calls Try.prog 26 #[.agg #[.slice a1 (ci (dg m)).length cap1], .agg #[.slice a2 (ci (dg n)).length cap2]] w fun e w' => ∃ a cap', e = .returned (.tuple #[.agg #[.slice a (ci (dg (m + n))).length cap'], .bool true]) ∧ Own w' w.heap.size 3 (.slice a (ci (dg (m + n))).length cap') (ci (dg (m + n))) ∧ Below w.heap.size w w' := by
  have h := impl_add_yes a1 a2 _ _ cap1 cap2 _ _ (dg m) (dg n) w (norm_dg m) (norm_dg n) (ci_length _).symm (ci_length _).symm (by rw [ci_length]; exact hm) (by rw [ci_length]; exact hn) h1 h2 (Nat.le_refl _) (Nat.le_refl _)
  rw [vl_dg, vl_dg, rx_yes hq, rb_yes hq] at h
  exact h

end Go.Proofs.Ytanfakpeongfjaa.BigArithP
