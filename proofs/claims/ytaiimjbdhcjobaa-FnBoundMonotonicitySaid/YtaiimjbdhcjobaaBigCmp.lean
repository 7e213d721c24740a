/- The comparison of big integers: plain lemmas, and the contracts of both functions. -/
import Derived.Test.YtaiimjbdhcjobaaBigMul
import Derived.Test.YtaiimjbdhcjobaaBigMulS
namespace Go.Proofs.Ytaiimjbdhcjobaa.BigCmp
open Go.RowKit
open Go.Proofs.Ytaiimjbdhcjobaa.Num Go.Proofs.Ytaiimjbdhcjobaa.IntRow Go.Proofs.Ytaiimjbdhcjobaa.IntLaw Go.Proofs.Ytaiimjbdhcjobaa.Dig Go.Proofs.Ytaiimjbdhcjobaa.BigValid Go.Proofs.Ytaiimjbdhcjobaa.BigMul Go.Proofs.Ytaiimjbdhcjobaa.BigMulS
set_option linter.unusedVariables false

def sg (a b : Int) : Int := if a < b then -1 else if b < a then 1 else 0
theorem sg_lt {a b : Int} (h : a < b) : sg a b = -1 := by simp [sg, h]
theorem sg_gt {a b : Int} (h : b < a) : sg a b = 1 := by simp [sg, h]; omega
theorem sg_eq {a b : Int} (h : a = b) : sg a b = 0 := by subst h; simp [sg]

theorem nan_no (x : Int) (w : World) : Calls Try.prog 135 #[.int .i64 x] w fun e w' => e = .returned (.bool false) ∧ w = w' := by
  go_enter Try.func135, Try.ntmps135
  go_wp2
  go_ret
  exact ⟨by simp, rfl⟩
theorem cmp_is (a b s : Int) (w : World) (h : sg a b = s) : Calls Try.prog 84 #[.int .i64 a, .int .i64 b] w fun e w' => e = .returned (.int .i64 s) ∧ w = w' := by
  subst h
  rcases (by omega : a < b ∨ b < a ∨ (a ≤ b ∧ b ≤ a)) with h | h | ⟨h, h2⟩
  · have HS := hid (sg_lt h)
    go_enter Try.func84, Try.ntmps84
    go_wp2_with (go_at_call 135; (with_reducible refine (nan_no _ _).mono ?_); rintro e w1 ⟨rfl, rfl⟩)
    go_ret
    exact ⟨by rw [HS.out]; rfl, rfl⟩
  · have HS := hid (sg_gt h)
    go_enter Try.func84, Try.ntmps84
    go_wp2_with (go_at_call 135; (with_reducible refine (nan_no _ _).mono ?_); rintro e w1 ⟨rfl, rfl⟩)
    go_ret
    exact ⟨by rw [HS.out]; rfl, rfl⟩
  · have HS := hid (sg_eq (show a = b by omega))
    go_enter Try.func84, Try.ntmps84
    go_wp2_with (go_at_call 135; (with_reducible refine (nan_no _ _).mono ?_); rintro e w1 ⟨rfl, rfl⟩)
    go_ret
    exact ⟨by rw [HS.out]; rfl, rfl⟩
theorem cmp_is' (a b s : Int) (w : World) (h : sg a b = s) : Calls Try.prog 84 #[.int .i64 a, .int .i64 b] w fun e w' => e = .returned (.int .i64 s) ∧ w' = w :=
  (cmp_is a b s w h).mono fun _ _ ⟨h1, h2⟩ => ⟨h1, h2.symm⟩

theorem vl_split (l : List Nat) (k : Nat) (h : k < l.length) : vl l = vl (l.take k) + 10 ^ k * (l[k] + 10 * vl (l.drop (k + 1))) := by
  conv => lhs; rw [← List.take_append_drop k l]
  rw [vl_append, List.length_take, Nat.min_eq_left (by omega), List.drop_eq_getElem_cons h, vl]
theorem vl_lt_of {xs ys : List Nat} {k : Nat} (hx : Small xs) (h1 : k < xs.length) (h2 : k < ys.length) (hd : xs.drop (k + 1) = ys.drop (k + 1)) (h : xs[k] < ys[k]) : vl xs < vl ys := by
  rw [vl_split xs k h1, vl_split ys k h2, hd]
  have a := vl_lt (xs.take k) (fun d hd => hx d (List.mem_of_mem_take hd))
  rw [List.length_take, Nat.min_eq_left (by omega)] at a
  have b : 10 ^ k * (xs[k] + 10 * vl (ys.drop (k + 1)) + 1) ≤ 10 ^ k * (ys[k] + 10 * vl (ys.drop (k + 1))) := Nat.mul_le_mul_left _ (by omega)
  rw [Nat.mul_add, Nat.mul_one] at b
  omega
theorem vl_len_lt {xs ys : List Nat} (hx : Small xs) (hy : Norm ys) (h : xs.length < ys.length) : vl xs < vl ys := by
  have a := vl_lt xs hx
  have hne : ys ≠ [] := by rintro rfl; simp at h
  have e := hy.2 hne
  rw [List.getLast_eq_getElem] at e
  have b := vl_split ys (ys.length - 1) (by omega)
  have c : 10 ^ xs.length ≤ 10 ^ (ys.length - 1) := Nat.pow_le_pow_right (by omega) (by omega)
  have d : 10 ^ (ys.length - 1) * 1 ≤ 10 ^ (ys.length - 1) * (ys[ys.length - 1]'(by omega) + 10 * vl (ys.drop (ys.length - 1 + 1))) := Nat.mul_le_mul_left _ (by omega)
  omega
theorem drop_back {xs ys : List Nat} {k : Nat} (h1 : k < xs.length) (h2 : k < ys.length) (hd : xs.drop (k + 1) = ys.drop (k + 1)) (h : xs[k] = ys[k]) : xs.drop k = ys.drop k := by
  rw [List.drop_eq_getElem_cons h1, List.drop_eq_getElem_cons h2, hd, h]

theorem impl_cmp_no (a1 a2 : Option Addr) (cap1 cap2 B1 B2 : Nat) (xs ys : List Int) (w : World) (hn1 : xs.length ≤ 1048576) (hn2 : ys.length ≤ 1048576) (h1 : Rd w B1 a1 xs) (h2 : Rd w B2 a2 ys) (hB1 : B1 ≤ w.heap.size) (hB2 : B2 ≤ w.heap.size) (hv : (vb xs && vb ys) = false) :
    Calls Try.prog 39 #[.agg #[.slice a1 xs.length cap1], .agg #[.slice a2 ys.length cap2]] w fun e w' => e = .returned (.int .i64 0) ∧ Below w.heap.size w w' := by
  have KB := hid (((Below.refl w.heap.size w).alloc (Nat.le_refl _) (.cells #[.slice a1 xs.length cap1] 53)).alloc (by simp) (.cells #[.slice a2 ys.length cap2] 53))
  have V := hid fun W (h1 : Rd W B1 a1 xs) (h2 : Rd W B2 a2 ys) (hB1 : B1 ≤ W.heap.size) (hB2 : B2 ≤ W.heap.size) => are_valid a1 a2 cap1 cap2 B1 B2 xs ys W hn1 hn2 h1 h2 hB1 hB2
  rw [hv] at V
  clear hv
  go_enter Try.func39, Try.ntmps39
  go_wp2_with fail
  refine (V.out _ ((h1.alloc hB1 _).alloc (by simp; omega) _) ((h2.alloc hB2 _).alloc (by simp; omega) _) (by simp; omega) (by simp; omega)).mono ?_
  rintro e w1 ⟨rfl, hb⟩
  go_wp2
  go_ret
  exact ⟨rfl, KB.out.trans (hb.mono (by simp; omega))⟩

set_option maxRecDepth 100000 in
theorem impl_cmp_yes (a1 a2 : Option Addr) (n1 n2 cap1 cap2 B1 B2 : Nat) (xs ys : List Nat) (w : World) (hx : Norm xs) (hy : Norm ys) (hn1 : xs.length = n1) (hn2 : ys.length = n2) (hl1 : n1 ≤ 60) (hl2 : n2 ≤ 60) (h1 : Rd w B1 a1 (ci xs)) (h2 : Rd w B2 a2 (ci ys)) (hB1 : B1 ≤ w.heap.size) (hB2 : B2 ≤ w.heap.size) :
    Calls Try.prog 39 #[.agg #[.slice a1 n1 cap1], .agg #[.slice a2 n2 cap2]] w fun e w' => e = .returned (.int .i64 (sg (vl xs) (vl ys))) ∧ Below w.heap.size w w' := by
  have V := hid fun W (h1 : Rd W B1 a1 (ci xs)) (h2 : Rd W B2 a2 (ci ys)) (hB1 : B1 ≤ W.heap.size) (hB2 : B2 ≤ W.heap.size) => are_valid_yes a1 a2 n1 n2 cap1 cap2 B1 B2 xs ys W hx hy hn1 hn2 hl1 hl2 h1 h2 hB1 hB2
  have N1 := hid hn1
  have N2 := hid hn2
  have HX := hid hx
  have HY := hid hy
  clear hx hy hn1 hn2
  have KB := hid (((Below.refl w.heap.size w).alloc (Nat.le_refl _) (.cells #[.slice a1 n1 cap1] 53)).alloc (by simp) (.cells #[.slice a2 n2 cap2] 53))
  have K1 := hid ((one_new w (.slice a1 n1 cap1) 53).alloc (.cells #[.slice a2 n2 cap2] 53))
  have K2 := hid (one_new (w.alloc (.cells #[.slice a1 n1 cap1] 53)) (.slice a2 n2 cap2) 53)
  simp only [World.size_alloc] at K2
  go_enter Try.func39, Try.ntmps39
  go_wp2_with fail
  refine (V.out _ ((h1.alloc hB1 _).alloc (by simp; omega) _) ((h2.alloc hB2 _).alloc (by simp; omega) _) (by simp; omega) (by simp; omega)).mono ?_
  rintro e w1 ⟨rfl, hb⟩
  have hz : w.heap.size + 2 ≤ w1.heap.size := by have := hb.size; simp at this; omega
  have o1 := hid (K1.out.below' hb)
  have o2 := hid (K2.out.below' hb)
  have b1 := hid (KB.out.trans (hb.mono (by simp; omega)))
  have r1 := hid (h1.below (b1.out.mono hB1))
  have r2 := hid (h2.below (b1.out.mono hB2))
  obtain ⟨c1, _, z1⟩ := o1.out
  obtain ⟨c2, _, z2⟩ := o2.out
  clear h1 h2 hb K1 K2 KB V
  go_wp2_with fail
  rcases (by omega : n1 < n2 ∨ n2 < n1 ∨ n1 = n2) with hc | hc | hc
  · have HR := hid (sg_lt (show ((vl xs : Nat) : Int) < ((vl ys : Nat) : Int) by have := vl_len_lt HX.out.1 HY.out (by rw [N1.out, N2.out]; exact hc); omega))
    refine (cmp_is _ _ (-1) _ (sg_lt (by omega))).mono ?_
    rintro e w2 ⟨rfl, rfl⟩
    go_wp2
    go_ret
    exact ⟨by rw [HR.out]; rfl, b1.out⟩
  · have HR := hid (sg_gt (show ((vl ys : Nat) : Int) < ((vl xs : Nat) : Int) by have := vl_len_lt HY.out.1 HX.out (by rw [N1.out, N2.out]; exact hc); omega))
    refine (cmp_is _ _ 1 _ (sg_gt (by omega))).mono ?_
    rintro e w2 ⟨rfl, rfl⟩
    go_wp2
    go_ret
    exact ⟨by rw [HR.out]; rfl, b1.out⟩
  · subst hc
    refine (cmp_is _ _ 0 _ (sg_eq rfl)).mono ?_
    rintro e w2 ⟨rfl, rfl⟩
    go_wp2
    clear c1 c2
    go_loopw [6] (fun iv wr => ∃ k : Nat, iv = .int .i64 ((k : Int) - 1) ∧ k ≤ n1 ∧ Hid (xs.drop k = ys.drop k) ∧ Below w1.heap.size w1 wr) (fun iv _ => (intOf iv + 1).toNat)
    case atStart => exact ⟨n1, rfl, Nat.le_refl _, hid (by rw [List.drop_of_length_le (by rw [N1.out]; omega), List.drop_of_length_le (by rw [N2.out]; omega)]), Below.refl _ _⟩
    case round =>
      obtain ⟨k, rfl, hk, hd, hbr⟩ := hrel
      by_cases hk0 : 0 < k
      · obtain ⟨k, rfl⟩ : ∃ j, k = j + 1 := ⟨k - 1, by omega⟩
        have hx1 : k < xs.length := by rw [N1.out]; omega
        have hy1 : k < ys.length := by rw [N2.out]; omega
        obtain ⟨c1, _, z1⟩ := o1.out.below' hbr
        obtain ⟨c2, _, z2⟩ := o2.out.below' hbr
        obtain ⟨b, off, rfl, hbB, hcell⟩ := (r1.out.below (hbr.mono (by omega))) (by rw [ci_length]; omega)
        have g1 := hcell k (by rw [ci_length]; exact hx1)
        rw [ci_at] at g1
        obtain ⟨b2, off2, rfl, hbB2, hcell2⟩ := (r2.out.below (hbr.mono (by omega))) (by rw [ci_length]; omega)
        have g2 := hcell2 k (by rw [ci_length]; exact hy1)
        rw [ci_at] at g2
        obtain ⟨x, hxe⟩ : ∃ x : Nat, Hid (xs[k] = x) := ⟨_, hid rfl⟩
        obtain ⟨y, hye⟩ : ∃ y : Nat, Hid (ys[k] = y) := ⟨_, hid rfl⟩
        rw [hxe.out] at g1
        rw [hye.out] at g2
        rw [show ((k + 1 : Nat) : Int) - 1 = (k : Int) by omega]
        have t1 : (0 : Int) ≤ (k : Int) := by omega
        have t2 : (k : Int) < (n1 : Int) := by omega
        have t3 : (k : Int) ≤ 60 := by omega
        clear hcell hcell2
        rcases (by omega : (x : Int) < (y : Int) ∨ (y : Int) < (x : Int) ∨ x = y) with hc | hc | hc
        · have HR := hid (sg_lt (show ((vl xs : Nat) : Int) < ((vl ys : Nat) : Int) by have := vl_lt_of HX.out.1 hx1 hy1 hd.out (by rw [hxe.out, hye.out]; omega); omega))
          have HC := hid (sg_lt hc)
          clear hc
          go_wp2
          go_quiet ((go_at_call 84; exact Calls.quiet_of_same (cmp_is' _ _ (-1) _ HC.out)))
          go_wp2
          go_ret
          have hbw := b1.out.trans (hbr.mono (show w.heap.size ≤ w1.heap.size by omega))
          exact ⟨by rw [HR.out]; rfl, ⟨hbw.os, hbw.tape, hbw.output, hbw.size, hbw.block⟩⟩
        · have HR := hid (sg_gt (show ((vl ys : Nat) : Int) < ((vl xs : Nat) : Int) by have := vl_lt_of HY.out.1 hy1 hx1 hd.out.symm (by rw [hxe.out, hye.out]; omega); omega))
          have HC := hid (sg_gt hc)
          clear hc
          go_wp2
          go_quiet ((go_at_call 84; exact Calls.quiet_of_same (cmp_is' _ _ 1 _ HC.out)))
          go_wp2
          go_ret
          have hbw := b1.out.trans (hbr.mono (show w.heap.size ≤ w1.heap.size by omega))
          exact ⟨by rw [HR.out]; rfl, ⟨hbw.os, hbw.tape, hbw.output, hbw.size, hbw.block⟩⟩
        · subst hc
          have hd2 := hid (drop_back hx1 hy1 hd.out (by rw [hxe.out, hye.out]))
          have HC := hid (sg_eq (show (x : Int) = (x : Int) from rfl))
          go_wp2
          go_quiet ((go_at_call 84; exact Calls.quiet_of_same (cmp_is' _ _ 0 _ HC.out)))
          go_wp2
          go_roundw
          case rel => exact ⟨k, by go_num, by omega, hd2, by exact ⟨hbr.os, hbr.tape, hbr.output, hbr.size, hbr.block⟩⟩
          case measure => simp [intOf]
      · have e : k = 0 := by omega
        subst e
        have HR := hid (sg_eq (show ((vl xs : Nat) : Int) = ((vl ys : Nat) : Int) by have h := hd.out; simp only [List.drop_zero] at h; rw [h]))
        go_wp2
        go_ret
        exact ⟨by rw [HR.out]; rfl, b1.out.trans (hbr.mono (by omega))⟩
end Go.Proofs.Ytaiimjbdhcjobaa.BigCmp
