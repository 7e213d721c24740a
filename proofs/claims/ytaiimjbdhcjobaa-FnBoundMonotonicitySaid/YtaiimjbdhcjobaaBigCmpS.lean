/- The contract of spec.CompareBigInts. -/
import Derived.Test.YtaiimjbdhcjobaaBigCmp
import Derived.BigQuiet
import Derived.Deep.QuietTactic
namespace Go.Proofs.Ytaiimjbdhcjobaa.BigCmpS
open Go.RowKit
open Go.Proofs.Ytaiimjbdhcjobaa.Num Go.Proofs.Ytaiimjbdhcjobaa.IntRow Go.Proofs.Ytaiimjbdhcjobaa.IntLaw Go.Proofs.Ytaiimjbdhcjobaa.Dig Go.Proofs.Ytaiimjbdhcjobaa.BigValid Go.Proofs.Ytaiimjbdhcjobaa.BigMul Go.Proofs.Ytaiimjbdhcjobaa.BigMulS Go.Proofs.Ytaiimjbdhcjobaa.BigCmp
set_option linter.unusedVariables false

theorem spec_cmp_no (a1 a2 : Option Addr) (cap1 cap2 B1 B2 : Nat) (xs ys : List Int) (w : World) (hn1 : xs.length ≤ 1048576) (hn2 : ys.length ≤ 1048576) (h1 : Rd w B1 a1 xs) (h2 : Rd w B2 a2 ys) (hB1 : B1 ≤ w.heap.size) (hB2 : B2 ≤ w.heap.size) (hv : (vb xs && vb ys) = false) :
    Calls Try.prog 97 #[.agg #[.slice a1 xs.length cap1], .agg #[.slice a2 ys.length cap2]] w fun e w' => e = .returned (.int .i64 0) ∧ Below w.heap.size w w' := by
  have KB := hid (((Below.refl w.heap.size w).alloc (Nat.le_refl _) (.cells #[.slice a1 xs.length cap1] 53)).alloc (by simp) (.cells #[.slice a2 ys.length cap2] 53))
  have K2 := hid (one_new (w.alloc (.cells #[.slice a1 xs.length cap1] 53)) (.slice a2 ys.length cap2) 53)
  simp only [World.size_alloc] at K2
  have V1 := hid fun W (h : Rd W B1 a1 xs) (hB : B1 ≤ W.heap.size) => spec_valid a1 cap1 B1 xs W hn1 h hB
  have V2 := hid fun W (h : Rd W B2 a2 ys) (hB : B2 ≤ W.heap.size) => spec_valid a2 cap2 B2 ys W hn2 h hB
  generalize vb xs = b1 at *
  generalize vb ys = b2 at *
  have q1 := hid ((h1.alloc hB1 (.cells #[.slice a1 xs.length cap1] 53)).alloc (by simp; omega) (.cells #[.slice a2 ys.length cap2] 53))
  have q2 := hid ((h2.alloc hB2 (.cells #[.slice a1 xs.length cap1] 53)).alloc (by simp; omega) (.cells #[.slice a2 ys.length cap2] 53))
  clear h1 h2
  cases b1 with
  | false =>
    clear hv
    go_enter Try.func97, Try.ntmps97
    go_wp2_with fail
    refine (V1.out _ q1.out (by simp; omega)).mono ?_
    rintro e w1 ⟨rfl, hb⟩
    go_wp2
    go_ret
    exact ⟨rfl, KB.out.trans (hb.mono (by simp; omega))⟩
  | true =>
    have hv2 : b2 = false := by simpa using hv
    subst hv2
    clear hv
    go_enter Try.func97, Try.ntmps97
    go_wp2_with fail
    refine (V1.out _ q1.out (by simp; omega)).mono ?_
    rintro e w1 ⟨rfl, hb⟩
    have hs := hb.size
    simp at hs
    obtain ⟨c2, f2, z2⟩ := K2.out.below' hb
    go_wp2_with fail
    refine (V2.out _ (q2.out.below (hb.mono (by simp; omega))) (by omega)).mono ?_
    rintro e w2 ⟨rfl, hb2⟩
    go_wp2
    go_ret
    exact ⟨rfl, (KB.out.trans (hb.mono (by simp; omega))).trans (hb2.mono (by omega))⟩

set_option maxRecDepth 100000 in
theorem spec_cmp_yes (a1 a2 : Option Addr) (n1 n2 cap1 cap2 B1 B2 : Nat) (xs ys : List Nat) (w : World) (hx : Norm xs) (hy : Norm ys) (hn1 : xs.length = n1) (hn2 : ys.length = n2) (hl1 : n1 ≤ 60) (hl2 : n2 ≤ 60) (h1 : Rd w B1 a1 (ci xs)) (h2 : Rd w B2 a2 (ci ys)) (hB1 : B1 ≤ w.heap.size) (hB2 : B2 ≤ w.heap.size) :
    Calls Try.prog 97 #[.agg #[.slice a1 n1 cap1], .agg #[.slice a2 n2 cap2]] w fun e w' => e = .returned (.int .i64 (sg (vl xs) (vl ys))) ∧ Below w.heap.size w w' := by
  have V1 := hid fun W (h : Rd W B1 a1 (ci xs)) (hB : B1 ≤ W.heap.size) => valid_yes a1 n1 cap1 B1 xs W hx hn1 hl1 h hB
  have V2 := hid fun W (h : Rd W B2 a2 (ci ys)) (hB : B2 ≤ W.heap.size) => valid_yes a2 n2 cap2 B2 ys W hy hn2 hl2 h hB
  have N1 := hid hn1
  have N2 := hid hn2
  have HX := hid hx
  have HY := hid hy
  clear hx hy hn1 hn2
  have KB := hid (((Below.refl w.heap.size w).alloc (Nat.le_refl _) (.cells #[.slice a1 n1 cap1] 53)).alloc (by simp) (.cells #[.slice a2 n2 cap2] 53))
  have K1 := hid ((one_new w (.slice a1 n1 cap1) 53).alloc (.cells #[.slice a2 n2 cap2] 53))
  have K2 := hid (one_new (w.alloc (.cells #[.slice a1 n1 cap1] 53)) (.slice a2 n2 cap2) 53)
  simp only [World.size_alloc] at K2
  go_enter Try.func97, Try.ntmps97
  go_wp2_with fail
  refine (V1.out _ ((h1.alloc hB1 _).alloc (by simp; omega) _) (by simp; omega)).mono ?_
  rintro e w0 ⟨rfl, hb0⟩
  have hs0 := hb0.size
  simp only [World.size_alloc] at hs0
  obtain ⟨c0, _, z0⟩ := K2.out.below' hb0
  go_wp2_with fail
  refine (V2.out _ (((h2.alloc hB2 _).alloc (by simp; omega) _).below (hb0.mono (by simp; omega))) (by omega)).mono ?_
  rintro e w1 ⟨rfl, hb1⟩
  have hb := hb0.trans (hb1.mono hb0.size)
  clear c0 hb0 hb1
  have hz : w.heap.size + 2 ≤ w1.heap.size := by have := hb.size; simp at this; omega
  have o1 := hid (K1.out.below' hb)
  have o2 := hid (K2.out.below' hb)
  have b1 := hid (KB.out.trans (hb.mono (by simp; omega)))
  have r1 := hid (h1.below (b1.out.mono hB1))
  have r2 := hid (h2.below (b1.out.mono hB2))
  obtain ⟨c1, _, z1⟩ := o1.out
  obtain ⟨c2, _, z2⟩ := o2.out
  clear h1 h2 hb K1 K2 KB V1 V2
  rcases (by omega : n1 < n2 ∨ n2 < n1 ∨ n1 = n2) with hc | hc | hc
  · have HR := hid (sg_lt (show ((vl xs : Nat) : Int) < ((vl ys : Nat) : Int) by have := vl_len_lt HX.out.1 HY.out (by rw [N1.out, N2.out]; exact hc); omega))
    have t0 : ((n1 : Int) != (n2 : Int)) = true := by simp only [bne_iff_ne, ne_eq]; omega
    have t1 : (n1 : Int) < (n2 : Int) := by omega
    go_wp2
    go_ret
    exact ⟨by rw [HR.out]; rfl, b1.out⟩
  · have HR := hid (sg_gt (show ((vl ys : Nat) : Int) < ((vl xs : Nat) : Int) by have := vl_len_lt HY.out.1 HX.out (by rw [N1.out, N2.out]; exact hc); omega))
    have t0 : ((n1 : Int) != (n2 : Int)) = true := by simp only [bne_iff_ne, ne_eq]; omega
    have t1 : ¬ (n1 : Int) < (n2 : Int) := by omega
    go_wp2
    go_ret
    exact ⟨by rw [HR.out]; rfl, b1.out⟩
  · subst hc
    have t0 : ((n1 : Int) != (n1 : Int)) = false := by simp
    go_wp2
    clear c1 c2
    go_loopw [5] (fun iv wr => ∃ k : Nat, iv = .int .i64 ((k : Int) - 1) ∧ k ≤ n1 ∧ Hid (xs.drop k = ys.drop k) ∧ Below w1.heap.size w1 wr) (fun iv _ => (intOf iv + 1).toNat)
    case atStart => exact ⟨n1, rfl, Nat.le_refl _, hid (by rw [List.drop_of_length_le (by rw [N1.out]; omega), List.drop_of_length_le (by rw [N2.out]; omega)]), Below.refl _ _⟩
    case round =>
      obtain ⟨k, rfl, hk, hd, hbr⟩ := hrel
      by_cases hk0 : 0 < k
      · obtain ⟨k, rfl⟩ : ∃ j, k = j + 1 := ⟨k - 1, by omega⟩
        have hx1 : k < xs.length := by rw [N1.out]; omega
        have hy1 : k < ys.length := by rw [N2.out]; omega
        obtain ⟨c1, _, z1⟩ := o1.out.below' hbr
        obtain ⟨c2, _, z2⟩ := o2.out.below' hbr
        obtain ⟨b, off, rfl, hbB, hcell⟩ := (r1.out.below (hbr.mono (by omega))) (by rw [ci_length]; omega)
        have g1 := hcell k (by rw [ci_length]; exact hx1)
        rw [ci_at] at g1
        obtain ⟨b2, off2, rfl, hbB2, hcell2⟩ := (r2.out.below (hbr.mono (by omega))) (by rw [ci_length]; omega)
        have g2 := hcell2 k (by rw [ci_length]; exact hy1)
        rw [ci_at] at g2
        obtain ⟨x, hxe⟩ : ∃ x : Nat, Hid (xs[k] = x) := ⟨_, hid rfl⟩
        obtain ⟨y, hye⟩ : ∃ y : Nat, Hid (ys[k] = y) := ⟨_, hid rfl⟩
        rw [hxe.out] at g1
        rw [hye.out] at g2
        rw [show ((k + 1 : Nat) : Int) - 1 = (k : Int) by omega]
        have t1 : (0 : Int) ≤ (k : Int) := by omega
        have t2 : (k : Int) < (n1 : Int) := by omega
        have t3 : (k : Int) ≤ 60 := by omega
        clear hcell hcell2
        rcases (by omega : (x : Int) < (y : Int) ∨ (y : Int) < (x : Int) ∨ x = y) with hc | hc | hc
        · have HR := hid (sg_lt (show ((vl xs : Nat) : Int) < ((vl ys : Nat) : Int) by have := vl_lt_of HX.out.1 hx1 hy1 hd.out (by rw [hxe.out, hye.out]; omega); omega))
          go_wp2
          go_quiet (fail)
          go_wp2
          go_ret
          have hbw := b1.out.trans (hbr.mono (show w.heap.size ≤ w1.heap.size by omega))
          exact ⟨by rw [HR.out]; rfl, ⟨hbw.os, hbw.tape, hbw.output, hbw.size, hbw.block⟩⟩
        · have HR := hid (sg_gt (show ((vl ys : Nat) : Int) < ((vl xs : Nat) : Int) by have := vl_lt_of HY.out.1 hy1 hx1 hd.out.symm (by rw [hxe.out, hye.out]; omega); omega))
          have hc2 : ¬ (x : Int) < (y : Int) := by omega
          go_wp2
          go_quiet (fail)
          go_wp2
          go_quiet (fail)
          go_wp2
          go_ret
          have hbw := b1.out.trans (hbr.mono (show w.heap.size ≤ w1.heap.size by omega))
          exact ⟨by rw [HR.out]; rfl, ⟨hbw.os, hbw.tape, hbw.output, hbw.size, hbw.block⟩⟩
        · subst hc
          have hd2 := hid (drop_back hx1 hy1 hd.out (by rw [hxe.out, hye.out]))
          go_wp2
          go_quiet (fail)
          go_wp2
          go_quiet (fail)
          go_wp2
          go_roundw
          case rel => exact ⟨k, by go_num, by omega, hd2, by exact ⟨hbr.os, hbr.tape, hbr.output, hbr.size, hbr.block⟩⟩
          case measure => simp [intOf]
      · have e : k = 0 := by omega
        subst e
        have HR := hid (sg_eq (show ((vl xs : Nat) : Int) = ((vl ys : Nat) : Int) by have h := hd.out; simp only [List.drop_zero] at h; rw [h]))
        go_wp2
        go_ret
        exact ⟨by rw [HR.out]; rfl, b1.out.trans (hbr.mono (by omega))⟩
end Go.Proofs.Ytaiimjbdhcjobaa.BigCmpS
