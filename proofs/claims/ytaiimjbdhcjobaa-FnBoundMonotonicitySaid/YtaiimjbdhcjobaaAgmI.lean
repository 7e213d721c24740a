/- Bounds by products of powers: the plain question, and both sides' contracts. -/
import Derived.Test.YtaiimjbdhcjobaaPrdS
import Derived.Test.YtaiimjbdhcjobaaBigCmpS
import Derived.Test.YtaiimjbdhcjobaaScS
import Derived.Test.YtaiimjbdhcjobaaIntsA
namespace Go.Proofs.Ytaiimjbdhcjobaa.AgmI
open Go.RowKit
open Go.Proofs.Ytaiimjbdhcjobaa.Num Go.Proofs.Ytaiimjbdhcjobaa.IntRow Go.Proofs.Ytaiimjbdhcjobaa.IntLaw Go.Proofs.Ytaiimjbdhcjobaa.Dig Go.Proofs.Ytaiimjbdhcjobaa.BigValid Go.Proofs.Ytaiimjbdhcjobaa.BigFrom Go.Proofs.Ytaiimjbdhcjobaa.BigCols Go.Proofs.Ytaiimjbdhcjobaa.BigMul Go.Proofs.Ytaiimjbdhcjobaa.BigCmp Go.Proofs.Ytaiimjbdhcjobaa.BigCmpS Go.Proofs.Ytaiimjbdhcjobaa.PrdP Go.Proofs.Ytaiimjbdhcjobaa.PrdI Go.Proofs.Ytaiimjbdhcjobaa.PrdS Go.Proofs.Ytaiimjbdhcjobaa.Rdr Go.Proofs.Ytaiimjbdhcjobaa.Rats Go.Proofs.Ytaiimjbdhcjobaa.ScP Go.Proofs.Ytaiimjbdhcjobaa.ScI Go.Proofs.Ytaiimjbdhcjobaa.ScS Go.Proofs.Ytaiimjbdhcjobaa.IntsA
set_option linter.unusedVariables false

def prN (S E : List Int) : Nat := (prd S E).getD 0
theorem prX_ci (S E : List Int) : prX S E = ci (dg (prN S E)) := by
  unfold prX prN
  cases prd S E with
  | none => rfl
  | some p => rfl
theorem prN_len (S E : List Int) : (dg (prN S E)).length ≤ 60 := by
  have h := prX_len S E
  rw [prX_ci, ci_length] at h
  exact h
theorem impl_prd2 (a1 a2 : Option Addr) (cap1 cap2 B1 B2 : Nat) (S E : List Int) (w : World) (hS : S.length ≤ 1048576) (hE : E.length ≤ 1048576) (hbd : ∀ j (h : j < S.length), S[j] ≤ 9223372036854775807) (h1 : Rd w B1 a1 S) (h2 : Rd w B2 a2 E) (hB1 : B1 ≤ w.heap.size) (hB2 : B2 ≤ w.heap.size) :
    Calls Try.prog 36 #[.slice a1 S.length cap1, .slice a2 E.length cap2] w fun e w' => ∃ a cap, e = .returned (.tuple #[.agg #[.slice a (ci (dg (prN S E))).length cap], .bool (prB S E)]) ∧ Own w' w.heap.size 3 (.slice a (ci (dg (prN S E))).length cap) (ci (dg (prN S E))) ∧ Below w.heap.size w w' := by
  have h := impl_prd a1 a2 cap1 cap2 B1 B2 S E w hS hE hbd h1 h2 hB1 hB2
  unfold Prd at h
  rw [prX_ci] at h
  exact h
theorem spec_prd2 (a1 a2 : Option Addr) (cap1 cap2 B1 B2 : Nat) (S E : List Int) (w : World) (hS : S.length ≤ 1048576) (hE : E.length ≤ 1048576) (hbd : ∀ j (h : j < S.length), S[j] ≤ 9223372036854775807) (h1 : Rd w B1 a1 S) (h2 : Rd w B2 a2 E) (hB1 : B1 ≤ w.heap.size) (hB2 : B2 ≤ w.heap.size) :
    Calls Try.prog 37 #[.slice a1 S.length cap1, .slice a2 E.length cap2] w fun e w' => ∃ a cap, e = .returned (.tuple #[.agg #[.slice a (ci (dg (prN S E))).length cap], .bool (prB S E)]) ∧ Own w' w.heap.size 3 (.slice a (ci (dg (prN S E))).length cap) (ci (dg (prN S E))) ∧ Below w.heap.size w w' := by
  have h := spec_prd a1 a2 cap1 cap2 B1 B2 S E w hS hE hbd h1 h2 hB1 hB2
  unfold Prd at h
  rw [prX_ci] at h
  exact h
theorem impl_cmpN (a1 a2 : Option Addr) (cap1 cap2 p q : Nat) (w : World) (hp : (dg p).length ≤ 60) (hq : (dg q).length ≤ 60) (h1 : Rd w w.heap.size a1 (ci (dg p))) (h2 : Rd w w.heap.size a2 (ci (dg q))) :
    Calls Try.prog 39 #[.agg #[.slice a1 (ci (dg p)).length cap1], .agg #[.slice a2 (ci (dg q)).length cap2]] w fun e w' => e = .returned (.int .i64 (sg (p : Int) (q : Int))) ∧ Below w.heap.size w w' := by
  have H := impl_cmp_yes a1 a2 _ _ cap1 cap2 _ _ (dg p) (dg q) w (norm_dg p) (norm_dg q) (ci_length (dg p)).symm (ci_length (dg q)).symm (by rw [ci_length]; exact hp) (by rw [ci_length]; exact hq) h1 h2 (Nat.le_refl _) (Nat.le_refl _)
  rw [vl_dg, vl_dg] at H
  exact H
theorem spec_cmpN (a1 a2 : Option Addr) (cap1 cap2 p q : Nat) (w : World) (hp : (dg p).length ≤ 60) (hq : (dg q).length ≤ 60) (h1 : Rd w w.heap.size a1 (ci (dg p))) (h2 : Rd w w.heap.size a2 (ci (dg q))) :
    Calls Try.prog 97 #[.agg #[.slice a1 (ci (dg p)).length cap1], .agg #[.slice a2 (ci (dg q)).length cap2]] w fun e w' => e = .returned (.int .i64 (sg (p : Int) (q : Int))) ∧ Below w.heap.size w w' := by
  have H := spec_cmp_yes a1 a2 _ _ cap1 cap2 _ _ (dg p) (dg q) w (norm_dg p) (norm_dg q) (ci_length (dg p)).symm (ci_length (dg q)).symm (by rw [ci_length]; exact hp) (by rw [ci_length]; exact hq) h1 h2 (Nat.le_refl _) (Nat.le_refl _)
  rw [vl_dg, vl_dg] at H
  exact H
theorem outD_nn (x : List RatD) : 0 ≤ outD x := by
  cases h : sc x x.length with
  | none => rw [(out_no h).2]; exact Int.le_refl _
  | some d => rw [(out_yes h).2]; have := sc_in x.length (Nat.le_refl _) h; omega
/-- Whether rows is within the bound of a cover. -/
def within (S : List Int) (x : List RatD) (n : Int) : Bool := decide (outD x ≠ 0) && (pk n (outD x) && (prB S (outZ x) && decide (sg (pv n (outD x) : Int) (prN S (outZ x) : Int) ≤ 0)))

set_option maxRecDepth 100000 in
theorem impl_within (a0 a1 : Option Addr) (cap0 cap1 : Nat) (S : List Int) (x : List RatD) (n : Int) (w : World) (hS : S.length ≤ 1048576) (hx : x.length ≤ 1048576) (hbd : ∀ j (h : j < S.length), S[j] ≤ 9223372036854775807) (hn : n ≤ 9223372036854775807) (h0 : Rd w w.heap.size a0 S) (h1 : Els 2 rRat w 0 w.heap.size a1 x) :
    Calls Try.prog 31 #[.slice a0 S.length cap0, .slice a1 x.length cap1, .int .i64 n] w fun e w' => e = .returned (.bool (within S x n)) ∧ Below w.heap.size w w' := by
  have hzl : (outZ x).length ≤ 1048576 := Nat.le_trans (outZ_len x) hx
  have hd0 := outD_nn x
  have C := hid fun W => impl_scale a1 cap1 x 0 w.heap.size W hx
  have R0 := hid h0
  have R1 := hid h1
  clear h0 h1
  go_enter Try.func31, Try.ntmps31
  go_wp2_with fail
  refine (C.out _ R1.out (Nat.le_refl _)).mono ?_
  rintro e w1 ⟨aE, capE, rfl, Z, hb⟩
  clear C R1
  have B := hid hb
  replace R0 := hid (R0.out.below hb)
  have hs1 := hb.size
  replace Z := hid Z
  clear hb
  go_wp2_with fail
  refine (impl_pow n (outD x) _ hn).mono ?_
  rintro e w2 ⟨aP, capP, rfl, hX, hb⟩
  have P := hid hX
  replace Z := hid (Z.out.below' hb)
  replace R0 := hid (R0.out.below (hb.mono B.out.size))
  replace B := hid (B.out.trans (hb.mono B.out.size))
  clear hX hb
  go_wp2_with fail
  have OP := hid (one_new w2 (.slice aP (ci (dg (pv n (outD x)))).length capP) 53)
  replace Z := hid (Z.out.alloc (.cells #[(.slice aP (ci (dg (pv n (outD x)))).length capP)] 53))
  replace P := hid (P.out.alloc (.cells #[(.slice aP (ci (dg (pv n (outD x)))).length capP)] 53))
  replace R0 := hid (R0.out.alloc B.out.size (.cells #[(.slice aP (ci (dg (pv n (outD x)))).length capP)] 53))
  replace B := hid (B.out.alloc B.out.size (.cells #[(.slice aP (ci (dg (pv n (outD x)))).length capP)] 53))
  refine (impl_prd2 a0 aE cap0 capE _ _ S (outZ x) _ hS hzl hbd R0.out (own_rd Z.out) B.out.size (Nat.le_refl _)).mono ?_
  rintro e w3 ⟨aQ, capQ, rfl, hX, hb⟩
  have Q := hid hX
  replace Z := hid (Z.out.below' hb)
  replace P := hid (P.out.below' hb)
  replace OP := hid (OP.out.below' hb)
  replace R0 := hid (R0.out.below (hb.mono B.out.size))
  replace B := hid (B.out.trans (hb.mono B.out.size))
  clear hX hb
  by_cases hd : outD x = 0
  · have ht : (outD x != 0) = false := by simp [hd]
    have ht2 : ¬ (0 : Int) < outD x := by omega
    have hw : within S x n = false := by unfold within; rw [hd]; rfl
    clear hd
    obtain ⟨c1, _, z1⟩ := OP.out
    have BE := hid (B.out.alloc B.out.size (.cells #[(.slice aQ (ci (dg (prN S (outZ x)))).length capQ)] 53))
    go_wp2_with fail
    go_ret
    exact ⟨by first | rfl | (rw [hw]; rfl), BE.out⟩
  have ht : (outD x != 0) = true := by simp [hd]
  have ht2 : (0 : Int) < outD x := by omega
  have hdd : decide (outD x ≠ 0) = true := decide_eq_true hd
  cases hk : pk n (outD x) with
  | false =>
    have hw : within S x n = false := by unfold within; rw [hk, Bool.false_and, Bool.and_false]
    obtain ⟨c1, _, z1⟩ := OP.out
    have BE := hid (B.out.alloc B.out.size (.cells #[(.slice aQ (ci (dg (prN S (outZ x)))).length capQ)] 53))
    go_wp2_with fail
    go_ret
    exact ⟨by first | rfl | (rw [hw]; rfl), BE.out⟩
  | true =>
  cases hp : prB S (outZ x) with
  | false =>
    have hw : within S x n = false := by unfold within; rw [hp, Bool.false_and, Bool.and_false, Bool.and_false]
    obtain ⟨c1, _, z1⟩ := OP.out
    have BE := hid (B.out.alloc B.out.size (.cells #[(.slice aQ (ci (dg (prN S (outZ x)))).length capQ)] 53))
    go_wp2_with fail
    go_ret
    exact ⟨by first | rfl | (rw [hw]; rfl), BE.out⟩
  | true =>
    have hw : within S x n = decide (sg (pv n (outD x) : Int) (prN S (outZ x) : Int) ≤ 0) := by unfold within; rw [hdd, hk, hp, Bool.true_and, Bool.true_and, Bool.true_and]
    obtain ⟨c1, _, z1⟩ := OP.out
    clear hk hp
    go_wp2_with fail
    refine (impl_cmpN _ _ _ _ (pv n (outD x)) (prN S (outZ x)) _ (pv_len _ _) (prN_len _ _) (own_rd (P.out.alloc (.cells #[(.slice aQ (ci (dg (prN S (outZ x)))).length capQ)] 53))) (own_rd (Q.out.alloc (.cells #[(.slice aQ (ci (dg (prN S (outZ x)))).length capQ)] 53)))).mono ?_
    rintro e w4 ⟨rfl, hb⟩
    have BE0 := B.out.alloc B.out.size (.cells #[(.slice aQ (ci (dg (prN S (outZ x)))).length capQ)] 53)
    have BE := hid (BE0.trans (hb.mono BE0.size))
    clear hb BE0
    go_wp2_with fail
    go_ret
    exact ⟨by first | rfl | (rw [hw]; rfl), BE.out⟩

set_option maxRecDepth 100000 in
theorem spec_within (a0 a1 : Option Addr) (cap0 cap1 : Nat) (S : List Int) (x : List RatD) (n : Int) (w : World) (hS : S.length ≤ 1048576) (hx : x.length ≤ 1048576) (hbd : ∀ j (h : j < S.length), S[j] ≤ 9223372036854775807) (hn : n ≤ 9223372036854775807) (h0 : Rd w w.heap.size a0 S) (h1 : Els 2 rRat w 0 w.heap.size a1 x) :
    Calls Try.prog 38 #[.slice a0 S.length cap0, .slice a1 x.length cap1, .int .i64 n] w fun e w' => e = .returned (.bool (within S x n)) ∧ Below w.heap.size w w' := by
  have hzl : (outZ x).length ≤ 1048576 := Nat.le_trans (outZ_len x) hx
  have hd0 := outD_nn x
  have C := hid fun W => spec_scale a1 cap1 x 0 w.heap.size W hx
  have R0 := hid h0
  have R1 := hid h1
  clear h0 h1
  go_enter Try.func38, Try.ntmps38
  go_wp2_with fail
  refine (C.out _ R1.out (Nat.le_refl _)).mono ?_
  rintro e w1 ⟨aE, capE, rfl, Z, hb⟩
  clear C R1
  have B := hid hb
  replace R0 := hid (R0.out.below hb)
  have hs1 := hb.size
  replace Z := hid Z
  clear hb
  go_wp2_with fail
  refine (spec_prd2 a0 aE cap0 capE _ _ S (outZ x) _ hS hzl hbd R0.out (own_rd Z.out) B.out.size (Nat.le_refl _)).mono ?_
  rintro e w2 ⟨aQ, capQ, rfl, hX, hb⟩
  have Q := hid hX
  replace Z := hid (Z.out.below' hb)
  replace R0 := hid (R0.out.below (hb.mono B.out.size))
  replace B := hid (B.out.trans (hb.mono B.out.size))
  clear hX hb
  go_wp2_with fail
  have OQ := hid (one_new w2 (.slice aQ (ci (dg (prN S (outZ x)))).length capQ) 53)
  replace Z := hid (Z.out.alloc (.cells #[(.slice aQ (ci (dg (prN S (outZ x)))).length capQ)] 53))
  replace Q := hid (Q.out.alloc (.cells #[(.slice aQ (ci (dg (prN S (outZ x)))).length capQ)] 53))
  replace R0 := hid (R0.out.alloc B.out.size (.cells #[(.slice aQ (ci (dg (prN S (outZ x)))).length capQ)] 53))
  replace B := hid (B.out.alloc B.out.size (.cells #[(.slice aQ (ci (dg (prN S (outZ x)))).length capQ)] 53))
  refine (spec_pow n (outD x) _ hn).mono ?_
  rintro e w3 ⟨aP, capP, rfl, hX, hb⟩
  have P := hid hX
  replace Z := hid (Z.out.below' hb)
  replace Q := hid (Q.out.below' hb)
  replace OQ := hid (OQ.out.below' hb)
  replace R0 := hid (R0.out.below (hb.mono B.out.size))
  replace B := hid (B.out.trans (hb.mono B.out.size))
  clear hX hb
  by_cases hd : outD x = 0
  · have ht : (outD x != 0) = false := by simp [hd]
    have ht2 : ¬ (0 : Int) < outD x := by omega
    have hw : within S x n = false := by unfold within; rw [hd]; rfl
    clear hd
    obtain ⟨c1, _, z1⟩ := OQ.out
    have BE := hid (B.out.alloc B.out.size (.cells #[(.slice aP (ci (dg (pv n (outD x)))).length capP)] 53))
    go_wp2_with fail
    go_ret
    exact ⟨by first | rfl | (rw [hw]; rfl), BE.out⟩
  have ht : (outD x != 0) = true := by simp [hd]
  have ht2 : (0 : Int) < outD x := by omega
  have hdd : decide (outD x ≠ 0) = true := decide_eq_true hd
  cases hp : prB S (outZ x) with
  | false =>
    have hw : within S x n = false := by unfold within; rw [hp, Bool.false_and, Bool.and_false, Bool.and_false]
    obtain ⟨c1, _, z1⟩ := OQ.out
    have BE := hid (B.out.alloc B.out.size (.cells #[(.slice aP (ci (dg (pv n (outD x)))).length capP)] 53))
    go_wp2_with fail
    go_ret
    exact ⟨by first | rfl | (rw [hw]; rfl), BE.out⟩
  | true =>
  cases hk : pk n (outD x) with
  | false =>
    have hw : within S x n = false := by unfold within; rw [hk, Bool.false_and, Bool.and_false]
    obtain ⟨c1, _, z1⟩ := OQ.out
    have BE := hid (B.out.alloc B.out.size (.cells #[(.slice aP (ci (dg (pv n (outD x)))).length capP)] 53))
    go_wp2_with fail
    go_ret
    exact ⟨by first | rfl | (rw [hw]; rfl), BE.out⟩
  | true =>
    have hw : within S x n = decide (sg (pv n (outD x) : Int) (prN S (outZ x) : Int) ≤ 0) := by unfold within; rw [hdd, hk, hp, Bool.true_and, Bool.true_and, Bool.true_and]
    obtain ⟨c1, _, z1⟩ := OQ.out
    clear hk hp
    go_wp2_with fail
    refine (spec_cmpN _ _ _ _ (pv n (outD x)) (prN S (outZ x)) _ (pv_len _ _) (prN_len _ _) (own_rd (P.out.alloc (.cells #[(.slice aP (ci (dg (pv n (outD x)))).length capP)] 53))) (own_rd (Q.out.alloc (.cells #[(.slice aP (ci (dg (pv n (outD x)))).length capP)] 53)))).mono ?_
    rintro e w4 ⟨rfl, hb⟩
    have BE0 := B.out.alloc B.out.size (.cells #[(.slice aP (ci (dg (pv n (outD x)))).length capP)] 53)
    have BE := hid (BE0.trans (hb.mono BE0.size))
    clear hb BE0
    go_wp2_with fail
    go_ret
    exact ⟨by first | rfl | (rw [hw]; rfl), BE.out⟩

end Go.Proofs.Ytaiimjbdhcjobaa.AgmI
