/- The walk of law FnBoundMonotonicity, at every argument. -/
import Derived.Test.YtaiimjbdhcjobaaCur
import Derived.WalkKit
import Derived.ProofKit
import Derived.OpenShut
import Derived.Test.YtaiimjbdhcjobaaCompareAGMBoundsW
import Derived.Test.YtaiimjbdhcjobaaDrawAgm
namespace Go.Proofs.Ytaiimjbdhcjobaa.Big
open Go.ChangeShapes Go.WideShapes Go.ChangeAt Go.RowKit
open Go.Proofs.Ytaiimjbdhcjobaa.Num Go.Proofs.Ytaiimjbdhcjobaa.Cur
set_option linter.unusedVariables false

theorem big_yes (a : Option Addr) (n cap : Nat) (w : World) (h : 1048576 < n) (h2 : n ≤ 9223372036854775807) :
    Calls Try.prog 13 #[.slice a n cap] w fun e w' => e = .returned (.bool true) ∧ w = w' := by
  have h1 : (1048576 : Int) < (n : Int) := by omega
  go_enter Try.func13, Try.ntmps13
  go_wp2
  go_ret
  exact ⟨rfl, rfl⟩
theorem big_no (a : Option Addr) (n cap : Nat) (w : World) (h : n ≤ 1048576) :
    Calls Try.prog 13 #[.slice a n cap] w fun e w' => e = .returned (.bool false) ∧ w = w' := by
  have h1 : ¬ (1048576 : Int) < (n : Int) := by omega
  go_enter Try.func13, Try.ntmps13
  go_wp2
  go_ret
  exact ⟨rfl, rfl⟩
theorem big_code (sv : Value) (l : List UInt8) (w : World) (c : Nat) (hc : Cur.Code w c sv l) (hl : l.length ≤ 1048576) :
    Calls Try.prog 13 #[sv] w fun e w' => e = .returned (.bool false) ∧ w = w' := by
  rcases hc with ⟨rfl, a, cap, rfl⟩ | ⟨b, off, cap, rfl, _, _⟩
  · exact big_no _ 0 _ _ (by omega)
  · exact big_no _ _ _ _ hl

end Go.Proofs.Ytaiimjbdhcjobaa.Big

namespace Go.Proofs.Ytaiimjbdhcjobaa.BoundMonotonicityC
open Go.RowKit
open Go.Proofs.Ytaiimjbdhcjobaa.Num Go.Proofs.Ytaiimjbdhcjobaa.IntRow Go.Proofs.Ytaiimjbdhcjobaa.Dig Go.Proofs.Ytaiimjbdhcjobaa.BigValid Go.Proofs.Ytaiimjbdhcjobaa.BigPow Go.Proofs.Ytaiimjbdhcjobaa.BigCmp Go.Proofs.Ytaiimjbdhcjobaa.Cur Go.Proofs.Ytaiimjbdhcjobaa.PrdP Go.Proofs.Ytaiimjbdhcjobaa.PrdI Go.Proofs.Ytaiimjbdhcjobaa.PrdS Go.Proofs.Ytaiimjbdhcjobaa.Rdr Go.Proofs.Ytaiimjbdhcjobaa.Rats Go.Proofs.Ytaiimjbdhcjobaa.ScP Go.Proofs.Ytaiimjbdhcjobaa.AgmI Go.Proofs.Ytaiimjbdhcjobaa.CompareAGMBoundsW Go.Proofs.Ytaiimjbdhcjobaa.DrawAgm
set_option linter.unusedVariables false

theorem dg_mono {a b : Nat} (h : a ≤ b) {k : Nat} (hb : (dg b).length ≤ k) : (dg a).length ≤ k := by
  refine dg_length_le a k ?_
  have h1 := vl_lt (dg b) (small_dg b)
  rw [vl_dg] at h1
  have h2 : 10 ^ (dg b).length ≤ 10 ^ k := Nat.pow_le_pow_right (by omega) hb
  omega
theorem pb_mono {a b k : Nat} (h : a ≤ b) (hb : pb b k = true) : pb a k = true := by
  simp only [pb, List.all_eq_true, decide_eq_true_eq]
  intro j hj
  exact dg_mono (Nat.pow_le_pow_left h j) (pb_at hb (by simp at hj; omega))
theorem sg_le {a b : Int} (h : sg a b ≤ 0) : a ≤ b := by
  unfold sg at h
  split at h
  · omega
  · split at h <;> omega
theorem le_sg {a b : Int} (h : a ≤ b) : sg a b ≤ 0 := by
  unfold sg
  split
  · omega
  · split <;> omega
theorem within_mono {S : List Int} {x : List RatD} {n : Int} (h : within S x n = true) (h1 : 1 ≤ n) : within S x (n - 1) = true := by
  unfold within at h ⊢
  simp only [Bool.and_eq_true, decide_eq_true_eq] at h ⊢
  obtain ⟨hd, hk, hp, hs⟩ := h
  have hk0 := hk
  unfold pk at hk
  rw [Bool.and_eq_true, decide_eq_true_eq] at hk
  obtain ⟨⟨_, hd0, hd1⟩, hb⟩ := hk
  have hle : (n - 1).toNat ≤ n.toNat := by omega
  have hk1 : pk (n - 1) (outD x) = true := by
    unfold pk
    rw [decide_eq_true (show 0 ≤ n - 1 ∧ 0 ≤ outD x ∧ outD x ≤ 100 by omega), Bool.true_and]
    exact pb_mono hle hb
  refine ⟨hd, hk1, hp, le_sg ?_⟩
  have hs2 := sg_le hs
  have hv : pv (n - 1) (outD x) ≤ pv n (outD x) := by
    unfold pv
    rw [if_pos hk1, if_pos hk0]
    exact Nat.pow_le_pow_left hle _
  omega
theorem cmpOk_symm (S : List Int) (x y : List RatD) : cmpOk S y x = cmpOk S x y := by
  unfold cmpOk
  cases decide (outD x ≠ 0) <;> cases decide (outD y ≠ 0) <;> cases prB S (mul (outZ x) (outD y)) <;> cases prB S (mul (outZ y) (outD x)) <;> rfl
theorem sg_symm (a b : Int) : sg a b = -sg b a := by
  unfold sg
  split <;> split <;> (try split) <;> omega
theorem cmpZ_symm (S : List Int) (x y : List RatD) : cmpZ S x y = -cmpZ S y x := by
  unfold cmpZ
  rw [cmpOk_symm S x y]
  split
  · exact sg_symm _ _
  · rfl
theorem cmpZ_in (S : List Int) (x y : List RatD) : -1 ≤ cmpZ S x y ∧ cmpZ S x y ≤ 1 := by
  unfold cmpZ sg
  split
  · split
    · omega
    · split <;> omega
  · omega
theorem rd_grown {w w' : World} {a : Option Addr} {xs : List Int} (h : Rd w w.heap.size a xs) (hb : Below w.heap.size w w') : Rd w' w'.heap.size a xs := fun h0 => by
  obtain ⟨b, off, e, hB, hc⟩ := (h.below hb) h0
  exact ⟨b, off, e, Nat.lt_of_lt_of_le hB hb.size, hc⟩

set_option maxRecDepth 100000 in
set_option maxHeartbeats 4000000 in
theorem core (w : World) (sv : Value) (l : List UInt8) (hl : l.length ≤ 1048576) (hc : Cur.Code w w.heap.size sv l) :
    Calls Try.prog 5 #[sv] w fun e w' => e = .returned (.bool true) ∧ Below w.heap.size w w' := by
  have BG := hid (Big.big_code sv l w _ hc hl)
  have DR := hid (draw_agm w sv l hl hc)
  have HCD := hid fun (W : World) (hb : Below w.heap.size w W) => (hc.below hb (Nat.le_refl _)).higher hb.size
  clear hc
  go_enter Try.func5, Try.ntmps5
  go_wp2_with fail
  refine BG.out.mono ?_
  rintro e w0 ⟨rfl, rfl⟩
  go_wp2_with fail
  refine DR.out.mono ?_
  rintro e w1 ⟨a0, cap0, xs, a1, cap1, ys, n, rfl, hx, hxa, hy, hr, hel, hn, hb⟩
  have B := hid hb
  have R0 := hid hr
  have E1 := hid hel
  have HN := hid hn
  have HXA := hid (show ∀ j (h : j < xs.length), xs[j] ≤ 9223372036854775807 from fun j h => by have := hxa j h; omega)
  clear hb hr hel DR BG hxa
  have W1 := hid fun (W : World) (q0 : Rd W W.heap.size a0 xs) (q1 : Els 2 rRat W 0 W.heap.size a1 ys) => impl_within a0 a1 cap0 cap1 xs ys n W (by omega) (by omega) HXA.out (by have := HN.out; omega) q0 q1
  have W2 := hid fun (W : World) (q0 : Rd W W.heap.size a0 xs) (q1 : Els 2 rRat W 0 W.heap.size a1 ys) => spec_within a0 a1 cap0 cap1 xs ys n W (by omega) (by omega) HXA.out (by have := HN.out; omega) q0 q1
  have W3 := hid fun (h : within xs ys n = true) (h1 : 1 ≤ n) (W : World) (q0 : Rd W W.heap.size a0 xs) (q1 : Els 2 rRat W 0 W.heap.size a1 ys) => impl_within a0 a1 cap0 cap1 xs ys (n - 1) W (by omega) (by omega) HXA.out (by have := HN.out; omega) q0 q1
  have W4 := hid fun (h : within xs ys n = true) (h1 : 1 ≤ n) => within_mono h h1
  obtain ⟨c, hce⟩ : ∃ c, within xs ys n = c := ⟨_, rfl⟩
  rw [hce] at W1 W2 W3 W4
  have HCE := hid hce
  clear hn hx hy hce
  go_wp2_with fail
  refine (W1.out _ R0.out E1.out).mono ?_
  rintro e w2 ⟨rfl, hb⟩
  replace R0 := hid (rd_grown R0.out hb)
  replace E1 := hid (els_grown E1.out hb)
  replace B := hid (B.out.trans (hb.mono B.out.size))
  have DC := hid (draw_cmp w2 sv l hl (HCD.out _ B.out))
  clear hb W1
  go_wp2_with fail
  refine DC.out.mono ?_
  rintro e w3 ⟨a2, cap2, ss, a3, cap3, us, a4, cap4, vs, rfl, hs, hsa, hu, hv, hrs, hru, hrv, hb⟩
  replace R0 := hid (rd_grown R0.out hb)
  replace E1 := hid (els_grown E1.out hb)
  replace B := hid (B.out.trans (hb.mono B.out.size))
  have R2 := hid hrs
  have E3 := hid hru
  have E4 := hid hrv
  have HSA := hid (show ∀ j (h : j < ss.length), ss[j] ≤ 9223372036854775807 from fun j h => by have := hsa j h; omega)
  have C1 := hid fun (W : World) (q0 : Rd W W.heap.size a2 ss) (q1 : Els 2 rRat W 0 W.heap.size a3 us) (q2 : Els 2 rRat W 0 W.heap.size a4 vs) => impl_cmpagm a2 a3 a4 cap2 cap3 cap4 ss us vs W (by omega) (by omega) (by omega) HSA.out q0 q1 q2
  have C2 := hid fun (W : World) (q0 : Rd W W.heap.size a2 ss) (q1 : Els 2 rRat W 0 W.heap.size a3 us) (q2 : Els 2 rRat W 0 W.heap.size a4 vs) => impl_cmpagm a2 a4 a3 cap2 cap4 cap3 ss vs us W (by omega) (by omega) (by omega) HSA.out q0 q2 q1
  have C3 := hid fun (W : World) (q0 : Rd W W.heap.size a2 ss) (q1 : Els 2 rRat W 0 W.heap.size a3 us) (q2 : Els 2 rRat W 0 W.heap.size a4 vs) => spec_cmpagm a2 a3 a4 cap2 cap3 cap4 ss us vs W (by omega) (by omega) (by omega) HSA.out q0 q1 q2
  have hzz := cmpZ_symm ss us vs
  have hzi := cmpZ_in ss vs us
  unfold CmpAgm at C1 C2 C3
  rw [cmpOk_symm ss us vs] at C2
  generalize cmpZ ss us vs = Z at C1 C3 hzz
  generalize cmpZ ss vs us = Z2 at C2 hzz hzi
  generalize cmpOk ss us vs = ok at C1 C2 C3
  have t_ok : (ok == ok) = true := by simp
  have t_Z : (Z == Z) = true := by simp
  have t_neg : (Z == -Z2) = true := by rw [hzz]; simp
  clear hrs hru hrv hb hsa hs hu hv DC hzz
  go_wp2_with fail
  refine (C1.out _ R2.out E3.out E4.out).mono ?_
  rintro e w4 ⟨rfl, hb⟩
  replace R0 := hid (rd_grown R0.out hb)
  replace R2 := hid (rd_grown R2.out hb)
  replace E1 := hid (els_grown E1.out hb)
  replace E3 := hid (els_grown E3.out hb)
  replace E4 := hid (els_grown E4.out hb)
  replace B := hid (B.out.trans (hb.mono B.out.size))
  clear hb C1
  go_wp2_with fail
  refine (C2.out _ R2.out E3.out E4.out).mono ?_
  rintro e w5 ⟨rfl, hb⟩
  replace R0 := hid (rd_grown R0.out hb)
  replace R2 := hid (rd_grown R2.out hb)
  replace E1 := hid (els_grown E1.out hb)
  replace E3 := hid (els_grown E3.out hb)
  replace E4 := hid (els_grown E4.out hb)
  replace B := hid (B.out.trans (hb.mono B.out.size))
  clear hb C2
  go_wp2_with fail
  refine (C3.out _ R2.out E3.out E4.out).mono ?_
  rintro e w6 ⟨rfl, hb⟩
  replace R0 := hid (rd_grown R0.out hb)
  replace E1 := hid (els_grown E1.out hb)
  replace B := hid (B.out.trans (hb.mono B.out.size))
  have DP := hid (draw_prd w6 sv l hl (HCD.out _ B.out))
  clear hb C3 R2 E3 E4
  go_wp2_with fail
  refine DP.out.mono ?_
  rintro e w7 ⟨a5, cap5, ps, a6, cap6, es, rfl, hp, hpa, hes, hrp, hre, hb⟩
  replace R0 := hid (rd_grown R0.out hb)
  replace E1 := hid (els_grown E1.out hb)
  replace B := hid (B.out.trans (hb.mono B.out.size))
  have R5 := hid hrp
  have R6 := hid hre
  have HPA := hid (show ∀ j (h : j < ps.length), ps[j] ≤ 9223372036854775807 from fun j h => by have := hpa j h; omega)
  have P1 := hid fun (W : World) (q0 : Rd W W.heap.size a5 ps) (q1 : Rd W W.heap.size a6 es) => impl_prd2 a5 a6 cap5 cap6 _ _ ps es W (by omega) (by omega) HPA.out q0 q1 (Nat.le_refl _) (Nat.le_refl _)
  have P2 := hid fun (W : World) (q0 : Rd W W.heap.size a5 ps) (q1 : Rd W W.heap.size a6 es) => spec_prd2 a5 a6 cap5 cap6 _ _ ps es W (by omega) (by omega) HPA.out q0 q1 (Nat.le_refl _) (Nat.le_refl _)
  have hN := prN_len ps es
  generalize prN ps es = N at P1 P2 hN
  generalize prB ps es = okp at P1 P2
  have t_okp : (okp == okp) = true := by simp
  have CM := hid fun (b1 b2 : Option Addr) (k1 k2 : Nat) (W : World) => impl_cmpN b1 b2 k1 k2 N N W hN hN
  rw [sg_eq rfl] at CM
  clear hrp hre hb hpa hp hes DP hN HPA
  go_wp2_with fail
  refine (P1.out _ R5.out R6.out).mono ?_
  rintro e w8 ⟨aP, capP, rfl, hX, hb⟩
  replace R0 := hid (rd_grown R0.out hb)
  replace R5 := hid (rd_grown R5.out hb)
  replace R6 := hid (rd_grown R6.out hb)
  replace E1 := hid (els_grown E1.out hb)
  replace B := hid (B.out.trans (hb.mono B.out.size))
  have P := hid hX
  clear hb hX P1
  go_wp2_with fail
  have AL := hid ((Below.refl w8.heap.size w8).alloc (Nat.le_refl _) (.cells #[.slice aP (ci (dg N)).length capP] 53))
  have OP := hid (one_new w8 (.slice aP (ci (dg N)).length capP) 53)
  replace P := hid (P.out.alloc (.cells #[.slice aP (ci (dg N)).length capP] 53))
  replace R0 := hid (rd_grown R0.out AL.out)
  replace R5 := hid (rd_grown R5.out AL.out)
  replace R6 := hid (rd_grown R6.out AL.out)
  replace E1 := hid (els_grown E1.out AL.out)
  replace B := hid (B.out.alloc B.out.size (.cells #[.slice aP (ci (dg N)).length capP] 53))
  clear AL
  refine (P2.out _ R5.out R6.out).mono ?_
  rintro e w9 ⟨aQ, capQ, rfl, hX, hb⟩
  replace P := hid (P.out.below' hb)
  replace OP := hid (OP.out.below' hb)
  replace R0 := hid (rd_grown R0.out hb)
  replace E1 := hid (els_grown E1.out hb)
  replace B := hid (B.out.trans (hb.mono B.out.size))
  have Q := hid hX
  clear hb hX P2 R5 R6
  go_wp2_with fail
  have AL := hid ((Below.refl w9.heap.size w9).alloc (Nat.le_refl _) (.cells #[.slice aQ (ci (dg N)).length capQ] 53))
  have OQ := hid (one_new w9 (.slice aQ (ci (dg N)).length capQ) 53)
  replace P := hid (P.out.alloc (.cells #[.slice aQ (ci (dg N)).length capQ] 53))
  replace OP := hid (OP.out.alloc (.cells #[.slice aQ (ci (dg N)).length capQ] 53))
  replace Q := hid (Q.out.alloc (.cells #[.slice aQ (ci (dg N)).length capQ] 53))
  replace R0 := hid (rd_grown R0.out AL.out)
  replace E1 := hid (els_grown E1.out AL.out)
  replace B := hid (B.out.alloc B.out.size (.cells #[.slice aQ (ci (dg N)).length capQ] 53))
  clear AL
  refine (W2.out _ R0.out E1.out).mono ?_
  rintro e w10 ⟨rfl, hb⟩
  replace P := hid (P.out.below' hb)
  replace Q := hid (Q.out.below' hb)
  replace OP := hid (OP.out.below' hb)
  replace OQ := hid (OQ.out.below' hb)
  replace R0 := hid (rd_grown R0.out hb)
  replace E1 := hid (els_grown E1.out hb)
  replace B := hid (B.out.trans (hb.mono B.out.size))
  clear hb W2
  have t_c : (c == c) = true := by simp
  obtain ⟨p0, _, p2⟩ := OP.out
  obtain ⟨q0, _, q2⟩ := OQ.out
  cases c with
  | false =>
    go_wp2_with fail
    refine (CM.out _ _ _ _ _ (own_rd P.out) (own_rd Q.out)).mono ?_
    rintro e w11 ⟨rfl, hb⟩
    have BE := hid (B.out.trans (hb.mono B.out.size))
    clear hb
    go_wp2_with fail
    go_ret
    exact ⟨rfl, BE.out⟩
  | true =>
    by_cases hn1 : n < 1
    · go_wp2_with fail
      refine (CM.out _ _ _ _ _ (own_rd P.out) (own_rd Q.out)).mono ?_
      rintro e w11 ⟨rfl, hb⟩
      have BE := hid (B.out.trans (hb.mono B.out.size))
      clear hb
      go_wp2_with fail
      go_ret
      exact ⟨rfl, BE.out⟩
    · have hnn := HN.out
      go_wp2_with fail
      refine (W3.out (by first | rfl | trivial) (by omega) _ R0.out E1.out).mono ?_
      rintro e w11 ⟨rfl, hb⟩
      rw [W4.out (by first | rfl | trivial) (by omega)]
      replace P := hid (P.out.below' hb)
      replace Q := hid (Q.out.below' hb)
      replace B := hid (B.out.trans (hb.mono B.out.size))
      have OP2 := OP.out.below' hb
      have OQ2 := OQ.out.below' hb
      clear hb p0 p2 q0 q2
      obtain ⟨p0, _, p2⟩ := OP2
      obtain ⟨q0, _, q2⟩ := OQ2
      go_wp2_with fail
      refine (CM.out _ _ _ _ _ (own_rd P.out) (own_rd Q.out)).mono ?_
      rintro e w12 ⟨rfl, hb⟩
      have BE := hid (B.out.trans (hb.mono B.out.size))
      clear hb
      go_wp2_with fail
      go_ret
      exact ⟨rfl, BE.out⟩
end Go.Proofs.Ytaiimjbdhcjobaa.BoundMonotonicityC

namespace Go.Proofs.Ytaiimjbdhcjobaa.BoundMonotonicityW
open Go.RowKit
open Go.Proofs.Ytaiimjbdhcjobaa.Cur
set_option linter.unusedVariables false

theorem walk (w : World) (sv : Value) (l : List UInt8) (hl : l.length ≤ 1048576) (hc : Cur.Code w w.heap.size sv l) :
    Calls Try.prog 5 #[sv] w fun e w' => e = .returned (.bool true) ∧ Below w.heap.size w w' :=
  BoundMonotonicityC.core w sv l hl hc
theorem walk_big (w : World) (a : Option Addr) (n cap : Nat) (h : 1048576 < n) (h2 : n ≤ 9223372036854775807) :
    Calls Try.prog 5 #[.slice a n cap] w fun e w' => e = .returned (.bool true) ∧ Below w.heap.size w w' := by
  go_enter Try.func5, Try.ntmps5
  go_wp2_with fail
  refine (Big.big_yes a n cap w h h2).mono ?_
  rintro e w0 ⟨rfl, rfl⟩
  go_wp2
  go_ret
  exact ⟨rfl, Below.refl _ _⟩
end Go.Proofs.Ytaiimjbdhcjobaa.BoundMonotonicityW
