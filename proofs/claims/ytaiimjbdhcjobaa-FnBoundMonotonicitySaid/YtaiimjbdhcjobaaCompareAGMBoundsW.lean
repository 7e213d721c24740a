/- The comparison of two bounds: both sides' contracts, and law FnExactCompareAGMBounds at every argument. -/
import Derived.Test.YtaiimjbdhcjobaaRats
import Derived.Test.YtaiimjbdhcjobaaIntLaw
import Derived.Test.YtaiimjbdhcjobaaLawKit
import Derived.Test.YtaiimjbdhcjobaaAgmI
namespace Go.Proofs.Ytaiimjbdhcjobaa.CompareAGMBoundsC
open Go.RowKit
open Go.Proofs.Ytaiimjbdhcjobaa.Num Go.Proofs.Ytaiimjbdhcjobaa.IntRow Go.Proofs.Ytaiimjbdhcjobaa.IntLaw Go.Proofs.Ytaiimjbdhcjobaa.Rdr Go.Proofs.Ytaiimjbdhcjobaa.HasL Go.Proofs.Ytaiimjbdhcjobaa.LawKit Go.Proofs.Ytaiimjbdhcjobaa.RatLaw Go.Proofs.Ytaiimjbdhcjobaa.Rats
set_option linter.unusedVariables false

/-- A copy of a row: a row of the call's own. -/
theorem to_ints' (a : Option Addr) (cap B : Nat) (xs : List Int) (w : World) (hn : xs.length ≤ 1048576) (h : Rd w B a xs) (hB : B ≤ w.heap.size) :
    Calls Try.prog 59 #[.slice a xs.length cap] w fun e w' => ∃ g, e = .returned (.slice (some ⟨g, 0, none⟩) xs.length xs.length) ∧ w.heap.size ≤ g ∧ g < w'.heap.size ∧ Own w' g 3 (.slice (some ⟨g, 0, none⟩) xs.length xs.length) xs ∧ Below w.heap.size w w' := by
  refine (to_ints a cap B xs w hn h hB).mono ?_
  rintro e w' ⟨rfl, hat, hb⟩
  exact ⟨_, rfl, Nat.le_refl _, hat.lt, hat, hb⟩

set_option maxRecDepth 100000 in
set_option maxHeartbeats 4000000 in
theorem core (a0 : Option Addr) (cap0 : Nat) (x0 : List Int) (a1 : Option Addr) (cap1 : Nat) (x1 : List RatD) (a2 : Option Addr) (cap2 : Nat) (x2 : List RatD) (Z : Int) (ok : Bool) (w : World) (hx0 : x0.length ≤ 1048576) (ht : x1.length + x2.length ≤ 1048576) (r0 : Rd w w.heap.size a0 x0) (r1 : Els 2 rRat w 0 w.heap.size a1 x1) (r2 : Els 2 rRat w 0 w.heap.size a2 x2)
    (S : RowKit.Hid (∀ (W : World) (b0 : Option Addr) (bap0 : Nat) (b1 : Option Addr) (bap1 : Nat) (b2 : Option Addr) (bap2 : Nat), Rd W W.heap.size b0 x0 → Els 2 rRat W 0 W.heap.size b1 x1 → Els 2 rRat W 0 W.heap.size b2 x2 → Calls Try.prog 34 #[.slice b0 x0.length bap0, .slice b1 x1.length bap1, .slice b2 x2.length bap2] W fun e w' => e = .returned (.tuple #[.int .i64 Z, .bool ok]) ∧ Below W.heap.size W w'))
    (I : RowKit.Hid (∀ (W : World) (b0 : Option Addr) (bap0 : Nat) (b1 : Option Addr) (bap1 : Nat) (b2 : Option Addr) (bap2 : Nat), Rd W W.heap.size b0 x0 → Els 2 rRat W 0 W.heap.size b1 x1 → Els 2 rRat W 0 W.heap.size b2 x2 → Calls Try.prog 33 #[.slice b0 x0.length bap0, .slice b1 x1.length bap1, .slice b2 x2.length bap2] W fun e w' => e = .returned (.tuple #[.int .i64 Z, .bool ok]) ∧ Below W.heap.size W w')) :
    Calls Try.prog 12 #[.slice a0 x0.length cap0, .slice a1 x1.length cap1, .slice a2 x2.length cap2] w fun e w' => e = .returned (.bool true) ∧ Below w.heap.size w w' := by
  have B := hid (Below.refl w.heap.size w)
  have t_l0 : ¬ (1048576 : Int) < (x0.length : Int) := by omega
  have R0 := hid r0
  clear r0
  have A1 := hid (els_grown r1 B.out)
  have A2 := hid (els_grown r2 B.out)
  have hneZ : (Z != Z) = false := by simp
  have hneO : (ok != ok) = false := by simp
  go_enter Try.func12, Try.ntmps12
  have t_sz1 : ¬ ((1048576 - (x1.length : Nat) : Int) < 0) := by omega
  go_wp2_with fail
  refine (sz_rats _ _ x1.length (1048576) (1048576 - (x1.length : Nat)) _ (by omega) (by omega) (by omega) (hid (.inr ⟨by omega, by omega⟩))).mono ?_
  rintro e w' ⟨rfl, rfl⟩
  have t_sz2 : ¬ ((1048576 - (x1.length : Nat) - (x2.length : Nat) : Int) < 0) := by omega
  go_wp2_with fail
  refine (sz_rats _ _ x2.length (1048576 - (x1.length : Nat)) (1048576 - (x1.length : Nat) - (x2.length : Nat)) _ (by omega) (by omega) (by omega) (hid (.inr ⟨by omega, by omega⟩))).mono ?_
  rintro e w' ⟨rfl, rfl⟩
  go_wp2_with fail
  refine (to_ints' a0 cap0 w.heap.size x0 _ hx0 (R0.out.below B.out) B.out.size).mono ?_
  rintro e w1 ⟨g, rfl, _, _, hX, hb⟩
  replace A1 := hid (els_grown A1.out hb)
  replace A2 := hid (els_grown A2.out hb)
  replace B := hid (B.out.trans (hb.mono B.out.size))
  clear hb
  have Xs0 := hid hX
  clear hX
  go_wp2_with fail
  refine (to_rats _ _ x1 0 _ _ (by omega) A1.out (Nat.le_refl _)).mono ?_
  rintro e w2 ⟨rfl, hd, _, hb, hlt⟩
  replace A1 := hid (els_grown A1.out hb)
  replace A2 := hid (els_grown A2.out hb)
  replace Xs0 := hid (Xs0.out.below' hb)
  replace B := hid (B.out.trans (hb.mono B.out.size))
  clear hb
  have Xs1 := hid (hd.up good_rat (Nat.zero_le _) (Nat.succ_le_of_lt hlt))
  clear hd hlt
  go_wp2_with fail
  refine (to_rats _ _ x2 0 _ _ (by omega) A2.out (Nat.le_refl _)).mono ?_
  rintro e w3 ⟨rfl, hd, _, hb, hlt⟩
  replace A1 := hid (els_grown A1.out hb)
  replace A2 := hid (els_grown A2.out hb)
  replace Xs0 := hid (Xs0.out.below' hb)
  replace Xs1 := hid (els_grown Xs1.out hb)
  replace B := hid (B.out.trans (hb.mono B.out.size))
  clear hb
  have Xs2 := hid (hd.up good_rat (Nat.zero_le _) (Nat.succ_le_of_lt hlt))
  clear hd hlt
  go_wp2_with fail
  refine (S.out _ _ _ _ _ _ _ (own_rd Xs0.out) Xs1.out Xs2.out).mono ?_
  rintro e w4 ⟨rfl, hb⟩
  replace A1 := hid (els_grown A1.out hb)
  replace A2 := hid (els_grown A2.out hb)
  replace Xs0 := hid (Xs0.out.below' hb)
  replace Xs1 := hid (els_grown Xs1.out hb)
  replace Xs2 := hid (els_grown Xs2.out hb)
  replace B := hid (B.out.trans (hb.mono B.out.size))
  clear hb
  clear Xs0
  clear Xs1
  clear Xs2
  go_wp2_with fail
  refine (to_ints' a0 cap0 w.heap.size x0 _ hx0 (R0.out.below B.out) B.out.size).mono ?_
  rintro e w5 ⟨g, rfl, _, _, hX, hb⟩
  replace A1 := hid (els_grown A1.out hb)
  replace A2 := hid (els_grown A2.out hb)
  replace B := hid (B.out.trans (hb.mono B.out.size))
  clear hb
  have X0 := hid hX
  clear hX
  go_wp2_with fail
  refine (to_rats _ _ x1 0 _ _ (by omega) A1.out (Nat.le_refl _)).mono ?_
  rintro e w6 ⟨rfl, hd, _, hb, hlt⟩
  replace A1 := hid (els_grown A1.out hb)
  replace A2 := hid (els_grown A2.out hb)
  replace X0 := hid (X0.out.below' hb)
  replace B := hid (B.out.trans (hb.mono B.out.size))
  clear hb
  have X1 := hid (hd.up good_rat (Nat.zero_le _) (Nat.succ_le_of_lt hlt))
  clear hd hlt
  go_wp2_with fail
  refine (to_rats _ _ x2 0 _ _ (by omega) A2.out (Nat.le_refl _)).mono ?_
  rintro e w7 ⟨rfl, hd, _, hb, hlt⟩
  replace A1 := hid (els_grown A1.out hb)
  replace A2 := hid (els_grown A2.out hb)
  replace X0 := hid (X0.out.below' hb)
  replace X1 := hid (els_grown X1.out hb)
  replace B := hid (B.out.trans (hb.mono B.out.size))
  clear hb
  have X2 := hid (hd.up good_rat (Nat.zero_le _) (Nat.succ_le_of_lt hlt))
  clear hd hlt
  go_wp2_with fail
  refine (I.out _ _ _ _ _ _ _ (own_rd X0.out) X1.out X2.out).mono ?_
  rintro e w8 ⟨rfl, hb⟩
  replace A1 := hid (els_grown A1.out hb)
  replace A2 := hid (els_grown A2.out hb)
  replace X0 := hid (X0.out.below' hb)
  replace X1 := hid (els_grown X1.out hb)
  replace X2 := hid (els_grown X2.out hb)
  replace B := hid (B.out.trans (hb.mono B.out.size))
  clear hb
  go_wp2_with fail
  refine (to_ints' a0 cap0 w.heap.size x0 _ hx0 (R0.out.below B.out) B.out.size).mono ?_
  rintro e w9 ⟨g, rfl, _, _, hX, hb⟩
  replace A1 := hid (els_grown A1.out hb)
  replace A2 := hid (els_grown A2.out hb)
  replace X0 := hid (X0.out.below' hb)
  replace X1 := hid (els_grown X1.out hb)
  replace X2 := hid (els_grown X2.out hb)
  replace B := hid (B.out.trans (hb.mono B.out.size))
  clear hb
  have E := hid hX
  clear hX
  go_wp2_with fail
  refine (eq_ints _ _ _ _ x0 _ _ _ hx0 (own_rd X0.out) (own_rd E.out) (Nat.le_refl _) (Nat.le_refl _)).mono ?_
  rintro e w10 ⟨rfl, hb⟩
  replace A1 := hid (els_grown A1.out hb)
  replace A2 := hid (els_grown A2.out hb)
  replace X0 := hid (X0.out.below' hb)
  replace X1 := hid (els_grown X1.out hb)
  replace X2 := hid (els_grown X2.out hb)
  replace E := hid (E.out.below' hb)
  replace B := hid (B.out.trans (hb.mono B.out.size))
  clear hb
  clear E
  go_wp2_with fail
  refine (to_rats _ _ x1 0 _ _ (by omega) A1.out (Nat.le_refl _)).mono ?_
  rintro e w11 ⟨rfl, hd, _, hb, hlt⟩
  replace A1 := hid (els_grown A1.out hb)
  replace A2 := hid (els_grown A2.out hb)
  replace X0 := hid (X0.out.below' hb)
  replace X1 := hid (els_grown X1.out hb)
  replace X2 := hid (els_grown X2.out hb)
  replace B := hid (B.out.trans (hb.mono B.out.size))
  clear hb
  have E := hid (hd.up good_rat (Nat.zero_le _) (Nat.succ_le_of_lt hlt))
  clear hd hlt
  go_wp2_with fail
  refine (eq_rats _ _ _ _ x1 0 _ 0 _ _ (by omega) X1.out E.out (Nat.le_refl _) (Nat.le_refl _)).mono ?_
  rintro e w12 ⟨rfl, hb⟩
  replace A1 := hid (els_grown A1.out hb)
  replace A2 := hid (els_grown A2.out hb)
  replace X0 := hid (X0.out.below' hb)
  replace X1 := hid (els_grown X1.out hb)
  replace X2 := hid (els_grown X2.out hb)
  replace E := hid (els_grown E.out hb)
  replace B := hid (B.out.trans (hb.mono B.out.size))
  clear hb
  clear E
  go_wp2_with fail
  refine (to_rats _ _ x2 0 _ _ (by omega) A2.out (Nat.le_refl _)).mono ?_
  rintro e w13 ⟨rfl, hd, _, hb, hlt⟩
  replace A1 := hid (els_grown A1.out hb)
  replace A2 := hid (els_grown A2.out hb)
  replace X0 := hid (X0.out.below' hb)
  replace X1 := hid (els_grown X1.out hb)
  replace X2 := hid (els_grown X2.out hb)
  replace B := hid (B.out.trans (hb.mono B.out.size))
  clear hb
  have E := hid (hd.up good_rat (Nat.zero_le _) (Nat.succ_le_of_lt hlt))
  clear hd hlt
  go_wp2_with fail
  refine (eq_rats _ _ _ _ x2 0 _ 0 _ _ (by omega) X2.out E.out (Nat.le_refl _) (Nat.le_refl _)).mono ?_
  rintro e w14 ⟨rfl, hb⟩
  replace A1 := hid (els_grown A1.out hb)
  replace A2 := hid (els_grown A2.out hb)
  replace X0 := hid (X0.out.below' hb)
  replace X1 := hid (els_grown X1.out hb)
  replace X2 := hid (els_grown X2.out hb)
  replace E := hid (els_grown E.out hb)
  replace B := hid (B.out.trans (hb.mono B.out.size))
  clear hb
  clear E
  go_wp2_with fail
  go_ret
  exact ⟨rfl, B.out⟩

set_option maxRecDepth 100000 in
theorem walk (a0 : Option Addr) (cap0 : Nat) (x0 : List Int) (a1 : Option Addr) (cap1 : Nat) (x1 : List RatD) (a2 : Option Addr) (cap2 : Nat) (x2 : List RatD) (w : World) (hn1 : x1.length ≤ 9223372036854775807) (hn2 : x2.length ≤ 9223372036854775807) (r0 : Rd w w.heap.size a0 x0) (r1 : Els 2 rRat w 0 w.heap.size a1 x1) (r2 : Els 2 rRat w 0 w.heap.size a2 x2) (SI : x0.length ≤ 1048576 → x1.length + x2.length ≤ 1048576 → ∃ (Z : Int) (ok : Bool), (∀ (W : World) (b0 : Option Addr) (bap0 : Nat) (b1 : Option Addr) (bap1 : Nat) (b2 : Option Addr) (bap2 : Nat), Rd W W.heap.size b0 x0 → Els 2 rRat W 0 W.heap.size b1 x1 → Els 2 rRat W 0 W.heap.size b2 x2 → Calls Try.prog 34 #[.slice b0 x0.length bap0, .slice b1 x1.length bap1, .slice b2 x2.length bap2] W fun e w' => e = .returned (.tuple #[.int .i64 Z, .bool ok]) ∧ Below W.heap.size W w') ∧ (∀ (W : World) (b0 : Option Addr) (bap0 : Nat) (b1 : Option Addr) (bap1 : Nat) (b2 : Option Addr) (bap2 : Nat), Rd W W.heap.size b0 x0 → Els 2 rRat W 0 W.heap.size b1 x1 → Els 2 rRat W 0 W.heap.size b2 x2 → Calls Try.prog 33 #[.slice b0 x0.length bap0, .slice b1 x1.length bap1, .slice b2 x2.length bap2] W fun e w' => e = .returned (.tuple #[.int .i64 Z, .bool ok]) ∧ Below W.heap.size W w')) :
    Calls Try.prog 12 #[.slice a0 x0.length cap0, .slice a1 x1.length cap1, .slice a2 x2.length cap2] w fun e w' => e = .returned (.bool true) ∧ Below w.heap.size w w' := by
  by_cases hx0 : 1048576 < x0.length
  · clear SI
    have t_l0 : (1048576 : Int) < (x0.length : Int) := by omega
    go_enter Try.func12, Try.ntmps12
    go_wp2
    go_ret
    exact ⟨rfl, Below.refl _ _⟩
  · by_cases ht1 : 1048576 < x1.length
    · clear SI
      have t_l0 : ¬ (1048576 : Int) < (x0.length : Int) := by omega
      go_enter Try.func12, Try.ntmps12
      go_wp2_with fail
      refine (sz_rats _ _ x1.length (1048576) (-1) _ (by omega) (by omega) (by omega) (hid (.inl ⟨by omega, rfl⟩))).mono ?_
      rintro e w' ⟨rfl, rfl⟩
      go_wp2
      go_ret
      exact ⟨rfl, Below.refl _ _⟩
    · by_cases ht2 : 1048576 < x1.length + x2.length
      · clear SI
        have t_l0 : ¬ (1048576 : Int) < (x0.length : Int) := by omega
        go_enter Try.func12, Try.ntmps12
        have t_sz1 : ¬ ((1048576 - (x1.length : Nat) : Int) < 0) := by omega
        go_wp2_with fail
        refine (sz_rats _ _ x1.length (1048576) (1048576 - (x1.length : Nat)) _ (by omega) (by omega) (by omega) (hid (.inr ⟨by omega, by omega⟩))).mono ?_
        rintro e w' ⟨rfl, rfl⟩
        go_wp2_with fail
        refine (sz_rats _ _ x2.length (1048576 - (x1.length : Nat)) (-1) _ (by omega) (by omega) (by omega) (hid (.inl ⟨by omega, rfl⟩))).mono ?_
        rintro e w' ⟨rfl, rfl⟩
        go_wp2
        go_ret
        exact ⟨rfl, Below.refl _ _⟩
      · obtain ⟨Z, ok, S, I⟩ := SI (by omega) (by omega)
        exact core a0 cap0 x0 a1 cap1 x1 a2 cap2 x2 Z ok w (by omega) (by omega) r0 r1 r2 (hid S) (hid I)
end Go.Proofs.Ytaiimjbdhcjobaa.CompareAGMBoundsC

namespace Go.Proofs.Ytaiimjbdhcjobaa.CompareAGMBoundsW
open Go.RowKit
open Go.Proofs.Ytaiimjbdhcjobaa.Num Go.Proofs.Ytaiimjbdhcjobaa.IntRow Go.Proofs.Ytaiimjbdhcjobaa.IntLaw Go.Proofs.Ytaiimjbdhcjobaa.Dig Go.Proofs.Ytaiimjbdhcjobaa.BigValid Go.Proofs.Ytaiimjbdhcjobaa.BigFrom Go.Proofs.Ytaiimjbdhcjobaa.BigCmp Go.Proofs.Ytaiimjbdhcjobaa.PrdP Go.Proofs.Ytaiimjbdhcjobaa.Rdr Go.Proofs.Ytaiimjbdhcjobaa.Rats Go.Proofs.Ytaiimjbdhcjobaa.ScP Go.Proofs.Ytaiimjbdhcjobaa.ScI Go.Proofs.Ytaiimjbdhcjobaa.ScS Go.Proofs.Ytaiimjbdhcjobaa.IntsA Go.Proofs.Ytaiimjbdhcjobaa.AgmI
set_option linter.unusedVariables false

def mul (E : List Int) (f : Int) : List Int := E.map (· * f)
theorem mul_len (E : List Int) (f : Int) : (mul E f).length = E.length := by simp [mul]
theorem mul_at (E : List Int) (f : Int) (k : Nat) (h : k < (mul E f).length) (h2 : k < E.length) : (mul E f)[k] = E[k] * f := by simp [mul]
/-- The first i elements have been multiplied. -/
def mulp (E : List Int) (f : Int) (i : Nat) : List Int := (mul E f).take i ++ E.drop i
theorem mulp_zero (E : List Int) (f : Int) : mulp E f 0 = E := by simp [mulp]
theorem mulp_all (E : List Int) (f : Int) : mulp E f E.length = mul E f := by
  unfold mulp
  rw [List.drop_length, List.append_nil, ← mul_len E f, List.take_length]
theorem mulp_len (E : List Int) (f : Int) (i : Nat) (h : i ≤ E.length) : (mulp E f i).length = E.length := by simp [mulp, mul]; omega
theorem mulp_at (E : List Int) (f : Int) (i : Nat) (h : i < (mulp E f i).length) (h2 : i < E.length) : (mulp E f i)[i] = E[i] := by
  simp only [mulp]
  rw [List.getElem_append_right (by simp [mul]; omega)]
  simp only [List.getElem_drop, List.length_take, mul_len]
  congr 1
  omega
theorem mulp_set (E : List Int) (f : Int) (i : Nat) (h : i < E.length) : (mulp E f i).set i (E[i] * f) = mulp E f (i + 1) := by
  have hl : ((mul E f).take i).length = i := by simp [mul]; omega
  unfold mulp
  rw [List.set_append_right _ _ (by omega), hl, Nat.sub_self, List.drop_eq_getElem_cons h, List.set_cons_zero, List.take_succ_eq_append_getElem (by rw [mul_len]; exact h), mul_at E f i _ h, List.append_assoc]
  rfl
theorem outD_le (x : List RatD) : outD x ≤ 1000 := by
  cases h : sc x x.length with
  | none => rw [(out_no h).2]; omega
  | some d => rw [(out_yes h).2]; have := sc_in x.length (Nat.le_refl _) h; omega
theorem outZ_in (x : List RatD) (j : Nat) (hj : j < (outZ x).length) : 0 ≤ (outZ x)[j] ∧ (outZ x)[j] ≤ 1000000000000 := by
  cases h : sc x x.length with
  | none => have e := (out_no h).1; rw [e] at hj; exact absurd hj (by simp)
  | some d =>
    have e := (out_yes h).1
    have hd := sc_in x.length (Nat.le_refl _) h
    have hj2 : j < x.length := by rw [e, zs_len] at hj; exact hj
    have hz := zs_in (sc_all x.length (Nat.le_refl _) h j hj2 hj2).1 hd.1 hd.2
    have e2 : (outZ x)[j] = x[j].1 * (d / x[j].2) := by
      rw [← zs_at x d j (by rw [zs_len]; exact hj2) hj2]
      congr 1
    rw [e2]
    exact hz.2.2
theorem mul_in (x y : List RatD) (j : Nat) (hj : j < (outZ x).length) : 0 ≤ (outZ x)[j] * outD y ∧ (outZ x)[j] * outD y ≤ 1000000000000000 := by
  have h1 := outZ_in x j hj
  have h2 := outD_nn y
  have h3 := outD_le y
  refine ⟨Int.mul_nonneg h1.1 h2, ?_⟩
  have := Int.mul_le_mul h1.2 h3 h2 (by omega)
  omega

set_option maxRecDepth 100000 in
theorem impl_mult (a : Option Addr) (cap : Nat) (E : List Int) (f : Int) (w : World) (hn : E.length ≤ 1048576) (hm : ∀ j (h : j < E.length), 0 ≤ E[j] * f ∧ E[j] * f ≤ 1000000000000000) (h : Rd w w.heap.size a E) :
    Calls Try.prog 95 #[.slice a E.length cap, .int .i64 f] w fun e w' => ∃ b cap', e = .returned (.slice b (mul E f).length cap') ∧ Own w' w.heap.size 3 (.slice b (mul E f).length cap') (mul E f) ∧ Below w.heap.size w w' := by
  obtain ⟨i0, hi, hz0, hz1, hz2⟩ := info_parts info
  have hmk := make_ints (P := Try.prog) w 42 3 i0 Try.underlying42 hi hz0 hz1 hz2 E.length (by omega)
  have hat0 := hid (at_made w 3 E.length (by omega))
  have hlm := mul_len E f
  go_enter Try.func95, Try.ntmps95
  go_wp2
  go_loopw [13] (fun i wr => ∃ k : Nat, k ≤ E.length ∧ i = .int .i64 k ∧ Hid (At wr w.heap.size 3 E.length (filled (mul E f) k)) ∧ Hid (Below w.heap.size w wr)) (fun i _ => E.length - (intOf i).toNat)
  case atStart => exact ⟨0, Nat.zero_le _, rfl, hid (by rw [filled_zero, hlm]; exact hat0.out), hid ((Below.refl _ _).alloc (Nat.le_refl _) _)⟩
  case round =>
    obtain ⟨k, hk, rfl, hat, hb⟩ := hrel
    have hfl := filled_length (mul E f) k (by omega)
    by_cases hlt : k < E.length
    · obtain ⟨b, off, rfl, hbB, hc⟩ := (h.below hb.out) (by omega)
      have g := hc k hlt
      have hmk2 := hm k hlt
      obtain ⟨u, c1⟩ : ∃ u, wr.cell? ⟨w.heap.size, k, none⟩ = some u := ⟨_, hat.out.cell k (by omega)⟩
      have c2 := hat.out.free k
      have hset := hid (hat.out.set k (E[k] * f))
      rw [← mul_at E f k (by omega) hlt, filled_step (mul E f) k (by omega), mul_at E f k (by omega) hlt] at hset
      have hlt' : (k : Int) < (E.length : Int) := by omega
      have h0' : (0 : Int) ≤ (k : Int) := by omega
      have HB := hid (hb.out.setCell (p := ⟨w.heap.size, k, none⟩) (Nat.le_refl _) (.int .i64 (E[k] * f)))
      clear hat hfl hc h hmk hlm hb
      go_wp2
      go_roundw
      case rel => exact ⟨k + 1, by omega, by go_num, hset, HB⟩
      case measure => simp [intOf]; omega
    · have e : k = E.length := by omega
      subst e
      have HA := hid (show At wr w.heap.size 3 (mul E f).length (mul E f) by have h9 := hat.out; rw [← hlm, filled_all] at h9; rw [hlm] at h9 ⊢; exact h9)
      clear hmk hat
      go_wp2
      go_ret
      rw [hlm]
      refine ⟨some ⟨w.heap.size, 0, none⟩, E.length, rfl, ?_, hb.out⟩
      have h9 := HA.out.own (Nat.le_refl _)
      rw [hlm] at h9
      exact h9

/-- Whether both bounds are told, and how they compare. -/
def cmpOk (S : List Int) (a b : List RatD) : Bool := decide (outD a ≠ 0) && (decide (outD b ≠ 0) && (prB S (mul (outZ a) (outD b)) && prB S (mul (outZ b) (outD a))))
def cmpZ (S : List Int) (a b : List RatD) : Int := if cmpOk S a b = true then sg (prN S (mul (outZ a) (outD b)) : Int) (prN S (mul (outZ b) (outD a)) : Int) else 0
theorem cmp_no {S : List Int} {a b : List RatD} (h : cmpOk S a b = false) : cmpZ S a b = 0 := by unfold cmpZ; rw [h]; rfl
theorem cmp_yes {S : List Int} {a b : List RatD} (h : cmpOk S a b = true) : cmpZ S a b = sg (prN S (mul (outZ a) (outD b)) : Int) (prN S (mul (outZ b) (outD a)) : Int) := by unfold cmpZ; rw [h]; rfl
theorem prB_len {S E : List Int} (h : S.length ≠ E.length) : prB S E = false := by unfold prB prd; rw [if_neg h]; rfl
def CmpAgm (S : List Int) (a b : List RatD) (w : World) (e : Ending) (w' : World) : Prop := e = .returned (.tuple #[.int .i64 (cmpZ S a b), .bool (cmpOk S a b)]) ∧ Below w.heap.size w w'
theorem ca_no {S : List Int} {a b : List RatD} {w w' : World} (h : cmpOk S a b = false) (hb : Below w.heap.size w w') : CmpAgm S a b w (.returned (.tuple #[.int .i64 0, .bool false])) w' := by
  unfold CmpAgm
  rw [cmp_no h, h]
  exact ⟨rfl, hb⟩
theorem ca_yes {S : List Int} {a b : List RatD} {w w' : World} (h : cmpOk S a b = true) (hb : Below w.heap.size w w') : CmpAgm S a b w (.returned (.tuple #[.int .i64 (sg (prN S (mul (outZ a) (outD b)) : Int) (prN S (mul (outZ b) (outD a)) : Int)), .bool true])) w' := by
  unfold CmpAgm
  rw [cmp_yes h, h]
  exact ⟨rfl, hb⟩

set_option maxRecDepth 100000 in
set_option maxHeartbeats 1500000 in
theorem impl_cmpagm (a0 a1 a2 : Option Addr) (cap0 cap1 cap2 : Nat) (S : List Int) (x y : List RatD) (w : World) (hS : S.length ≤ 1048576) (hx : x.length ≤ 1048576) (hy : y.length ≤ 1048576) (hbd : ∀ j (h : j < S.length), S[j] ≤ 9223372036854775807) (h0 : Rd w w.heap.size a0 S) (h1 : Els 2 rRat w 0 w.heap.size a1 x) (h2 : Els 2 rRat w 0 w.heap.size a2 y) :
    Calls Try.prog 33 #[.slice a0 S.length cap0, .slice a1 x.length cap1, .slice a2 y.length cap2] w (CmpAgm S x y w) := by
  have hzx : (outZ x).length ≤ 1048576 := Nat.le_trans (outZ_len x) hx
  have hzy : (outZ y).length ≤ 1048576 := Nat.le_trans (outZ_len y) hy
  have hdx := outD_nn x
  have hdy := outD_nn y
  have hdx2 := outD_le x
  have hdy2 := outD_le y
  have R0 := hid h0
  have A1 := hid h1
  have A2 := hid h2
  have B := hid (Below.refl w.heap.size w)
  clear h0 h1 h2
  go_enter Try.func33, Try.ntmps33
  go_wp2_with fail
  refine (impl_scale a1 cap1 x 0 _ _ hx A1.out (Nat.le_refl _)).mono ?_
  rintro e w1 ⟨aZx, capZx, rfl, hX, hb⟩
  replace R0 := hid (R0.out.below (hb.mono B.out.size))
  replace A1 := hid (els_grown A1.out hb)
  replace A2 := hid (els_grown A2.out hb)
  replace B := hid (B.out.trans (hb.mono B.out.size))
  have s1 := hb.size
  (try simp only [World.size_alloc] at s1)
  have LZx := hid hX.lt
  have Zx := hid hX
  clear hX hb A1
  go_wp2_with fail
  refine (impl_scale a2 cap2 y 0 _ _ hy A2.out (Nat.le_refl _)).mono ?_
  rintro e w2 ⟨aZy, capZy, rfl, hX, hb⟩
  replace Zx := hid (Zx.out.below' hb)
  replace R0 := hid (R0.out.below (hb.mono B.out.size))
  replace A2 := hid (els_grown A2.out hb)
  replace B := hid (B.out.trans (hb.mono B.out.size))
  have s2 := hb.size
  (try simp only [World.size_alloc] at s2)
  have LZy := hid hX.lt
  have Zy := hid hX
  clear hX hb A2
  by_cases hd : outD x = 0
  · have t1 : (outD x == 0) = true := by simp [hd]
    have hw : cmpOk S x y = false := by unfold cmpOk; rw [hd]; rfl
    have hw2 := hid hw
    clear hw
    clear hd
    go_wp2_with fail
    go_ret2
    exact ca_no hw2.out B.out
  have t1 : (outD x == 0) = false := by simp [hd]
  by_cases he : outD y = 0
  · have t2 : (outD y == 0) = true := by simp [he]
    have hw : cmpOk S x y = false := by unfold cmpOk; rw [he]; simp
    have hw2 := hid hw
    clear hw
    clear hd he
    go_wp2_with fail
    go_ret2
    exact ca_no hw2.out B.out
  have t2 : (outD y == 0) = false := by simp [he]
  have hdd : decide (outD x ≠ 0) = true := decide_eq_true hd
  have hee : decide (outD y ≠ 0) = true := decide_eq_true he
  clear hd he
  go_wp2_with fail
  refine (impl_mult _ _ (outZ x) (outD y) _ hzx (mul_in x y) (own_rd Zx.out)).mono ?_
  rintro e w3 ⟨aM1, capM1, rfl, hX, hb⟩
  replace Zx := hid (Zx.out.below' hb)
  replace Zy := hid (Zy.out.below' hb)
  replace R0 := hid (R0.out.below (hb.mono B.out.size))
  replace B := hid (B.out.trans (hb.mono B.out.size))
  have s3 := hb.size
  (try simp only [World.size_alloc] at s3)
  have M1 := hid hX
  clear hX hb
  go_wp2_with fail
  refine (impl_prd2 a0 _ cap0 _ _ _ S (mul (outZ x) (outD y)) _ hS (by rw [mul_len]; assumption) hbd R0.out (own_rd M1.out) B.out.size (Nat.le_refl _)).mono ?_
  rintro e w4 ⟨aP, capP, rfl, hX, hb⟩
  replace Zx := hid (Zx.out.below' hb)
  replace Zy := hid (Zy.out.below' hb)
  replace M1 := hid (M1.out.below' hb)
  replace R0 := hid (R0.out.below (hb.mono B.out.size))
  replace B := hid (B.out.trans (hb.mono B.out.size))
  have s4 := hb.size
  (try simp only [World.size_alloc] at s4)
  have P := hid hX
  clear hX hb
  go_wp2_with fail
  have OP := hid (one_new w4 (.slice aP (ci (dg (prN S (mul (outZ x) (outD y))))).length capP) 53)
  replace Zx := hid (Zx.out.alloc (.cells #[(.slice aP (ci (dg (prN S (mul (outZ x) (outD y))))).length capP)] 53))
  replace Zy := hid (Zy.out.alloc (.cells #[(.slice aP (ci (dg (prN S (mul (outZ x) (outD y))))).length capP)] 53))
  replace M1 := hid (M1.out.alloc (.cells #[(.slice aP (ci (dg (prN S (mul (outZ x) (outD y))))).length capP)] 53))
  replace P := hid (P.out.alloc (.cells #[(.slice aP (ci (dg (prN S (mul (outZ x) (outD y))))).length capP)] 53))
  replace R0 := hid (R0.out.alloc B.out.size (.cells #[(.slice aP (ci (dg (prN S (mul (outZ x) (outD y))))).length capP)] 53))
  replace B := hid (B.out.alloc B.out.size (.cells #[(.slice aP (ci (dg (prN S (mul (outZ x) (outD y))))).length capP)] 53))
  refine (impl_mult _ _ (outZ y) (outD x) _ hzy (mul_in y x) (own_rd Zy.out)).mono ?_
  rintro e w5 ⟨aM2, capM2, rfl, hX, hb⟩
  replace Zx := hid (Zx.out.below' hb)
  replace Zy := hid (Zy.out.below' hb)
  replace M1 := hid (M1.out.below' hb)
  replace P := hid (P.out.below' hb)
  replace OP := hid (OP.out.below' hb)
  replace R0 := hid (R0.out.below (hb.mono B.out.size))
  replace B := hid (B.out.trans (hb.mono B.out.size))
  have s5 := hb.size
  (try simp only [World.size_alloc] at s5)
  have M2 := hid hX
  clear hX hb
  go_wp2_with fail
  refine (impl_prd2 a0 _ cap0 _ _ _ S (mul (outZ y) (outD x)) _ hS (by rw [mul_len]; assumption) hbd R0.out (own_rd M2.out) B.out.size (Nat.le_refl _)).mono ?_
  rintro e w6 ⟨aQ, capQ, rfl, hX, hb⟩
  replace Zx := hid (Zx.out.below' hb)
  replace Zy := hid (Zy.out.below' hb)
  replace M1 := hid (M1.out.below' hb)
  replace P := hid (P.out.below' hb)
  replace M2 := hid (M2.out.below' hb)
  replace OP := hid (OP.out.below' hb)
  replace R0 := hid (R0.out.below (hb.mono B.out.size))
  replace B := hid (B.out.trans (hb.mono B.out.size))
  have s6 := hb.size
  (try simp only [World.size_alloc] at s6)
  have Q := hid hX
  clear hX hb
  cases hp : prB S (mul (outZ x) (outD y)) with
  | false =>
    have hw : cmpOk S x y = false := by unfold cmpOk; rw [hp, Bool.false_and, Bool.and_false, Bool.and_false]
    have hw2 := hid hw
    clear hw
    have BE := hid (B.out.alloc B.out.size (.cells #[(.slice aQ (ci (dg (prN S (mul (outZ y) (outD x))))).length capQ)] 53))
    obtain ⟨c1, _, z1⟩ := OP.out
    clear hdd hee
    go_wp2_with fail
    go_ret2
    exact ca_no hw2.out BE.out
  | true =>
  cases hq : prB S (mul (outZ y) (outD x)) with
  | false =>
    have hw : cmpOk S x y = false := by unfold cmpOk; rw [hq, Bool.and_false, Bool.and_false, Bool.and_false]
    have hw2 := hid hw
    clear hw
    have BE := hid (B.out.alloc B.out.size (.cells #[(.slice aQ (ci (dg (prN S (mul (outZ y) (outD x))))).length capQ)] 53))
    obtain ⟨c1, _, z1⟩ := OP.out
    clear hdd hee
    go_wp2_with fail
    go_ret2
    exact ca_no hw2.out BE.out
  | true =>
    have hw : cmpOk S x y = true := by unfold cmpOk; rw [hdd, hee, hp, hq]; rfl
    have hw2 := hid hw
    clear hw hdd hee hp hq
    obtain ⟨c1, _, z1⟩ := OP.out
    go_wp2_with fail
    refine (impl_cmpN _ _ _ _ (prN S (mul (outZ x) (outD y))) (prN S (mul (outZ y) (outD x))) _ (prN_len _ _) (prN_len _ _) (own_rd (P.out.alloc (.cells #[(.slice aQ (ci (dg (prN S (mul (outZ y) (outD x))))).length capQ)] 53))) (own_rd (Q.out.alloc (.cells #[(.slice aQ (ci (dg (prN S (mul (outZ y) (outD x))))).length capQ)] 53)))).mono ?_
    rintro e wz ⟨rfl, hb⟩
    have BE0 := B.out.alloc B.out.size (.cells #[(.slice aQ (ci (dg (prN S (mul (outZ y) (outD x))))).length capQ)] 53)
    have BE := hid (BE0.trans (hb.mono BE0.size))
    clear hb BE0
    go_wp2_with fail
    go_ret2
    exact ca_yes hw2.out BE.out

theorem spec_prd3 (a1 a2 : Option Addr) (cap1 cap2 B1 B2 : Nat) (S E : List Int) (n : Nat) (w : World) (hS : S.length ≤ 1048576) (hE : E.length ≤ 1048576) (hbd : ∀ j (h : j < S.length), S[j] ≤ 9223372036854775807) (h1 : Rd w B1 a1 S) (h2 : Rd w B2 a2 E) (hB1 : B1 ≤ w.heap.size) (hB2 : B2 ≤ w.heap.size) (hn : n = E.length) :
    Calls Try.prog 37 #[.slice a1 S.length cap1, .slice a2 n cap2] w fun e w' => ∃ a cap, e = .returned (.tuple #[.agg #[.slice a (ci (dg (prN S E))).length cap], .bool (prB S E)]) ∧ Own w' w.heap.size 3 (.slice a (ci (dg (prN S E))).length cap) (ci (dg (prN S E))) ∧ Below w.heap.size w w' := by
  subst hn
  exact spec_prd2 a1 a2 cap1 cap2 B1 B2 S E w hS hE hbd h1 h2 hB1 hB2

set_option maxRecDepth 100000 in
set_option maxHeartbeats 1500000 in
theorem spec_cmpagm (a0 a1 a2 : Option Addr) (cap0 cap1 cap2 : Nat) (S : List Int) (x y : List RatD) (w : World) (hS : S.length ≤ 1048576) (hx : x.length ≤ 1048576) (hy : y.length ≤ 1048576) (hbd : ∀ j (h : j < S.length), S[j] ≤ 9223372036854775807) (h0 : Rd w w.heap.size a0 S) (h1 : Els 2 rRat w 0 w.heap.size a1 x) (h2 : Els 2 rRat w 0 w.heap.size a2 y) :
    Calls Try.prog 34 #[.slice a0 S.length cap0, .slice a1 x.length cap1, .slice a2 y.length cap2] w (CmpAgm S x y w) := by
  have hzx : (outZ x).length ≤ 1048576 := Nat.le_trans (outZ_len x) hx
  have hzy : (outZ y).length ≤ 1048576 := Nat.le_trans (outZ_len y) hy
  have hdx := outD_nn x
  have hdy := outD_nn y
  have hdx2 := outD_le x
  have hdy2 := outD_le y
  have R0 := hid h0
  have A1 := hid h1
  have A2 := hid h2
  have B := hid (Below.refl w.heap.size w)
  clear h0 h1 h2
  go_enter Try.func34, Try.ntmps34
  go_wp2_with fail
  refine (spec_scale a1 cap1 x 0 _ _ hx A1.out (Nat.le_refl _)).mono ?_
  rintro e w1 ⟨aZx, capZx, rfl, hX, hb⟩
  replace R0 := hid (R0.out.below (hb.mono B.out.size))
  replace A1 := hid (els_grown A1.out hb)
  replace A2 := hid (els_grown A2.out hb)
  replace B := hid (B.out.trans (hb.mono B.out.size))
  have s1 := hb.size
  (try simp only [World.size_alloc] at s1)
  have LZx := hid hX.lt
  have Zx := hid hX
  clear hX hb A1
  go_wp2_with fail
  refine (spec_scale a2 cap2 y 0 _ _ hy A2.out (Nat.le_refl _)).mono ?_
  rintro e w2 ⟨aZy, capZy, rfl, hX, hb⟩
  replace Zx := hid (Zx.out.below' hb)
  replace R0 := hid (R0.out.below (hb.mono B.out.size))
  replace A2 := hid (els_grown A2.out hb)
  replace B := hid (B.out.trans (hb.mono B.out.size))
  have s2 := hb.size
  (try simp only [World.size_alloc] at s2)
  have LZy := hid hX.lt
  have Zy := hid hX
  clear hX hb A2
  by_cases hd : outD x = 0
  · have t1 : (outD x == 0) = true := by simp [hd]
    have hw : cmpOk S x y = false := by unfold cmpOk; rw [hd]; rfl
    have hw2 := hid hw
    clear hw
    clear hd
    go_wp2_with fail
    go_ret2
    exact ca_no hw2.out B.out
  have t1 : (outD x == 0) = false := by simp [hd]
  by_cases he : outD y = 0
  · have t2 : (outD y == 0) = true := by simp [he]
    have hw : cmpOk S x y = false := by unfold cmpOk; rw [he]; simp
    have hw2 := hid hw
    clear hw
    clear hd he
    go_wp2_with fail
    go_ret2
    exact ca_no hw2.out B.out
  have t2 : (outD y == 0) = false := by simp [he]
  have hdd : decide (outD x ≠ 0) = true := decide_eq_true hd
  have hee : decide (outD y ≠ 0) = true := decide_eq_true he
  clear hd he
  by_cases hlx : (outZ x).length = S.length
  rotate_left
  · have t3 : (((outZ x).length : Int) != (S.length : Int)) = true := by rw [bne_iff_ne]; omega
    have hw : cmpOk S x y = false := by unfold cmpOk; rw [prB_len (show S.length ≠ (mul (outZ x) _).length by rw [mul_len]; omega)]; simp
    have hw2 := hid hw
    clear hw
    clear hdd hee
    go_wp2_with fail
    go_ret2
    exact ca_no hw2.out B.out
  have t3 : (((outZ x).length : Int) != (S.length : Int)) = false := by rw [hlx]; simp
  by_cases hly : (outZ y).length = S.length
  rotate_left
  · have t4 : (((outZ y).length : Int) != (S.length : Int)) = true := by rw [bne_iff_ne]; omega
    have hw : cmpOk S x y = false := by unfold cmpOk; rw [prB_len (show S.length ≠ (mul (outZ y) _).length by rw [mul_len]; omega)]; simp
    have hw2 := hid hw
    clear hw
    clear hdd hee
    go_wp2_with fail
    go_ret2
    exact ca_no hw2.out B.out
  have t4 : (((outZ y).length : Int) != (S.length : Int)) = false := by rw [hly]; simp
  have HLy := hid hly
  have HLx := hid hlx
  clear hlx hly
  go_wp2_with fail
  clear t1 t2 t3 t4
  go_loopw [12] (fun iv wr => ∃ i : Nat, iv = .int .i64 i ∧ i ≤ S.length ∧ Hid (Own wr w.heap.size 3 (.slice aZx (outZ x).length capZx) (mulp (outZ x) (outD y) i)) ∧ Hid (Own wr w1.heap.size 3 (.slice aZy (outZ y).length capZy) (mulp (outZ y) (outD x) i)) ∧ Hid (Rd wr w.heap.size a0 S) ∧ Hid (Below w.heap.size w wr) ∧ w2.heap.size ≤ wr.heap.size) (fun iv _ => S.length - (intOf iv).toNat)
  case atStart => exact ⟨0, rfl, Nat.zero_le _, hid (by rw [mulp_zero]; exact Zx.out), hid (by rw [mulp_zero]; exact Zy.out), R0, B, Nat.le_refl _⟩
  case round =>
    clear Zx Zy R0 B
    obtain ⟨i, rfl, hi, Zx, Zy, R0, B, hsz⟩ := hrel
    by_cases hlt : i < S.length
    · have hix : i < (outZ x).length := by have := HLx.out; omega
      have hiy : i < (outZ y).length := by have := HLy.out; omega
      have hxl := mulp_len (outZ x) (outD y) i (Nat.le_of_lt hix)
      have hyl := mulp_len (outZ y) (outD x) i (Nat.le_of_lt hiy)
      have hmx := mul_in x y i hix
      have hmy := mul_in y x i hiy
      rcases own_at Zx.out with ⟨_, h9⟩ | ⟨g1, k1, hv1, hg1, hat1⟩
      · rw [h9] at hxl; simp at hxl; omega
      rcases own_at Zy.out with ⟨_, h9⟩ | ⟨g2, k2, hv2, hg2, hat2⟩
      · rw [h9] at hyl; simp at hyl; omega
      simp only [Value.slice.injEq] at hv1 hv2
      obtain ⟨rfl, _, rfl⟩ := hv1
      obtain ⟨rfl, _, rfl⟩ := hv2
      have hgl : g1 < w1.heap.size := (LZx.out g1 rfl).2
      have hne : g1 ≠ g2 := by omega
      have c1 := hat1.cell i (by omega)
      rw [mulp_at _ _ _ _ hix] at c1
      have f1 := hat1.free i
      have n1 := hat1.set i ((outZ x)[i] * outD y)
      rw [mulp_set _ _ _ hix] at n1
      have m2 := hat2.far (p := ⟨g1, i, none⟩) (show g2 ≠ g1 by omega) (.int .i64 ((outZ x)[i] * outD y))
      have c2 := m2.cell i (by omega)
      rw [mulp_at _ _ _ _ hiy] at c2
      have f2 := m2.free i
      have n2 := m2.set i ((outZ y)[i] * outD x)
      rw [mulp_set _ _ _ hiy] at n2
      have n1' := n1.far (p := ⟨g2, i, none⟩) hne (.int .i64 ((outZ y)[i] * outD x))
      have hl1 := mulp_len (outZ x) (outD y) (i + 1) hix
      have hl2 := mulp_len (outZ y) (outD x) (i + 1) hiy
      have N1 := hid (n1'.own hg1)
      have N2 := hid (n2.own hg2)
      rw [hl1] at N1
      rw [hl2] at N2
      have hgw : w.heap.size ≤ g2 := by omega
      have B1 := B.out.setCell (p := ⟨g1, i, none⟩) hg1 (.int .i64 ((outZ x)[i] * outD y))
      have B2 := B1.setCell (p := ⟨g2, i, none⟩) hgw (.int .i64 ((outZ y)[i] * outD x))
      have BE := hid B2
      have RE := hid (R0.out.below (((Below.refl w.heap.size wr).setCell (p := ⟨g1, i, none⟩) hg1 (.int .i64 ((outZ x)[i] * outD y))).setCell (p := ⟨g2, i, none⟩) hgw (.int .i64 ((outZ y)[i] * outD x))))
      have hix' : (i : Int) < ((outZ x).length : Int) := by omega
      have hiy' : (i : Int) < ((outZ y).length : Int) := by omega
      have h0' : (0 : Int) ≤ (i : Int) := by omega
      clear B1 B2 n1 n1' n2 m2 hat1 hat2 B R0 Zx Zy hxl hyl
      go_wp2
      go_roundw
      case rel => exact ⟨i + 1, by go_num, by omega, N1, N2, RE, BE, by simp; omega⟩
      case measure => simp [intOf]; omega
    have e : i = S.length := by omega
    subst e
    have hnl : ¬ ((S.length : Int) < ((outZ x).length : Int)) := by have := HLx.out; omega
    replace Zx := hid (show Own wr w.heap.size 3 (.slice aZx (mul (outZ x) (outD y)).length capZx) (mul (outZ x) (outD y)) by have h9 := Zx.out; rw [← HLx.out, mulp_all] at h9; rw [mul_len]; exact h9)
    replace Zy := hid (show Own wr w1.heap.size 3 (.slice aZy (mul (outZ y) (outD x)).length capZy) (mul (outZ y) (outD x)) by have h9 := Zy.out; rw [← HLy.out, mulp_all] at h9; rw [mul_len]; exact h9)
    have ex := hid (mul_len (outZ x) (outD y)).symm
    have ey := hid (mul_len (outZ y) (outD x)).symm
    have hzx2 := hid (show (mul (outZ x) (outD y)).length ≤ 1048576 by rw [mul_len]; exact hzx)
    have hzy2 := hid (show (mul (outZ y) (outD x)).length ≤ 1048576 by rw [mul_len]; exact hzy)
    go_wp2_with fail
    refine (spec_prd3 a0 _ cap0 _ _ _ S (mul (outZ x) (outD y)) _ _ hS hzx2.out hbd R0.out (own_rd Zx.out) B.out.size (Nat.le_refl _) ex.out).mono ?_
    rintro e w3 ⟨aP, capP, rfl, hX, hb⟩
    replace Zx := hid (Zx.out.below' hb)
    replace Zy := hid (Zy.out.below' hb)
    replace R0 := hid (R0.out.below (hb.mono B.out.size))
    replace B := hid (B.out.trans (hb.mono B.out.size))
    have s3 := hb.size
    (try simp only [World.size_alloc] at s3)
    have P := hid hX
    clear hX hb
    go_wp2_with fail
    have OP := hid (one_new w3 (.slice aP (ci (dg (prN S (mul (outZ x) (outD y))))).length capP) 53)
    replace Zx := hid (Zx.out.alloc (.cells #[(.slice aP (ci (dg (prN S (mul (outZ x) (outD y))))).length capP)] 53))
    replace Zy := hid (Zy.out.alloc (.cells #[(.slice aP (ci (dg (prN S (mul (outZ x) (outD y))))).length capP)] 53))
    replace P := hid (P.out.alloc (.cells #[(.slice aP (ci (dg (prN S (mul (outZ x) (outD y))))).length capP)] 53))
    replace R0 := hid (R0.out.alloc B.out.size (.cells #[(.slice aP (ci (dg (prN S (mul (outZ x) (outD y))))).length capP)] 53))
    replace B := hid (B.out.alloc B.out.size (.cells #[(.slice aP (ci (dg (prN S (mul (outZ x) (outD y))))).length capP)] 53))
    refine (spec_prd3 a0 _ cap0 _ _ _ S (mul (outZ y) (outD x)) _ _ hS hzy2.out hbd R0.out (own_rd Zy.out) B.out.size (Nat.le_refl _) ey.out).mono ?_
    rintro e w4 ⟨aQ, capQ, rfl, hX, hb⟩
    replace Zx := hid (Zx.out.below' hb)
    replace Zy := hid (Zy.out.below' hb)
    replace P := hid (P.out.below' hb)
    replace OP := hid (OP.out.below' hb)
    replace R0 := hid (R0.out.below (hb.mono B.out.size))
    replace B := hid (B.out.trans (hb.mono B.out.size))
    have s4 := hb.size
    (try simp only [World.size_alloc] at s4)
    have Q := hid hX
    clear hX hb
    cases hp : prB S (mul (outZ x) (outD y)) with
    | false =>
      have hw : cmpOk S x y = false := by unfold cmpOk; rw [hp, Bool.false_and, Bool.and_false, Bool.and_false]
      have hw2 := hid hw
      clear hw
      have BE := hid (B.out.alloc B.out.size (.cells #[(.slice aQ (ci (dg (prN S (mul (outZ y) (outD x))))).length capQ)] 53))
      obtain ⟨c1, _, z1⟩ := OP.out
      clear hdd hee
      go_wp2_with fail
      go_ret2
      exact ca_no hw2.out BE.out
    | true =>
    cases hq : prB S (mul (outZ y) (outD x)) with
    | false =>
      have hw : cmpOk S x y = false := by unfold cmpOk; rw [hq, Bool.and_false, Bool.and_false, Bool.and_false]
      have hw2 := hid hw
      clear hw
      have BE := hid (B.out.alloc B.out.size (.cells #[(.slice aQ (ci (dg (prN S (mul (outZ y) (outD x))))).length capQ)] 53))
      obtain ⟨c1, _, z1⟩ := OP.out
      clear hdd hee
      go_wp2_with fail
      go_ret2
      exact ca_no hw2.out BE.out
    | true =>
      have hw : cmpOk S x y = true := by unfold cmpOk; rw [hdd, hee, hp, hq]; rfl
      have hw2 := hid hw
      clear hw hdd hee hp hq
      obtain ⟨c1, _, z1⟩ := OP.out
      go_wp2_with fail
      refine (spec_cmpN _ _ _ _ (prN S (mul (outZ x) (outD y))) (prN S (mul (outZ y) (outD x))) _ (prN_len _ _) (prN_len _ _) (own_rd (P.out.alloc (.cells #[(.slice aQ (ci (dg (prN S (mul (outZ y) (outD x))))).length capQ)] 53))) (own_rd (Q.out.alloc (.cells #[(.slice aQ (ci (dg (prN S (mul (outZ y) (outD x))))).length capQ)] 53)))).mono ?_
      rintro e wz ⟨rfl, hb⟩
      have BE0 := B.out.alloc B.out.size (.cells #[(.slice aQ (ci (dg (prN S (mul (outZ y) (outD x))))).length capQ)] 53)
      have BE := hid (BE0.trans (hb.mono BE0.size))
      clear hb BE0
      go_wp2_with fail
      go_ret2
      exact ca_yes hw2.out BE.out
  theorem walk (a0 : Option Addr) (cap0 : Nat) (x0 : List Int) (_ : x0.length ≤ 9223372036854775807) (a1 : Option Addr) (cap1 : Nat) (x1 : List RatD) (hn1 : x1.length ≤ 9223372036854775807) (a2 : Option Addr) (cap2 : Nat) (x2 : List RatD) (hn2 : x2.length ≤ 9223372036854775807) (w : World) (r0 : Els 1 rI64 w 0 w.heap.size a0 x0) (r1 : Els 2 rRat w 0 w.heap.size a1 x1) (r2 : Els 2 rRat w 0 w.heap.size a2 x2) :
    Calls Try.prog 12 #[.slice a0 x0.length cap0, .slice a1 x1.length cap1, .slice a2 x2.length cap2] w fun e w' => e = .returned (.bool true) ∧ Below w.heap.size w w' :=
  CompareAGMBoundsC.walk a0 cap0 x0 a1 cap1 x1 a2 cap2 x2 w hn1 hn2 (els_rd r0) r1 r2 fun h0 h1 => ⟨cmpZ x0 x1 x2, cmpOk x0 x1 x2,
    fun W b0 bap0 b1 bap1 b2 bap2 q0 q1 q2 => spec_cmpagm b0 b1 b2 bap0 bap1 bap2 x0 x1 x2 W h0 (by omega) (by omega) (els_le r0) q0 q1 q2,
    fun W b0 bap0 b1 bap1 b2 bap2 q0 q1 q2 => impl_cmpagm b0 b1 b2 bap0 bap1 bap2 x0 x1 x2 W h0 (by omega) (by omega) (els_le r0) q0 q1 q2⟩

end Go.Proofs.Ytaiimjbdhcjobaa.CompareAGMBoundsW
