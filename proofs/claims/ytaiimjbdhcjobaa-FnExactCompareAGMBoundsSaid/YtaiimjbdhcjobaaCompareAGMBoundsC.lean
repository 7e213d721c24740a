/- The walk of law FnExactCompareAGMBounds, at every argument, out of the contracts of the model's function and the program's. -/
import Derived.Test.YtaiimjbdhcjobaaRats
import Derived.Test.YtaiimjbdhcjobaaIntLaw
import Derived.Test.YtaiimjbdhcjobaaLawKit
namespace Go.Proofs.Ytaiimjbdhcjobaa.CompareAGMBoundsC
open Go.RowKit
open Go.Proofs.Ytaiimjbdhcjobaa.Num Go.Proofs.Ytaiimjbdhcjobaa.IntRow Go.Proofs.Ytaiimjbdhcjobaa.IntLaw Go.Proofs.Ytaiimjbdhcjobaa.Rdr Go.Proofs.Ytaiimjbdhcjobaa.HasL Go.Proofs.Ytaiimjbdhcjobaa.LawKit Go.Proofs.Ytaiimjbdhcjobaa.RatLaw Go.Proofs.Ytaiimjbdhcjobaa.Rats
set_option linter.unusedVariables false

/-- A copy of a row: a row of the call's own. -/
theorem to_ints' (a : Option Addr) (cap B : Nat) (xs : List Int) (w : World) (hn : xs.length ≤ 1048576) (h : Rd w B a xs) (hB : B ≤ w.heap.size) :
    Calls Try.prog 59 #[.slice a xs.length cap] w fun e w' => ∃ g, e = .returned (.slice (some ⟨g, 0, none⟩) xs.length xs.length) ∧ w.heap.size ≤ g ∧ g < w'.heap.size ∧ Own w' g 3 (.slice (some ⟨g, 0, none⟩) xs.length xs.length) xs ∧ Below w.heap.size w w' := by
  refine (to_ints a cap B xs w hn h hB).mono ?_
  rintro e w' ⟨rfl, hat, hb⟩
  exact ⟨_, rfl, Nat.le_refl _, hat.lt, hat, hb⟩

set_option maxRecDepth 100000 in
set_option maxHeartbeats 4000000 in
theorem core (a0 : Option Addr) (cap0 : Nat) (x0 : List Int) (a1 : Option Addr) (cap1 : Nat) (x1 : List RatD) (a2 : Option Addr) (cap2 : Nat) (x2 : List RatD) (Z : Int) (ok : Bool) (w : World) (hx0 : x0.length ≤ 1048576) (ht : x1.length + x2.length ≤ 1048576) (r0 : Rd w w.heap.size a0 x0) (r1 : Els 2 rRat w 0 w.heap.size a1 x1) (r2 : Els 2 rRat w 0 w.heap.size a2 x2)
    (S : RowKit.Hid (∀ (W : World) (b0 : Option Addr) (bap0 : Nat) (b1 : Option Addr) (bap1 : Nat) (b2 : Option Addr) (bap2 : Nat), Rd W W.heap.size b0 x0 → Els 2 rRat W 0 W.heap.size b1 x1 → Els 2 rRat W 0 W.heap.size b2 x2 → Calls Try.prog 34 #[.slice b0 x0.length bap0, .slice b1 x1.length bap1, .slice b2 x2.length bap2] W fun e w' => e = .returned (.tuple #[.int .i64 Z, .bool ok]) ∧ Below W.heap.size W w'))
    (I : RowKit.Hid (∀ (W : World) (b0 : Option Addr) (bap0 : Nat) (b1 : Option Addr) (bap1 : Nat) (b2 : Option Addr) (bap2 : Nat), Rd W W.heap.size b0 x0 → Els 2 rRat W 0 W.heap.size b1 x1 → Els 2 rRat W 0 W.heap.size b2 x2 → Calls Try.prog 33 #[.slice b0 x0.length bap0, .slice b1 x1.length bap1, .slice b2 x2.length bap2] W fun e w' => e = .returned (.tuple #[.int .i64 Z, .bool ok]) ∧ Below W.heap.size W w')) :
    Calls Try.prog 12 #[.slice a0 x0.length cap0, .slice a1 x1.length cap1, .slice a2 x2.length cap2] w fun e w' => e = .returned (.bool true) ∧ Below w.heap.size w w' := by
  have B := hid (Below.refl w.heap.size w)
  have t_l0 : ¬ (1048576 : Int) < (x0.length : Int) := by omega
  have R0 := hid r0
  clear r0
  have A1 := hid (els_grown r1 B.out)
  have A2 := hid (els_grown r2 B.out)
  have hneZ : (Z != Z) = false := by simp
  have hneO : (ok != ok) = false := by simp
  go_enter Try.func12, Try.ntmps12
  have t_sz1 : ¬ ((1048576 - (x1.length : Nat) : Int) < 0) := by omega
  go_wp2_with fail
  refine (sz_rats _ _ x1.length (1048576) (1048576 - (x1.length : Nat)) _ (by omega) (by omega) (by omega) (hid (.inr ⟨by omega, by omega⟩))).mono ?_
  rintro e w' ⟨rfl, rfl⟩
  have t_sz2 : ¬ ((1048576 - (x1.length : Nat) - (x2.length : Nat) : Int) < 0) := by omega
  go_wp2_with fail
  refine (sz_rats _ _ x2.length (1048576 - (x1.length : Nat)) (1048576 - (x1.length : Nat) - (x2.length : Nat)) _ (by omega) (by omega) (by omega) (hid (.inr ⟨by omega, by omega⟩))).mono ?_
  rintro e w' ⟨rfl, rfl⟩
  go_wp2_with fail
  refine (to_ints' a0 cap0 w.heap.size x0 _ hx0 (R0.out.below B.out) B.out.size).mono ?_
  rintro e w1 ⟨g, rfl, _, _, hX, hb⟩
  replace A1 := hid (els_grown A1.out hb)
  replace A2 := hid (els_grown A2.out hb)
  replace B := hid (B.out.trans (hb.mono B.out.size))
  clear hb
  have Xs0 := hid hX
  clear hX
  go_wp2_with fail
  refine (to_rats _ _ x1 0 _ _ (by omega) A1.out (Nat.le_refl _)).mono ?_
  rintro e w2 ⟨rfl, hd, _, hb, hlt⟩
  replace A1 := hid (els_grown A1.out hb)
  replace A2 := hid (els_grown A2.out hb)
  replace Xs0 := hid (Xs0.out.below' hb)
  replace B := hid (B.out.trans (hb.mono B.out.size))
  clear hb
  have Xs1 := hid (hd.up good_rat (Nat.zero_le _) (Nat.succ_le_of_lt hlt))
  clear hd hlt
  go_wp2_with fail
  refine (to_rats _ _ x2 0 _ _ (by omega) A2.out (Nat.le_refl _)).mono ?_
  rintro e w3 ⟨rfl, hd, _, hb, hlt⟩
  replace A1 := hid (els_grown A1.out hb)
  replace A2 := hid (els_grown A2.out hb)
  replace Xs0 := hid (Xs0.out.below' hb)
  replace Xs1 := hid (els_grown Xs1.out hb)
  replace B := hid (B.out.trans (hb.mono B.out.size))
  clear hb
  have Xs2 := hid (hd.up good_rat (Nat.zero_le _) (Nat.succ_le_of_lt hlt))
  clear hd hlt
  go_wp2_with fail
  refine (S.out _ _ _ _ _ _ _ (own_rd Xs0.out) Xs1.out Xs2.out).mono ?_
  rintro e w4 ⟨rfl, hb⟩
  replace A1 := hid (els_grown A1.out hb)
  replace A2 := hid (els_grown A2.out hb)
  replace Xs0 := hid (Xs0.out.below' hb)
  replace Xs1 := hid (els_grown Xs1.out hb)
  replace Xs2 := hid (els_grown Xs2.out hb)
  replace B := hid (B.out.trans (hb.mono B.out.size))
  clear hb
  clear Xs0
  clear Xs1
  clear Xs2
  go_wp2_with fail
  refine (to_ints' a0 cap0 w.heap.size x0 _ hx0 (R0.out.below B.out) B.out.size).mono ?_
  rintro e w5 ⟨g, rfl, _, _, hX, hb⟩
  replace A1 := hid (els_grown A1.out hb)
  replace A2 := hid (els_grown A2.out hb)
  replace B := hid (B.out.trans (hb.mono B.out.size))
  clear hb
  have X0 := hid hX
  clear hX
  go_wp2_with fail
  refine (to_rats _ _ x1 0 _ _ (by omega) A1.out (Nat.le_refl _)).mono ?_
  rintro e w6 ⟨rfl, hd, _, hb, hlt⟩
  replace A1 := hid (els_grown A1.out hb)
  replace A2 := hid (els_grown A2.out hb)
  replace X0 := hid (X0.out.below' hb)
  replace B := hid (B.out.trans (hb.mono B.out.size))
  clear hb
  have X1 := hid (hd.up good_rat (Nat.zero_le _) (Nat.succ_le_of_lt hlt))
  clear hd hlt
  go_wp2_with fail
  refine (to_rats _ _ x2 0 _ _ (by omega) A2.out (Nat.le_refl _)).mono ?_
  rintro e w7 ⟨rfl, hd, _, hb, hlt⟩
  replace A1 := hid (els_grown A1.out hb)
  replace A2 := hid (els_grown A2.out hb)
  replace X0 := hid (X0.out.below' hb)
  replace X1 := hid (els_grown X1.out hb)
  replace B := hid (B.out.trans (hb.mono B.out.size))
  clear hb
  have X2 := hid (hd.up good_rat (Nat.zero_le _) (Nat.succ_le_of_lt hlt))
  clear hd hlt
  go_wp2_with fail
  refine (I.out _ _ _ _ _ _ _ (own_rd X0.out) X1.out X2.out).mono ?_
  rintro e w8 ⟨rfl, hb⟩
  replace A1 := hid (els_grown A1.out hb)
  replace A2 := hid (els_grown A2.out hb)
  replace X0 := hid (X0.out.below' hb)
  replace X1 := hid (els_grown X1.out hb)
  replace X2 := hid (els_grown X2.out hb)
  replace B := hid (B.out.trans (hb.mono B.out.size))
  clear hb
  go_wp2_with fail
  refine (to_ints' a0 cap0 w.heap.size x0 _ hx0 (R0.out.below B.out) B.out.size).mono ?_
  rintro e w9 ⟨g, rfl, _, _, hX, hb⟩
  replace A1 := hid (els_grown A1.out hb)
  replace A2 := hid (els_grown A2.out hb)
  replace X0 := hid (X0.out.below' hb)
  replace X1 := hid (els_grown X1.out hb)
  replace X2 := hid (els_grown X2.out hb)
  replace B := hid (B.out.trans (hb.mono B.out.size))
  clear hb
  have E := hid hX
  clear hX
  go_wp2_with fail
  refine (eq_ints _ _ _ _ x0 _ _ _ hx0 (own_rd X0.out) (own_rd E.out) (Nat.le_refl _) (Nat.le_refl _)).mono ?_
  rintro e w10 ⟨rfl, hb⟩
  replace A1 := hid (els_grown A1.out hb)
  replace A2 := hid (els_grown A2.out hb)
  replace X0 := hid (X0.out.below' hb)
  replace X1 := hid (els_grown X1.out hb)
  replace X2 := hid (els_grown X2.out hb)
  replace E := hid (E.out.below' hb)
  replace B := hid (B.out.trans (hb.mono B.out.size))
  clear hb
  clear E
  go_wp2_with fail
  refine (to_rats _ _ x1 0 _ _ (by omega) A1.out (Nat.le_refl _)).mono ?_
  rintro e w11 ⟨rfl, hd, _, hb, hlt⟩
  replace A1 := hid (els_grown A1.out hb)
  replace A2 := hid (els_grown A2.out hb)
  replace X0 := hid (X0.out.below' hb)
  replace X1 := hid (els_grown X1.out hb)
  replace X2 := hid (els_grown X2.out hb)
  replace B := hid (B.out.trans (hb.mono B.out.size))
  clear hb
  have E := hid (hd.up good_rat (Nat.zero_le _) (Nat.succ_le_of_lt hlt))
  clear hd hlt
  go_wp2_with fail
  refine (eq_rats _ _ _ _ x1 0 _ 0 _ _ (by omega) X1.out E.out (Nat.le_refl _) (Nat.le_refl _)).mono ?_
  rintro e w12 ⟨rfl, hb⟩
  replace A1 := hid (els_grown A1.out hb)
  replace A2 := hid (els_grown A2.out hb)
  replace X0 := hid (X0.out.below' hb)
  replace X1 := hid (els_grown X1.out hb)
  replace X2 := hid (els_grown X2.out hb)
  replace E := hid (els_grown E.out hb)
  replace B := hid (B.out.trans (hb.mono B.out.size))
  clear hb
  clear E
  go_wp2_with fail
  refine (to_rats _ _ x2 0 _ _ (by omega) A2.out (Nat.le_refl _)).mono ?_
  rintro e w13 ⟨rfl, hd, _, hb, hlt⟩
  replace A1 := hid (els_grown A1.out hb)
  replace A2 := hid (els_grown A2.out hb)
  replace X0 := hid (X0.out.below' hb)
  replace X1 := hid (els_grown X1.out hb)
  replace X2 := hid (els_grown X2.out hb)
  replace B := hid (B.out.trans (hb.mono B.out.size))
  clear hb
  have E := hid (hd.up good_rat (Nat.zero_le _) (Nat.succ_le_of_lt hlt))
  clear hd hlt
  go_wp2_with fail
  refine (eq_rats _ _ _ _ x2 0 _ 0 _ _ (by omega) X2.out E.out (Nat.le_refl _) (Nat.le_refl _)).mono ?_
  rintro e w14 ⟨rfl, hb⟩
  replace A1 := hid (els_grown A1.out hb)
  replace A2 := hid (els_grown A2.out hb)
  replace X0 := hid (X0.out.below' hb)
  replace X1 := hid (els_grown X1.out hb)
  replace X2 := hid (els_grown X2.out hb)
  replace E := hid (els_grown E.out hb)
  replace B := hid (B.out.trans (hb.mono B.out.size))
  clear hb
  clear E
  go_wp2_with fail
  go_ret
  exact ⟨rfl, B.out⟩

set_option maxRecDepth 100000 in
theorem walk (a0 : Option Addr) (cap0 : Nat) (x0 : List Int) (a1 : Option Addr) (cap1 : Nat) (x1 : List RatD) (a2 : Option Addr) (cap2 : Nat) (x2 : List RatD) (w : World) (hn1 : x1.length ≤ 9223372036854775807) (hn2 : x2.length ≤ 9223372036854775807) (r0 : Rd w w.heap.size a0 x0) (r1 : Els 2 rRat w 0 w.heap.size a1 x1) (r2 : Els 2 rRat w 0 w.heap.size a2 x2) (SI : x0.length ≤ 1048576 → x1.length + x2.length ≤ 1048576 → ∃ (Z : Int) (ok : Bool), (∀ (W : World) (b0 : Option Addr) (bap0 : Nat) (b1 : Option Addr) (bap1 : Nat) (b2 : Option Addr) (bap2 : Nat), Rd W W.heap.size b0 x0 → Els 2 rRat W 0 W.heap.size b1 x1 → Els 2 rRat W 0 W.heap.size b2 x2 → Calls Try.prog 34 #[.slice b0 x0.length bap0, .slice b1 x1.length bap1, .slice b2 x2.length bap2] W fun e w' => e = .returned (.tuple #[.int .i64 Z, .bool ok]) ∧ Below W.heap.size W w') ∧ (∀ (W : World) (b0 : Option Addr) (bap0 : Nat) (b1 : Option Addr) (bap1 : Nat) (b2 : Option Addr) (bap2 : Nat), Rd W W.heap.size b0 x0 → Els 2 rRat W 0 W.heap.size b1 x1 → Els 2 rRat W 0 W.heap.size b2 x2 → Calls Try.prog 33 #[.slice b0 x0.length bap0, .slice b1 x1.length bap1, .slice b2 x2.length bap2] W fun e w' => e = .returned (.tuple #[.int .i64 Z, .bool ok]) ∧ Below W.heap.size W w')) :
    Calls Try.prog 12 #[.slice a0 x0.length cap0, .slice a1 x1.length cap1, .slice a2 x2.length cap2] w fun e w' => e = .returned (.bool true) ∧ Below w.heap.size w w' := by
  by_cases hx0 : 1048576 < x0.length
  · clear SI
    have t_l0 : (1048576 : Int) < (x0.length : Int) := by omega
    go_enter Try.func12, Try.ntmps12
    go_wp2
    go_ret
    exact ⟨rfl, Below.refl _ _⟩
  · by_cases ht1 : 1048576 < x1.length
    · clear SI
      have t_l0 : ¬ (1048576 : Int) < (x0.length : Int) := by omega
      go_enter Try.func12, Try.ntmps12
      go_wp2_with fail
      refine (sz_rats _ _ x1.length (1048576) (-1) _ (by omega) (by omega) (by omega) (hid (.inl ⟨by omega, rfl⟩))).mono ?_
      rintro e w' ⟨rfl, rfl⟩
      go_wp2
      go_ret
      exact ⟨rfl, Below.refl _ _⟩
    · by_cases ht2 : 1048576 < x1.length + x2.length
      · clear SI
        have t_l0 : ¬ (1048576 : Int) < (x0.length : Int) := by omega
        go_enter Try.func12, Try.ntmps12
        have t_sz1 : ¬ ((1048576 - (x1.length : Nat) : Int) < 0) := by omega
        go_wp2_with fail
        refine (sz_rats _ _ x1.length (1048576) (1048576 - (x1.length : Nat)) _ (by omega) (by omega) (by omega) (hid (.inr ⟨by omega, by omega⟩))).mono ?_
        rintro e w' ⟨rfl, rfl⟩
        go_wp2_with fail
        refine (sz_rats _ _ x2.length (1048576 - (x1.length : Nat)) (-1) _ (by omega) (by omega) (by omega) (hid (.inl ⟨by omega, rfl⟩))).mono ?_
        rintro e w' ⟨rfl, rfl⟩
        go_wp2
        go_ret
        exact ⟨rfl, Below.refl _ _⟩
      · obtain ⟨Z, ok, S, I⟩ := SI (by omega) (by omega)
        exact core a0 cap0 x0 a1 cap1 x1 a2 cap2 x2 Z ok w (by omega) (by omega) r0 r1 r2 (hid S) (hid I)
end Go.Proofs.Ytaiimjbdhcjobaa.CompareAGMBoundsC
