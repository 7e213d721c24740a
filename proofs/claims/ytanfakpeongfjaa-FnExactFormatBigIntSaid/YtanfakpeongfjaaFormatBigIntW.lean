/-
  The walk of law FnExactFormatBigInt.
-/
import Derived.Test.YtanfakpeongfjaaRows
import Derived.Test.YtanfakpeongfjaaStep
import Derived.Test.YtanfakpeongfjaaBigArg
import Derived.Test.YtanfakpeongfjaaIntLaw
import Derived.Test.YtanfakpeongfjaaBigFmt
import Derived.Test.YtanfakpeongfjaaKeep
import Derived.Test.YtanfakpeongfjaaKept
import Derived.Deep.RegionHeld3
namespace Go.Proofs.Ytanfakpeongfjaa.FormatBigIntW
open Go.ChangeShapes Go.WideShapes Go.ChangeAt Go.RowKit
open Go.Proofs.Ytanfakpeongfjaa.Num Go.Proofs.Ytanfakpeongfjaa.IntRow Go.Proofs.Ytanfakpeongfjaa.IntLaw Go.Proofs.Ytanfakpeongfjaa.BigValid Go.Proofs.Ytanfakpeongfjaa.BigFmt Go.Proofs.Ytanfakpeongfjaa.Dig Go.Proofs.Ytanfakpeongfjaa.Keep Go.Proofs.Ytanfakpeongfjaa.Kept
set_option linter.unusedVariables false

theorem core (a : Option Addr) (cap : Nat) (xs : List Int) (t : ByteArray) (w : World) (hn1 : xs.length ≤ 1048576) (hr : Rd w w.heap.size a xs)
    (S : RowKit.Hid (∀ (W : World) (g : Nat), At W g 3 xs.length xs → Calls Try.prog 31 #[.agg #[.slice (some ⟨g, 0, none⟩) xs.length xs.length]] W fun e w' => e = .returned (.string t) ∧ Below W.heap.size W w'))
    (I : RowKit.Hid (∀ (W : World) (g : Nat), At W g 3 xs.length xs → Calls Try.prog 30 #[.agg #[.slice (some ⟨g, 0, none⟩) xs.length xs.length]] W fun e w' => e = .returned (.string t) ∧ Below W.heap.size W w')) :
    Calls Try.prog 12 #[.agg #[.slice a xs.length cap]] w fun e w' => e = .returned (.bool true) ∧ Below w.heap.size w w' := by
  have K0 := hid (one_new w (.slice a xs.length cap) 47)
  go_enter Try.func12, Try.ntmps12
  go_wp2_with fail
  refine (sz_big_ok a xs.length cap 1048576 _ (by omega) (by omega)).mono ?_
  rintro e w1 ⟨rfl, hb1⟩
  obtain ⟨c0, _, z0⟩ := K0.out.below' hb1
  have B1 := hid (((Below.refl w.heap.size w).alloc (Nat.le_refl _) _).trans (hb1.mono (by simp)))
  have ht : ¬ (1048576 - (xs.length : Int) < 0) := by omega
  go_wp2_with fail
  refine (to_big a cap w.heap.size xs _ hn1 (hr.below B1.out) (by omega)).mono ?_
  rintro e w2 ⟨g2, rfl, hg2, hat2, hb2⟩
  have B2 := hid (B1.out.trans (hb2.mono (by omega)))
  obtain ⟨c1, _, z1⟩ := (K0.out.below' hb1).below' hb2
  clear c0
  go_wp2_with fail
  refine (S.out _ g2 hat2).mono ?_
  rintro e w3 ⟨rfl, hb3⟩
  have B3 := hid (B2.out.trans (hb3.mono (by omega)))
  obtain ⟨c2, _, z2⟩ := ((K0.out.below' hb1).below' hb2).below' hb3
  clear c1
  go_wp2_with fail
  refine (to_big a cap w.heap.size xs _ hn1 (hr.below B3.out) (by omega)).mono ?_
  rintro e w4 ⟨g4, rfl, hg4, hat4, hb4⟩
  have B4 := hid (B3.out.trans (hb4.mono (by omega)))
  have z3' : w.heap.size ≤ w4.heap.size := by have := hb4.size; omega
  obtain ⟨c3, _, z3⟩ := (((K0.out.below' hb1).below' hb2).below' hb3).below' hb4
  clear c2
  go_wp2_with fail
  refine (I.out _ g4 (hat4.alloc _)).mono ?_
  rintro e w5 ⟨rfl, hb5⟩
  have B5 := hid ((B4.out.alloc z3' _).trans (hb5.mono (by simp; omega)))
  have K4 := hid (((one_new w4 (.slice (some ⟨g4, 0, none⟩) xs.length xs.length) 34)).below' hb5)
  obtain ⟨c4, _, z4⟩ := ((((K0.out.below' hb1).below' hb2).below' hb3).below' hb4).alloc (.cells #[.slice (some ⟨g4, 0, none⟩) xs.length xs.length] 34) |>.below' hb5
  obtain ⟨c5, _, z5⟩ := K4.out
  have R5 := hid (hr.below B5.out)
  have A5 := hid (((hat4.alloc (.cells #[.slice (some ⟨g4, 0, none⟩) xs.length xs.length] 34)).below hb5 (hat4.alloc _).lt).rd)
  have hz4 := hat4.lt
  have hz5 := hb5.size
  simp only [World.size_alloc] at hz5
  have hk := kp_refl w5
  clear c3 hat4 hat2 hb1 hb2 hb3 hb4 hb5 K0 hr
  go_wp2_with fail
  go_region_held3 (fun w' => w'.cell? ⟨w.heap.size, 0, none⟩ = some (.slice a xs.length cap) ∧ w'.cell? ⟨w4.heap.size, 0, none⟩ = some (.slice (some ⟨g4, 0, none⟩) xs.length xs.length) ∧ Kp w5 0 w')
    (first
      | (go_split_ands
         repeat' apply And.intro
         all_goals (first | (with_reducible assumption) | (with_reducible exact cell_drew (by assumption)) | (with_reducible exact Kp.drew (by assumption)) | (with_reducible exact Kp.cell (by assumption) hb6 (by omega) (by assumption)) | (with_reducible exact Kp.call (by assumption) hb6))))
    (first
      | (go_split_ands; go_at_call 40; (with_reducible refine (to_big _ _ w.heap.size xs _ hn1 (rd_kp R5.out (by with_reducible assumption) (by omega)) (kp_le (by with_reducible assumption) (by omega))).mono ?_); rintro e w6 ⟨g6, rfl, hg6, hat6, hb6⟩)
      | (go_split_ands; go_at_call 42; (with_reducible refine (eq_big _ _ _ _ xs (g4 + 1) (g6 + 1) _ hn1 (rd_kp A5.out (by with_reducible assumption) (by omega)) (by first | exact hat6.rd | exact hat6.drew.rd) (kp_le (by with_reducible assumption) (by omega)) (by first | exact Nat.succ_le_of_lt hat6.lt | exact Nat.succ_le_of_lt hat6.drew.lt)).mono ?_); rintro e w7 ⟨rfl, hb6⟩))
  go_wp2_with fail
  go_ret
  go_split_ands
  exact ⟨rfl, B5.out.trans ((Kp.bel (n := 0) (by with_reducible assumption)).mono (by omega))⟩

theorem walk (a : Option Addr) (n cap : Nat) (hn : n ≤ 9223372036854775807) (xs : List Int) (hl : xs.length = n) (w : World) (hr : Rd w w.heap.size a xs) :
    Calls Try.prog 12 #[.agg #[.slice a n cap]] w fun e w' => e = .returned (.bool true) ∧ Below w.heap.size w w' := by
  by_cases hb : 1048576 < n
  · go_enter Try.func12, Try.ntmps12
    go_wp2_with fail
    refine (sz_big_over a n cap 1048576 _ (by omega) (by omega) hn).mono ?_
    rintro e w1 ⟨rfl, hb1⟩
    go_wp2
    go_ret
    exact ⟨rfl, ((Below.refl _ _).alloc (Nat.le_refl _) _).trans (hb1.mono (by simp))⟩
  · subst hl
    cases hv : vb xs with
    | false =>
      exact core a cap xs ⟨#[]⟩ w (by omega) hr (hid fun W g h => spec_fmt_no _ _ _ xs W (by omega) h.rd h.lt hv) (hid fun W g h => impl_fmt_no _ _ _ xs W (by omega) h.rd h.lt hv)
    | true =>
      obtain ⟨ns, rfl, hN, hnl⟩ := vb_true hv
      exact core a cap (ci ns) ⟨(fm ns).toArray⟩ w (by omega) hr (hid fun W g h => spec_fmt_yes _ _ _ _ ns W hN (ci_length ns).symm (by rw [ci_length]; exact hnl) h.rd h.lt) (hid fun W g h => impl_fmt_yes _ _ _ _ ns W hN (ci_length ns).symm (by rw [ci_length]; exact hnl) h.rd h.lt)

end Go.Proofs.Ytanfakpeongfjaa.FormatBigIntW
