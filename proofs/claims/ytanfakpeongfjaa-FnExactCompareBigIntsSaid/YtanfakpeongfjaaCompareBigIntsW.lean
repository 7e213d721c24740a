/- The walk of law FnExactCompareBigInts, at every two arguments. -/
import Derived.Test.YtanfakpeongfjaaCompareBigIntsC
import Derived.Test.YtanfakpeongfjaaBigCmp
import Derived.Test.YtanfakpeongfjaaBigCmpS
namespace Go.Proofs.Ytanfakpeongfjaa.CompareBigIntsW
open Go.RowKit
open Go.Proofs.Ytanfakpeongfjaa.Num Go.Proofs.Ytanfakpeongfjaa.IntRow Go.Proofs.Ytanfakpeongfjaa.IntLaw Go.Proofs.Ytanfakpeongfjaa.Dig Go.Proofs.Ytanfakpeongfjaa.BigValid Go.Proofs.Ytanfakpeongfjaa.CompareBigIntsC Go.Proofs.Ytanfakpeongfjaa.BigCmp Go.Proofs.Ytanfakpeongfjaa.BigCmpS
set_option linter.unusedVariables false

theorem walk (a1 : Option Addr) (n1 cap1 : Nat) (hn1 : n1 ≤ 9223372036854775807) (xs : List Int) (hl1 : xs.length = n1) (a2 : Option Addr) (n2 cap2 : Nat) (hn2 : n2 ≤ 9223372036854775807) (ys : List Int) (hl2 : ys.length = n2) (w : World) (r1 : Rd w w.heap.size a1 xs) (r2 : Rd w w.heap.size a2 ys) :
    Calls Try.prog 11 #[.agg #[.slice a1 n1 cap1], .agg #[.slice a2 n2 cap2]] w fun e w' => e = .returned (.bool true) ∧ Below w.heap.size w w' := by
  by_cases hb1 : 1048576 < n1
  · go_enter Try.func11, Try.ntmps11
    go_wp2_with fail
    refine (sz_big_over a1 n1 cap1 1048576 _ (by omega) (by omega) hn1).mono ?_
    rintro e w1 ⟨rfl, hb⟩
    go_wp2
    go_ret
    exact ⟨rfl, (((Below.refl _ _).alloc (Nat.le_refl _) _).alloc (by simp) _).trans (hb.mono (by simp; omega))⟩
  · by_cases hb2 : 1048576 < n1 + n2
    · have OB := hid (one_new (w.alloc (.cells #[.slice a1 n1 cap1] 47)) (.slice a2 n2 cap2) 47)
      simp only [World.size_alloc] at OB
      have t1 : ¬ (1048576 - (n1 : Int) < 0) := by omega
      go_enter Try.func11, Try.ntmps11
      go_wp2_with fail
      refine (sz_big_ok a1 n1 cap1 1048576 _ (by omega) (by omega)).mono ?_
      rintro e w1 ⟨rfl, hb⟩
      have hs := hb.size
      simp only [World.size_alloc] at hs
      obtain ⟨c1, _, z1⟩ := OB.out.below' hb
      go_wp2_with fail
      refine (sz_big_over a2 n2 cap2 (1048576 - (n1 : Int)) _ (by omega) (by omega) hn2).mono ?_
      rintro e w2 ⟨rfl, hb3⟩
      go_wp2
      go_ret
      exact ⟨rfl, ((((Below.refl _ _).alloc (Nat.le_refl _) _).alloc (by simp) _).trans (hb.mono (by simp; omega))).trans (hb3.mono (by omega))⟩
    · subst hl1 hl2
      cases hv : (vb xs && vb ys) with
      | false =>
        refine core a1 a2 cap1 cap2 xs ys 0 w (by omega) r1 r2 (hid fun W g1 g2 h1 h2 => ?_) (hid fun W g1 g2 h1 h2 => ?_)
        · exact spec_cmp_no _ _ _ _ _ _ xs ys W (by omega) (by omega) h1.rd h2.rd h1.lt h2.lt hv
        · exact impl_cmp_no _ _ _ _ _ _ xs ys W (by omega) (by omega) h1.rd h2.rd h1.lt h2.lt hv
      | true =>
        rw [Bool.and_eq_true] at hv
        obtain ⟨ns, rfl, hN, hnl⟩ := vb_true hv.1
        obtain ⟨ms, rfl, hM, hml⟩ := vb_true hv.2
        refine core a1 a2 cap1 cap2 (ci ns) (ci ms) (sg (vl ns) (vl ms)) w (by omega) r1 r2 (hid fun W g1 g2 h1 h2 => ?_) (hid fun W g1 g2 h1 h2 => ?_)
        · exact spec_cmp_yes _ _ _ _ _ _ _ _ ns ms W hN hM (ci_length ns).symm (ci_length ms).symm (by rw [ci_length]; exact hnl) (by rw [ci_length]; exact hml) h1.rd h2.rd h1.lt h2.lt
        · exact impl_cmp_yes _ _ _ _ _ _ _ _ ns ms W hN hM (ci_length ns).symm (ci_length ms).symm (by rw [ci_length]; exact hnl) (by rw [ci_length]; exact hml) h1.rd h2.rd h1.lt h2.lt
end Go.Proofs.Ytanfakpeongfjaa.CompareBigIntsW
