/- The walk of law FnExactPowBigInt. -/
import Derived.Test.YtanfakpeongfjaaBigPow
import Derived.Test.YtanfakpeongfjaaBigPowS
namespace Go.Proofs.Ytanfakpeongfjaa.PowBigIntW
open Go.RowKit
open Go.Proofs.Ytanfakpeongfjaa.Num Go.Proofs.Ytanfakpeongfjaa.IntRow Go.Proofs.Ytanfakpeongfjaa.IntLaw Go.Proofs.Ytanfakpeongfjaa.Dig Go.Proofs.Ytanfakpeongfjaa.BigValid Go.Proofs.Ytanfakpeongfjaa.BigFrom Go.Proofs.Ytanfakpeongfjaa.BigPow Go.Proofs.Ytanfakpeongfjaa.BigPowS
set_option linter.unusedVariables false

theorem core (n k : Int) (xs : List Int) (b : Bool) (w : World) (hx : xs.length ≤ 1048576)
    (S : RowKit.Hid (∀ W, Calls Try.prog 38 #[.int .i64 n, .int .i64 k] W fun e w' => ∃ a cap, e = .returned (.tuple #[.agg #[.slice a xs.length cap], .bool b]) ∧ Own w' W.heap.size 3 (.slice a xs.length cap) xs ∧ Below W.heap.size W w'))
    (I : RowKit.Hid (∀ W, Calls Try.prog 37 #[.int .i64 n, .int .i64 k] W fun e w' => ∃ a cap, e = .returned (.tuple #[.agg #[.slice a xs.length cap], .bool b]) ∧ Own w' W.heap.size 3 (.slice a xs.length cap) xs ∧ Below W.heap.size W w')) :
    Calls Try.prog 10 #[.int .i64 n, .int .i64 k] w fun e w' => e = .returned (.bool true) ∧ Below w.heap.size w w' := by
  have hneg : ¬ (1 + (xs.length : Int) < 0) := by omega
  have hne : ((1 + (xs.length : Int)) != (1 + (xs.length : Int))) = false := by simp
  have hnb : (b != b) = false := by simp
  go_enter Try.func10, Try.ntmps10
  go_wp2_with fail
  refine (S.out _).mono ?_
  rintro e w1 ⟨a0, cap0, rfl, V0, hb⟩
  have L0 := hid V0.lt
  replace V0 := hid V0
  have B := hid hb
  clear hb
  go_wp2_with fail
  have O3 := hid (one_new w1 (.slice a0 xs.length cap0) 34)
  replace V0 := hid (V0.out.alloc (.cells #[(.slice a0 xs.length cap0)] 34))
  replace B := hid (B.out.alloc B.out.size (.cells #[(.slice a0 xs.length cap0)] 34))
  refine (I.out _).mono ?_
  rintro e w2 ⟨a1, cap1, rfl, G, hb⟩
  have hs1 : w.heap.size ≤ w1.heap.size + 1 := by have := B.out.size; simp only [World.size_alloc] at this; exact this
  have L1 := hid G.lt
  replace G := hid G
  replace O3 := hid (O3.out.below' hb)
  replace V0 := hid (V0.out.below' hb)
  replace B := hid (B.out.trans (hb.mono B.out.size))
  clear hb
  obtain ⟨cO3_1, _, zO3_1⟩ := O3.out
  go_wp2_with fail
  clear cO3_1 zO3_1
  have O4 := hid (one_new w2 (.slice a1 xs.length cap1) 34)
  replace O3 := hid (O3.out.alloc (.cells #[(.slice a1 xs.length cap1)] 34))
  replace V0 := hid (V0.out.alloc (.cells #[(.slice a1 xs.length cap1)] 34))
  replace G := hid (G.out.alloc (.cells #[(.slice a1 xs.length cap1)] 34))
  replace B := hid (B.out.alloc B.out.size (.cells #[(.slice a1 xs.length cap1)] 34))
  refine (eq_big _ _ _ _ xs _ _ _ hx (own_rd G.out) (own_rd V0.out) (Nat.le_refl _) (Nat.le_refl _)).mono ?_
  rintro e w3 ⟨rfl, hb⟩
  replace O3 := hid (O3.out.below' hb)
  replace O4 := hid (O4.out.below' hb)
  replace V0 := hid (V0.out.below' hb)
  replace G := hid (G.out.below' hb)
  replace B := hid (B.out.trans (hb.mono B.out.size))
  clear hb
  obtain ⟨cO3_2, _, zO3_2⟩ := O3.out
  obtain ⟨cO4_2, _, zO4_2⟩ := O4.out
  go_wp2_with fail
  refine (mark_big _ _ 1 xs _ hx (by omega) (by omega) G.out).mono ?_
  rintro e w4 ⟨rfl, G4, hg⟩
  clear cO3_2 zO3_2 cO4_2 zO4_2
  replace O3 := hid (O3.out.grown hg (fun e => by have h0 := (L1.out _ e).1; simp only [World.size_alloc] at h0; omega))
  replace O4 := hid (O4.out.grown hg (fun e => by have h0 := (L1.out _ e).2; omega))
  replace V0 := hid (V0.out.grown hg (fun k hk e => by have h0 := (L1.out _ e).1; have h1 := (L0.out _ hk).2; simp only [World.size_alloc] at h0; omega))
  replace B := hid (B.out.grown hg B.out.size (fun k hk => by have h0 := (L1.out _ hk).1; simp only [World.size_alloc] at h0; omega))
  replace G := hid G4
  clear G4 hg
  obtain ⟨cO3_3, _, zO3_3⟩ := O3.out
  obtain ⟨cO4_3, _, zO4_3⟩ := O4.out
  go_wp2_with fail
  refine (held_big _ _ 1 xs.length _ _ hx (by omega) (by omega) (own_rd' G.out (marks_length _ _)) (Nat.le_refl _)).mono ?_
  rintro e w5 ⟨rfl, hb⟩
  clear cO3_3 zO3_3 cO4_3 zO4_3
  replace O3 := hid (O3.out.below' hb)
  replace O4 := hid (O4.out.below' hb)
  replace V0 := hid (V0.out.below' hb)
  replace G := hid (G.out.below' hb)
  replace B := hid (B.out.trans (hb.mono B.out.size))
  clear hb
  obtain ⟨cO3_4, _, zO3_4⟩ := O3.out
  obtain ⟨cO4_4, _, zO4_4⟩ := O4.out
  go_wp2_with fail
  refine (I.out _).mono ?_
  rintro e w6 ⟨a2, cap2, rfl, H, hb⟩
  replace H := hid H
  clear cO3_4 zO3_4 cO4_4 zO4_4
  replace O3 := hid (O3.out.below' hb)
  replace O4 := hid (O4.out.below' hb)
  replace V0 := hid (V0.out.below' hb)
  replace G := hid (G.out.below' hb)
  replace B := hid (B.out.trans (hb.mono B.out.size))
  clear hb
  obtain ⟨cO3_5, _, zO3_5⟩ := O3.out
  obtain ⟨cO4_5, _, zO4_5⟩ := O4.out
  go_wp2_with fail
  clear cO3_5 zO3_5 cO4_5 zO4_5
  have O7 := hid (one_new w6 (.slice a2 xs.length cap2) 34)
  replace O3 := hid (O3.out.alloc (.cells #[(.slice a2 xs.length cap2)] 34))
  replace O4 := hid (O4.out.alloc (.cells #[(.slice a2 xs.length cap2)] 34))
  replace V0 := hid (V0.out.alloc (.cells #[(.slice a2 xs.length cap2)] 34))
  replace G := hid (G.out.alloc (.cells #[(.slice a2 xs.length cap2)] 34))
  replace H := hid (H.out.alloc (.cells #[(.slice a2 xs.length cap2)] 34))
  replace B := hid (B.out.alloc B.out.size (.cells #[(.slice a2 xs.length cap2)] 34))
  refine (eq_big _ _ _ _ xs _ _ _ hx (own_rd H.out) (own_rd V0.out) (Nat.le_refl _) (Nat.le_refl _)).mono ?_
  rintro e w7 ⟨rfl, hb⟩
  replace O3 := hid (O3.out.below' hb)
  replace O4 := hid (O4.out.below' hb)
  replace O7 := hid (O7.out.below' hb)
  replace V0 := hid (V0.out.below' hb)
  replace G := hid (G.out.below' hb)
  replace H := hid (H.out.below' hb)
  replace B := hid (B.out.trans (hb.mono B.out.size))
  clear hb
  obtain ⟨cO3_6, _, zO3_6⟩ := O3.out
  obtain ⟨cO4_6, _, zO4_6⟩ := O4.out
  obtain ⟨cO7_6, _, zO7_6⟩ := O7.out
  go_wp2_with fail
  refine (held_big _ _ 1 xs.length _ _ hx (by omega) (by omega) (own_rd' G.out (marks_length _ _)) (Nat.le_refl _)).mono ?_
  rintro e w8 ⟨rfl, hb⟩
  clear cO3_6 zO3_6 cO4_6 zO4_6 cO7_6 zO7_6
  replace O3 := hid (O3.out.below' hb)
  replace O4 := hid (O4.out.below' hb)
  replace O7 := hid (O7.out.below' hb)
  replace V0 := hid (V0.out.below' hb)
  replace G := hid (G.out.below' hb)
  replace H := hid (H.out.below' hb)
  replace B := hid (B.out.trans (hb.mono B.out.size))
  clear hb
  obtain ⟨cO3_7, _, zO3_7⟩ := O3.out
  obtain ⟨cO4_7, _, zO4_7⟩ := O4.out
  obtain ⟨cO7_7, _, zO7_7⟩ := O7.out
  go_wp2_with fail
  go_ret
  exact ⟨rfl, B.out⟩

theorem walk (n : Int) (hn : -9223372036854775808 ≤ n ∧ n ≤ 9223372036854775807) (k : Int) (hk : -9223372036854775808 ≤ k ∧ k ≤ 9223372036854775807) (w : World) :
    Calls Try.prog 10 #[.int .i64 n, .int .i64 k] w fun e w' => e = .returned (.bool true) ∧ Below w.heap.size w w' := by
  by_cases h : n < 0 ∨ k < 0 ∨ 100 < k
  · refine core n k [] false w (by simp) (hid fun W => ?_) (hid fun W => ?_)
    · refine (spec_pow_no n k W h).mono ?_
      rintro e w' ⟨he, hb⟩
      exact ⟨none, 0, he, Own.nil _ _ _, hb⟩
    · refine (impl_pow_no n k W h).mono ?_
      rintro e w' ⟨he, hb⟩
      exact ⟨none, 0, he, Own.nil _ _ _, hb⟩
  · obtain ⟨b, rfl⟩ := Int.eq_ofNat_of_zero_le (show 0 ≤ n by omega)
    obtain ⟨j, rfl⟩ := Int.eq_ofNat_of_zero_le (show 0 ≤ k by omega)
    exact core b j (px b j) (pb b j) w (by have := px_length b j; omega) (hid fun W => spec_pow_yes b j W (by omega) (by omega)) (hid fun W => impl_pow_yes b j W (by omega) (by omega))
end Go.Proofs.Ytanfakpeongfjaa.PowBigIntW
