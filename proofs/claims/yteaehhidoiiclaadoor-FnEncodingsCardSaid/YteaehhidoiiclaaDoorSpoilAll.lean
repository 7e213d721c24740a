/- The draw that spoils a text (spec.l1Spoil), whole; how long its answer is. -/
import Derived.Test.YteaehhidoiiclaaDoorSpoil1
import Derived.Test.YteaehhidoiiclaaDoorSpoil3
namespace Go.Proofs.YteaehhidoiiclaaDoor.Spoil
open Go.ChangeShapes Go.WideShapes Go.ChangeAt Go.RowKit
open Go.Proofs.YteaehhidoiiclaaDoor.Num Go.Proofs.YteaehhidoiiclaaDoor.Row Go.Proofs.YteaehhidoiiclaaDoor.Cur Go.Proofs.YteaehhidoiiclaaDoor.Draw Go.Proofs.YteaehhidoiiclaaDoor.NumDraw Go.Proofs.YteaehhidoiiclaaDoor.TextDraw
set_option linter.unusedVariables false

theorem spoil_any (c : Nat) (sv : Value) (l : List UInt8) (s : St) (w : World) (t : ByteArray) (ht : t.size ≤ 100) (hc : Cu w c sv l s) :
    Calls Tryd.prog 29 #[.pointer (some ⟨c, 0, none⟩), .string t] w fun e w' => StrAt c sv l (spoilF l t s) w e w' := by
  unfold spoilF
  by_cases h0 : t.size = 0
  · rw [if_pos h0]
    exact spoilE c sv l s w t h0 hc
  · rw [if_neg h0]
    simp only
    have B1 := below_any c (t.size : Nat) sv l s w hc (by omega)
    have d1 := belowF_bounds l (t.size : Nat) s (by omega)
    generalize belowF l (t.size : Nat) s = r1 at B1 d1 ⊢
    obtain ⟨x, s1⟩ := r1
    simp only at *
    obtain ⟨x0, x1⟩ := d1
    obtain ⟨n, rfl⟩ := Int.eq_ofNat_of_zero_le x0
    simp only [Int.toNat_natCast]
    have hn : n < t.size := by omega
    have B2 := fun w h => below_any c 4 sv l s1 w h (by omega)
    generalize belowF l 4 s1 = r2 at B2 ⊢
    obtain ⟨q, s2⟩ := r2
    simp only at *
    by_cases hq0 : q = 0
    · subst hq0
      rw [if_pos rfl]
      exact spoil0 c sv l s1 s2 w t ht n hn B1 B2
    · rw [if_neg hq0]
      by_cases hq1 : q = 1
      · subst hq1
        rw [if_pos rfl]
        exact spoil1 c sv l s1 s2 w t ht n hn B1 B2
      · rw [if_neg hq1]
        by_cases hq2 : q = 2
        · subst hq2
          rw [if_pos rfl]
          exact spoil2 c sv l s1 s2 w t ht n hn B1 B2
        · rw [if_neg hq2]
          exact spoil3 q c sv l s1 s2 w t ht n hn B1 B2 hq0 hq1 hq2

theorem spoilF_size (l : List UInt8) (t : ByteArray) (s : St) (ht : t.size ≤ 100) : (spoilF l t s).1.size ≤ 202 := by
  unfold spoilF
  have h1 := textF_length l 3 s
  split
  · show (textF l 3 s).1.toArray.size ≤ 202
    simp
    have : ((3 : Nat) : Int) = 3 := rfl
    rw [this] at h1
    omega
  · simp only
    split
    · simp only [ByteArray.size_append, ByteArray.size_extract]; omega
    · split
      · simp only [ByteArray.size_append, ByteArray.size_extract]
        show _ + 1 + _ ≤ 202
        omega
      · split
        · simp only [ByteArray.size_extract]; omega
        · simp only [ByteArray.size_append, ByteArray.size_extract]
          show _ + 1 + _ ≤ 202
          omega

end Go.Proofs.YteaehhidoiiclaaDoor.Spoil
