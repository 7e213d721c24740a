/- The draw of two ints for powers (spec.DrawPowBigInt): two small ints. -/
import Derived.Test.YtanfakpeongfjaaPick
namespace Go.Proofs.Ytanfakpeongfjaa.DrawPow
open Go.ChangeShapes Go.WideShapes Go.ChangeAt Go.RowKit
open Go.Proofs.Ytanfakpeongfjaa.Num Go.Proofs.Ytanfakpeongfjaa.Row Go.Proofs.Ytanfakpeongfjaa.Cur Go.Proofs.Ytanfakpeongfjaa.Draw Go.Proofs.Ytanfakpeongfjaa.Pick
set_option linter.unusedVariables false

/-- Two small ints; nothing of what was there is turned. -/
def TwoSmall (w : World) (e : Ending) (w' : World) : Prop :=
  ∃ n k : Int, e = .returned (.tuple #[.int .i64 n, .int .i64 k]) ∧ (-1 ≤ n ∧ n ≤ 16) ∧ (-1 ≤ k ∧ k ≤ 101) ∧ Below w.heap.size w w'

def tabN : List Int := [0, 1, 2, 3, 7, 10, 16, -1]
def tabK : List Int := [0, 1, 2, 5, 9, 40, 101, -1]
theorem list_cell (zs : List Int) (j : Nat) (hj : j < zs.length) : ((zs.map (Value.int .i64)).toArray)[j]? = some (.int .i64 (zs.getD j 0)) := by
  simp [List.getD, hj]
theorem pickF_bounds (l : List UInt8) (zs : List Int) (s : St) (m : Int) (h0 : 0 ≤ m) (h : ∀ z ∈ zs, -1 ≤ z ∧ z ≤ m) : -1 ≤ (pickF l zs s).1 ∧ (pickF l zs s).1 ≤ m := by
  unfold pickF
  show -1 ≤ zs.getD _ 0 ∧ zs.getD _ 0 ≤ m
  generalize (belowF l (zs.length : Nat) s).1.toNat = k
  rw [List.getD_eq_getElem?_getD]
  cases hk : zs[k]? with
  | none => exact ⟨by decide, h0⟩
  | some z => exact h z (List.mem_of_getElem? hk)

theorem draw_pow (w : World) (sv : Value) (l : List UInt8) (hl : l.length ≤ 1048576) (hc : Cur.Code w w.heap.size sv l) :
    Calls Try.prog 36 #[sv] w (TwoSmall w) := by
  have HN := hid (new_any w sv l hl hc)
  clear hc
  go_enter Try.func36, Try.ntmps36
  go_wp2_with fail
  refine HN.out.mono ?_
  rintro e w2 ⟨c, rfl, hcw, hc2, hb1⟩
  have K2 := hid hb1
  have z2 := K2.out.size
  have hlt2 := hc2.lt
  generalize ((0 : Nat), numH l (min 4000 l.length)) = s1 at hc2
  have K4 := hid (fun o => hc2.below (B := w2.heap.size) ((Below.refl _ _).alloc (Nat.le_refl _) o) hlt2)
  clear hc2 hb1
  go_wp2_with fail
  refine (pick_any c sv l s1 _ (K4.out _) w2.heap.size 8 tabN (by decide) (by decide) (by omega) ?_).mono ?_
  · intro j hj
    refine (World.cell?_alloc_at _ _ _ _ rfl).trans ?_
    exact list_cell tabN j hj
  have hp := pickF_bounds l tabN s1 16 (by decide) (by decide)
  generalize pickF l tabN s1 = r2 at hp ⊢
  obtain ⟨n, s2⟩ := r2
  rintro e w3 ⟨rfl, hc3, hg3⟩
  have K5 := hid ((K2.out.alloc (by omega) _).trans (grown_below hg3 (by simp; omega) hcw))
  have hlt3 := hc3.lt
  have z3 := K5.out.size
  have K6 := hid (fun o => hc3.below (B := w3.heap.size) ((Below.refl _ _).alloc (Nat.le_refl _) o) hlt3)
  clear hc3 hg3
  go_wp2_with fail
  refine (pick_any c sv l s2 _ (K6.out _) w3.heap.size 8 tabK (by decide) (by decide) (by omega) ?_).mono ?_
  · intro j hj
    refine (World.cell?_alloc_at _ _ _ _ rfl).trans ?_
    exact list_cell tabK j hj
  have hp2 := pickF_bounds l tabK s2 101 (by decide) (by decide)
  generalize pickF l tabK s2 = r3 at hp2 ⊢
  obtain ⟨d, s3⟩ := r3
  rintro e w4 ⟨rfl, hc4, hg4⟩
  have K7 := hid ((K5.out.alloc (by omega) _).trans (grown_below hg4 (by simp; omega) hcw))
  clear hc4 hg4
  go_wp2_with fail
  go_ret2
  exact ⟨n, d, rfl, hp, hp2, K7.out⟩
end Go.Proofs.Ytanfakpeongfjaa.DrawPow
