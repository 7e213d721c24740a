/- The draw of two ints for NewRational (spec.DrawNewRational): some two ints. -/
import Derived.Test.YtbnnigaepkpfbaaPick
namespace Go.Proofs.Ytbnnigaepkpfbaa.DrawNew
open Go.ChangeShapes Go.WideShapes Go.ChangeAt Go.RowKit
open Go.Proofs.Ytbnnigaepkpfbaa.Num Go.Proofs.Ytbnnigaepkpfbaa.Row Go.Proofs.Ytbnnigaepkpfbaa.Cur Go.Proofs.Ytbnnigaepkpfbaa.Draw Go.Proofs.Ytbnnigaepkpfbaa.Pick
set_option linter.unusedVariables false

/-- Some two ints; nothing of what was there is turned. -/
def TwoInts (w : World) (e : Ending) (w' : World) : Prop :=
  ∃ n d : Int, e = .returned (.tuple #[.int .i64 n, .int .i64 d]) ∧ (-9223372036854775808 ≤ n ∧ n ≤ 9223372036854775807) ∧ (-9223372036854775808 ≤ d ∧ d ≤ 9223372036854775807) ∧ Below w.heap.size w w'

def tabN : List Int := [9223372036854775807, -9223372036854775808, 4000000000000000000, 7]
def tabD : List Int := [0, -1, 4000000000000000000, 9223372036854775807, 3]
theorem list_cell (zs : List Int) (j : Nat) (hj : j < zs.length) : ((zs.map (Value.int .i64)).toArray)[j]? = some (.int .i64 (zs.getD j 0)) := by
  simp [List.getD, hj]
theorem pickF_bounds (l : List UInt8) (zs : List Int) (s : St) (h : ∀ z ∈ zs, -9223372036854775808 ≤ z ∧ z ≤ 9223372036854775807) : -9223372036854775808 ≤ (pickF l zs s).1 ∧ (pickF l zs s).1 ≤ 9223372036854775807 := by
  unfold pickF
  show -9223372036854775808 ≤ zs.getD _ 0 ∧ zs.getD _ 0 ≤ 9223372036854775807
  generalize (belowF l (zs.length : Nat) s).1.toNat = k
  rw [List.getD_eq_getElem?_getD]
  cases hk : zs[k]? with
  | none => decide
  | some z => exact h z (List.mem_of_getElem? hk)

theorem draw_new (w : World) (sv : Value) (l : List UInt8) (hl : l.length ≤ 1048576) (hc : Cur.Code w w.heap.size sv l) :
    Calls Try.prog 23 #[sv] w (TwoInts w) := by
  have HN := hid (new_any w sv l hl hc)
  clear hc
  go_enter Try.func23, Try.ntmps23
  go_wp2_with fail
  refine HN.out.mono ?_
  rintro e w1 ⟨c, rfl, hcw, hc1, hb1⟩
  have HB := hid hb1
  have hsz := hb1.size
  generalize ((0 : Nat), numH l (min 4000 l.length)) = s0 at hc1
  have HO := hid (once_any c 8 sv l s0 w1 hc1 (by omega))
  clear hc1 hb1
  generalize belowF l 8 s0 = r at HO
  obtain ⟨x, s1⟩ := r
  simp only at HO
  cases hx : x == 0 with
  | true =>
    rw [hx] at HO
    clear hx
    go_wp2_with fail
    refine HO.out.mono ?_
    rintro e w2 ⟨rfl, hc2, hg2⟩
    have K2 := hid (HB.out.trans (grown_below hg2 hsz hcw))
    have hlt2 := hc2.lt
    have z2 := K2.out.size
    have K4 := hid (fun o => hc2.below (B := w2.heap.size) ((Below.refl _ _).alloc (Nat.le_refl _) o) hlt2)
    clear hc2 hg2
    go_wp2_with fail
    refine (pick_any c sv l s1 _ (K4.out _) w2.heap.size 4 tabN (by decide) (by decide) (by omega) ?_).mono ?_
    · intro j hj
      refine (World.cell?_alloc_at _ _ _ _ rfl).trans ?_
      exact list_cell tabN j hj
    have hp := pickF_bounds l tabN s1 (by decide)
    generalize pickF l tabN s1 = r2 at hp ⊢
    obtain ⟨n, s2⟩ := r2
    rintro e w3 ⟨rfl, hc3, hg3⟩
    have K5 := hid ((K2.out.alloc (by omega) _).trans (grown_below hg3 (by simp; omega) hcw))
    have hlt3 := hc3.lt
    have z3 := K5.out.size
    have K6 := hid (fun o => hc3.below (B := w3.heap.size) ((Below.refl _ _).alloc (Nat.le_refl _) o) hlt3)
    clear hc3 hg3
    go_wp2_with fail
    refine (pick_any c sv l s2 _ (K6.out _) w3.heap.size 5 tabD (by decide) (by decide) (by omega) ?_).mono ?_
    · intro j hj
      refine (World.cell?_alloc_at _ _ _ _ rfl).trans ?_
      exact list_cell tabD j hj
    have hp2 := pickF_bounds l tabD s2 (by decide)
    generalize pickF l tabD s2 = r3 at hp2 ⊢
    obtain ⟨d, s3⟩ := r3
    rintro e w4 ⟨rfl, hc4, hg4⟩
    have K7 := hid ((K5.out.alloc (by omega) _).trans (grown_below hg4 (by simp; omega) hcw))
    clear hc4 hg4
    go_wp2_with fail
    go_ret2
    exact ⟨n, d, rfl, hp, hp2, K7.out⟩
  | false =>
    rw [hx] at HO
    clear hx
    go_wp2_with fail
    refine HO.out.mono ?_
    rintro e w2 ⟨rfl, hc2, hg2⟩
    have K2 := hid (HB.out.trans (grown_below hg2 hsz hcw))
    have z2 := K2.out.size
    have K3 := hid (below_any c 81 sv l s1 w2 hc2 (by omega))
    have b3 := belowF_bounds l 81 s1 (by omega)
    clear hc2 hg2
    generalize belowF l 81 s1 = r2 at K3 b3
    obtain ⟨n, s2⟩ := r2
    obtain ⟨n0, n1⟩ := b3
    simp only at K3 n0 n1
    go_wp2_with fail
    refine K3.out.mono ?_
    rintro e w3 ⟨rfl, hc3, hg3⟩
    have K4 := hid (K2.out.trans (grown_below hg3 z2 hcw))
    have z3 := K4.out.size
    have K5 := hid (below_any c 25 sv l s2 w3 hc3 (by omega))
    have b5 := belowF_bounds l 25 s2 (by omega)
    clear hc3 hg3
    generalize belowF l 25 s2 = r3 at K5 b5
    obtain ⟨d, s3⟩ := r3
    obtain ⟨d0, d1⟩ := b5
    simp only at K5 d0 d1
    go_wp2_with fail
    refine K5.out.mono ?_
    rintro e w4 ⟨rfl, hc4, hg4⟩
    have K6 := hid (K4.out.trans (grown_below hg4 z3 hcw))
    clear hc4 hg4
    go_wp2_with fail
    go_ret2
    exact ⟨n - 40, d - 12, rfl, by omega, by omega, K6.out⟩
end Go.Proofs.Ytbnnigaepkpfbaa.DrawNew
