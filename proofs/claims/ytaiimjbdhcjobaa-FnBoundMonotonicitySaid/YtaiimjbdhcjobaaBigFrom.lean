/- Contracts of the two makers of big integers out of ints. -/
import Derived.Test.YtaiimjbdhcjobaaBigValid
import Derived.Test.YtaiimjbdhcjobaaIntLaw
namespace Go.Proofs.Ytaiimjbdhcjobaa.BigFrom
open Go.RowKit
open Go.Proofs.Ytaiimjbdhcjobaa.Num Go.Proofs.Ytaiimjbdhcjobaa.IntRow Go.Proofs.Ytaiimjbdhcjobaa.IntLaw Go.Proofs.Ytaiimjbdhcjobaa.Dig Go.Proofs.Ytaiimjbdhcjobaa.BigValid
set_option linter.unusedVariables false

theorem ci_snoc (l : List Nat) (d : Nat) : ci (l ++ [d]) = ci l ++ [(d : Int)] := by simp [ci]
theorem dg_len (n : Nat) (h : n ≤ 9223372036854775807) : (dg n).length ≤ 19 := dg_length_le n 19 (by omega)
/-- The box of a row survives what an append does to the row. -/
theorem one_grown {w w' : World} {lo b : Nat} {e : TypeId} {v x : Value} {xs : List Int} (h : One w b x) (ho : Own w lo e v xs) (hg : w.grownBy w' v.ownBlock) (hb : b < lo) : One w' b x :=
  h.grown hg (fun e => by have := (ho.lt b e).1; omega)

theorem step_dg (l : List Nat) (z N : Int) (hz : 0 < z) (h : l ++ dg z.toNat = dg N.toNat) : (l ++ [z.toNat % 10]) ++ dg (z / 10).toNat = dg N.toNat := by
  rw [← h, dg_pos z.toNat (by omega), show (z / 10).toNat = z.toNat / 10 by omega]
  simp
theorem len_of (l : List Nat) (z N : Int) (hN : N ≤ 9223372036854775807) (h : l ++ dg z.toNat = dg N.toNat) : l.length ≤ 19 := by
  have h1 := dg_len N.toNat (by omega)
  rw [← h] at h1
  simp at h1
  omega

theorem impl_from (n : Int) (w : World) (hn : n ≤ 9223372036854775807) :
    Calls Try.prog 98 #[.int .i64 n] w fun e w' => ∃ a cap, e = .returned (.agg #[.slice a (ci (dg n.toNat)).length cap]) ∧ Own w' w.heap.size 3 (.slice a (ci (dg n.toNat)).length cap) (ci (dg n.toNat)) ∧ Below w.heap.size w w' := by
  obtain ⟨i0, hi, hz0, hz1, hz2⟩ := info_parts info
  have K0 := hid (one_new w (.slice none 0 0) 53)
  go_enter Try.func98, Try.ntmps98
  go_wp2
  go_loopw [0, 3] (fun nv v wr => ∃ (z : Int) (l : List Nat), nv = .int .i64 z ∧ z ≤ 9223372036854775807 ∧ Hid (l ++ dg z.toNat = dg n.toNat) ∧ Own wr (w.heap.size + 1) 3 v (ci l) ∧ Below (w.heap.size + 1) (w.alloc (.cells #[.slice none 0 0] 53)) wr ∧ w.heap.size + 1 ≤ wr.heap.size) (fun nv _ _ => (intOf nv).toNat)
  case atStart => exact ⟨n, [], rfl, hn, hid rfl, Own.nil _ _ _, Below.refl _ _, by simp⟩
  case round =>
    obtain ⟨z, l, rfl, hzb, hl, hown, hbel, hsz⟩ := hrel
    by_cases hlt : 0 < z
    · have hll := len_of l z n hn hl.out
      have hcl : (ci l).length ≤ 19 := by rw [ci_length]; exact hll
      go_wp2_with (at_builtin; refine append_int rfl _ _ 42 rfl (w.heap.size + 1) 3 i0 Try.underlying42 hi hz0 hz1 hz2 _ wr _ (ci l) (z % 10) hown (by rfl) hbel hsz _ ?c1 (by rfl) (by omega) ?_)
      case c1 => rfl
      intro v1 w1 hown1 hbel1 hsz1 hgr
      clear hown hbel hsz hcl
      go_wp2
      go_roundw
      case rel => exact ⟨z / 10, l ++ [z.toNat % 10], by go_num, by omega, hid (step_dg l z n hlt hl.out), by rw [ci_snoc, show ((z.toNat % 10 : Nat) : Int) = z % 10 by omega]; exact hown1, hbel1, hsz1⟩
      case measure => simp [intOf]; omega
    · have e0 : z.toNat = 0 := by omega
      have HL := hid (show l = dg n.toNat by rw [← hl.out, e0]; simp [dg_zero])
      obtain ⟨a, cap, rfl, _, _, _⟩ := hown.form
      have o1 := K0.out.below hbel (by omega)
      have hr := (o1.set (.slice a (ci l).length cap)).1
      have hfin := hid (own_far hown (p := ⟨w.heap.size, 0, none⟩) (by simp) (.slice a (ci l).length cap))
      have hbf := hid ((((Below.refl w.heap.size w).alloc (Nat.le_refl _) (.cells #[.slice none 0 0] 53)).trans (hbel.mono (by omega))).setCell (p := ⟨w.heap.size, 0, none⟩) (Nat.le_refl _) (.slice a (ci l).length cap))
      obtain ⟨c1, f1, z1⟩ := o1
      clear hown hbel
      go_wp2
      refine bodyPost_ret (v := .agg #[.slice a (ci l).length cap]) (by simp [results, Try.results98, go_sem, hr]) rfl ⟨a, cap, by rw [← HL.out], ?_, hbf.out⟩
      rw [← HL.out]
      exact hfin.out.mono (by omega)

theorem spec_from (n : Int) (w : World) (hn : n ≤ 9223372036854775807) :
    Calls Try.prog 100 #[.int .i64 n] w fun e w' => ∃ a cap, e = .returned (.agg #[.slice a (ci (dg n.toNat)).length cap]) ∧ Own w' w.heap.size 3 (.slice a (ci (dg n.toNat)).length cap) (ci (dg n.toNat)) ∧ Below w.heap.size w w' := by
  obtain ⟨i0, hi, hz0, hz1, hz2⟩ := info_parts info
  have K0 := hid ((one_new w (.slice none 0 0) 53).alloc (.cells #[.slice none 0 0] 53))
  have K1 := hid (one_new (w.alloc (.cells #[.slice none 0 0] 53)) (.slice none 0 0) 53)
  simp only [World.size_alloc] at K1
  have KB := hid (((Below.refl w.heap.size w).alloc (Nat.le_refl _) (.cells #[.slice none 0 0] 53)).alloc (by simp) (.cells #[.slice none 0 0] 53))
  go_enter Try.func100, Try.ntmps100
  go_wp2
  go_loopw [0] (fun nv wr => ∃ (z : Int) (l : List Nat) (a : Option Addr) (cap : Nat), nv = .int .i64 z ∧ z ≤ 9223372036854775807 ∧ Hid (l ++ dg z.toNat = dg n.toNat) ∧ One wr (w.heap.size + 1) (.slice a (ci l).length cap) ∧ Own wr (w.heap.size + 2) 3 (.slice a (ci l).length cap) (ci l) ∧ One wr w.heap.size (.slice none 0 0) ∧ Below w.heap.size w wr ∧ w.heap.size + 2 ≤ wr.heap.size) (fun nv _ => (intOf nv).toNat)
  case atStart => exact ⟨n, [], none, 0, rfl, hn, hid rfl, K1.out, Own.nil _ _ _, K0.out, KB.out, by simp⟩
  case round =>
    obtain ⟨z, l, a, cap, rfl, hzb, hl, hone, hown, hone0, hbel, hsz⟩ := hrel
    by_cases hlt : 0 < z
    · have hll := len_of l z n hn hl.out
      have hcl : (ci l).length ≤ 19 := by rw [ci_length]; exact hll
      have eL := hid (show ci (l ++ [z.toNat % 10]) = ci l ++ [z % 10] by rw [ci_snoc, show ((z.toNat % 10 : Nat) : Int) = z % 10 by omega])
      have HO := hid hone
      obtain ⟨c0, f0, z0⟩ := hone
      go_wp2_with (at_builtin; refine append_int rfl _ _ 42 rfl (w.heap.size + 2) 3 i0 Try.underlying42 hi hz0 hz1 hz2 wr wr _ (ci l) (z % 10) hown (by rfl) (Below.refl _ _) hsz _ rfl (by rfl) (by omega) ?_)
      intro v1 w1 hown1 hbel1 hsz1 hgr
      have o1 := hid (one_grown HO.out hown hgr (by omega))
      have o0 := hid (one_grown hone0 hown hgr (by omega))
      have b1 := hid (hbel.trans (hbel1.mono (by omega)))
      obtain ⟨a1, cap1, rfl, _, _, _⟩ := hown1.form
      have eN := hid (show (ci l ++ [z % 10]).length = (ci l).length + 1 by simp)
      rw [eN.out] at hown1
      have o2 := hid (o1.out.set (.slice a1 ((ci l).length + 1) cap1))
      have o3 := hid (o0.out.far (p := ⟨w.heap.size + 1, 0, none⟩) (by simp) (.slice a1 ((ci l).length + 1) cap1))
      have ow2 := hid (own_far hown1 (p := ⟨w.heap.size + 1, 0, none⟩) (by simp) (.slice a1 ((ci l).length + 1) cap1))
      have b2 := hid (b1.out.setCell (p := ⟨w.heap.size + 1, 0, none⟩) (by simp) (.slice a1 ((ci l).length + 1) cap1))
      obtain ⟨c1, f1, z1⟩ := o1.out
      clear hown hbel hsz hcl hown1 c0 f0 z0 hone0 hbel1 hgr
      go_wp2
      go_roundw
      case rel => exact ⟨z / 10, l ++ [z.toNat % 10], a1, cap1, by go_num, by omega, hid (step_dg l z n hlt hl.out), by rw [eL.out, eN.out]; exact o2.out, by rw [eL.out, eN.out]; exact ow2.out, o3.out, b2.out, by simp; omega⟩
      case measure => simp [intOf]; omega
    · have e0 : z.toNat = 0 := by omega
      have HL := hid (show l = dg n.toNat by rw [← hl.out, e0]; simp [dg_zero])
      have hr := (hone0.set (.slice a (ci l).length cap)).1
      have hfin := hid (own_far hown (p := ⟨w.heap.size, 0, none⟩) (by simp) (.slice a (ci l).length cap))
      have hbf := hid (hbel.setCell (p := ⟨w.heap.size, 0, none⟩) (Nat.le_refl _) (.slice a (ci l).length cap))
      obtain ⟨c1, f1, z1⟩ := hone0
      obtain ⟨c2, f2, z2⟩ := hone
      clear hown hbel
      go_wp2
      refine bodyPost_ret (v := .agg #[.slice a (ci l).length cap]) (by simp [results, Try.results100, go_sem, hr]) rfl ⟨a, cap, by rw [← HL.out], ?_, hbf.out⟩
      rw [← HL.out]
      exact hfin.out.mono (by omega)
end Go.Proofs.Ytaiimjbdhcjobaa.BigFrom
