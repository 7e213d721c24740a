/- The library's slices.Grow at the nil slice and slices.Concat, over elements of type impl.Rational: the elements of all slices in their order, in a row of the call's own. -/
import Derived.Test.YtjnphlgmmjdeiaaProg
import Derived.Test.YtjnphlgmmjdeiaaNum
import Derived.Test.YtjnphlgmmjdeiaaApnd
import Derived.Lib.AppendZerosOnto
namespace Go.Proofs.Ytjnphlgmmjdeiaa.CatRat
open Go.RowKit
open Go.Proofs.Ytjnphlgmmjdeiaa.Num Go.Proofs.Ytjnphlgmmjdeiaa.Apnd
set_option linter.unusedVariables false

theorem info : (Try.prog.info? 35).map (fun i => (i.zero, i.size, i.bytes)) = some (some (.agg #[.int .i64 0, .int .i64 0]), 2, 16) := by kernel_rfl

set_option maxRecDepth 100000 in
theorem lib_grow (n : Nat) (w : World) (hn : n ≤ 4194304) :
    Calls Try.prog 119 #[.slice none 0 0, .int .i64 n] w fun e w' => ∃ v, e = .returned v ∧ w'.ownsRow w.heap.size 35 2 v 0 [] ∧ Below w.heap.size w w' := by
  obtain ⟨i0, hi0, hz0, hz1, hz2⟩ := info_parts info
  by_cases h0 : n = 0
  · subst h0
    go_enter Try.func119, Try.ntmps119
    go_wp2
    go_ret
    exact ⟨_, rfl, World.ownsRow_nil _ _ _ _, Below.refl _ _⟩
  · have h0' : 0 < n := by omega
    have hrun : ∀ ty, (Builtin.append_ #[25, 3] ty #[.slice none 0 0, .int .i64 (n : Int)]).run Try.prog w =
        .ok (.slice (some ⟨w.heap.size, 0, none⟩) (0 + n) (grownCap w (0 + n) 0 35)) (w.drew.alloc (.cells (([] : List Value).toArray ++ Builtin.zeroCells (.agg #[.int .i64 0, .int .i64 0] : Value).cells n ++ Builtin.zeroCells (.agg #[.int .i64 0, .int .i64 0] : Value).cells (grownCap w (0 + n) 0 35 - (0 + n))) 35)) := fun ty =>
      Lib.run_append_grow_zeros w 25 3 ty 35 i0 (.agg #[.int .i64 0, .int .i64 0]) .i64 .i64 Try.underlying25 Try.underlying3 hi0 hz0 none 0 0 [] (run_firstCells_none w.drew i0.size 0 0 0) n h0' (by omega) (by omega) (by omega) (by rw [hz2]; omega) (by rw [hz2]; exact growslice_fits (by omega) (by omega))
    have hc := grownCap_ge w (0 + n) 0 35
    have hc2 := grownCap_le_maxLen w (0 + n) 0 35 (by unfold maxLen; omega)
    have hcs : (([] : List Value).toArray ++ Builtin.zeroCells (.agg #[.int .i64 0, .int .i64 0] : Value).cells n ++ Builtin.zeroCells (.agg #[.int .i64 0, .int .i64 0] : Value).cells (grownCap w (0 + n) 0 35 - (0 + n))).size = grownCap w (0 + n) 0 35 * 2 := by
      have hk : ((.agg #[.int .i64 0, .int .i64 0] : Value).cells).size = 2 := rfl
      have hc' := hc
      simp only [Nat.zero_add] at hc'
      simp only [Array.size_append, size_zeroCells, hk, Nat.zero_add]
      simp
      omega
    generalize ([] : List Value).toArray ++ Builtin.zeroCells (.agg #[.int .i64 0, .int .i64 0] : Value).cells n ++ Builtin.zeroCells (.agg #[.int .i64 0, .int .i64 0] : Value).cells (grownCap w (0 + n) 0 35 - (0 + n)) = cur at hrun hcs
    generalize grownCap w (0 + n) 0 35 = G at hrun hc hc2 hcs
    have HC := hid hcs
    have HM := hid hc2
    have HB := hid ((Below.refl w.heap.size w).drew.alloc (Nat.le_refl _) (.cells cur 35))
    unfold maxLen at hc2
    clear hcs h0
    go_enter Try.func119, Try.ntmps119
    go_wp2_with (at_builtin; refine Lib.wpList_append_run _ rfl _ _ _ _ rfl _ _ rfl rfl _ _ (hrun _) ?_)
    go_ret
    exact ⟨_, rfl, World.ownsRow_made w.drew cur G (Nat.le_refl _) HM.out HC.out, HB.out⟩

set_option maxRecDepth 100000 in
set_option maxHeartbeats 1000000 in
theorem lib_concat (vb cv B : Nat) (ss : List Sc) (w : World) (hv : ∀ j (h : j < ss.length), w.cell? ⟨vb, j, none⟩ = some (.slice ss[j].a ss[j].n ss[j].c)) (hvb : vb < w.heap.size) (hB : B ≤ w.heap.size) (hs : ∀ j (h : j < ss.length), SrcOk 2 w B ss[j]) (hl : ss.length ≤ 8) (hn : sumN ss ss.length ≤ 4194304) :
    Calls Try.prog 93 #[.slice (some ⟨vb, 0, none⟩) ss.length cv] w fun e w' => ∃ v, e = .returned v ∧ w'.ownsRow w.heap.size 35 2 v (sumN ss ss.length) (flat ss ss.length) ∧ Below w.heap.size w w' := by
  obtain ⟨i0, hi0, hz0, hz1, hz2⟩ := info_parts info
  have HV := hid hv
  have HS := hid hs
  clear hv hs
  go_enter Try.func93, Try.ntmps93
  go_wp2
  go_loop [3, 5, 11] (fun s _ i => ∃ j m : Nat, j ≤ ss.length ∧ i = .int .i64 j ∧ s = .int .i64 m ∧ m ≤ 4194304 ∧ Hid (sumN ss j = m)) (fun _ _ i => ss.length - (intOf i).toNat)
  case atStart => exact ⟨0, 0, Nat.zero_le _, rfl, rfl, by omega, hid rfl⟩
  case round =>
    obtain ⟨j, m, hj, rfl, rfl, hm, hsum⟩ := hrel
    by_cases hlt : j < ss.length
    · have hlt' : (j : Int) < (ss.length : Int) := by omega
      have h0' : (0 : Int) ≤ (j : Int) := by omega
      have g := HV.out j hlt
      have hst := sumN_step j hlt
      have hmo := sumN_mono (ss := ss) (show j + 1 ≤ ss.length by omega) (Nat.le_refl _)
      obtain ⟨sn, hsn⟩ : ∃ z, ss[j].n = z := ⟨_, rfl⟩
      obtain ⟨sa, hsa⟩ : ∃ z, ss[j].a = z := ⟨_, rfl⟩
      obtain ⟨sc, hsc⟩ : ∃ z, ss[j].c = z := ⟨_, rfl⟩
      rw [hsn, hsa, hsc] at g
      have hms : m + sn ≤ 4194304 := by rw [hsn, hsum.out] at hst; omega
      have HS2 := hid (show sumN ss (j + 1) = m + sn by rw [hst, hsn, hsum.out])
      clear hst hmo hsn hsa hsc hsum
      go_wp2
      go_round
      case rel => exact ⟨j + 1, m + sn, by omega, by go_num, by go_num, hms, HS2⟩
      case measure => simp [intOf]; omega
    · have hlt' : ¬ (j : Int) < (ss.length : Int) := by omega
      have e : j = ss.length := by omega
      subst e
      go_wp2_with fail
      with_reducible refine (lib_grow m w hm).mono ?_
      rintro e w1 ⟨v0, rfl, hown, hb1⟩
      have hsz := hb1.size
      have HO := hid hown
      have HB1 := hid hb1
      clear hown hb1
      go_wp2
      go_loopw [6, 8, 27] (fun v _ i wr => ∃ j : Nat, j ≤ ss.length ∧ i = .int .i64 j ∧ Hid (wr.ownsRow w.heap.size 35 2 v (sumN ss j) (flat ss j)) ∧ Hid (Below w.heap.size w wr)) (fun _ _ i _ => ss.length - (intOf i).toNat)
      case atStart => exact ⟨0, Nat.zero_le _, rfl, HO, HB1⟩
      case round =>
        obtain ⟨j, hj, rfl, hown, hb⟩ := hrel
        have hsz2 := hb.out.size
        by_cases hlt : j < ss.length
        · have hlt' : (j : Int) < (ss.length : Int) := by omega
          have h0' : (0 : Int) ≤ (j : Int) := by omega
          have g := (hb.out.cell (p := ⟨vb, j, none⟩) hvb).trans (HV.out j hlt)
          have hsr := (HS.out j hlt).below (hb.out.mono hB)
          have hst := sumN_step j hlt
          have hmo := sumN_mono (ss := ss) (show j + 1 ≤ ss.length by omega) (Nat.le_refl _)
          have hfl := flat_step j hlt
          obtain ⟨sc, hsc⟩ : ∃ z, ss[j] = z := ⟨_, rfl⟩
          rw [hsc] at g hsr hst hfl
          obtain ⟨sa, sn, scc, scs⟩ := sc
          obtain ⟨p, hp⟩ : ∃ z, sumN ss j = z := ⟨_, rfl⟩
          have HO := hown.out
          rw [hp] at HO hst
          dsimp only at g hst hfl
          have hps : p + sn ≤ 8388608 := by omega
          have HST := hid hst
          have HFL := hid hfl
          have HSR := hid hsr
          clear hst hmo hfl hp hsc hsr
          go_wp2_with (at_builtin; refine wpList_src rfl _ _ 25 rfl w.heap.size 35 i0 (.agg #[.int .i64 0, .int .i64 0]) 2 16 Try.underlying25 hi0 hz0 hz1 hz2 rfl (by decide) _ p (flat ss j) rfl HO ⟨sa, sn, scc, scs⟩ B HSR.out rfl hps (by decide) hsz2 ?_)
          intro v1 w2 hown1 hgr
          have HO2 := hid (show w2.ownsRow w.heap.size 35 2 v1 (sumN ss (j + 1)) (flat ss (j + 1)) by rw [HST.out, HFL.out]; exact hown1)
          have HB2 := hid (hb.out.grown hgr hsz2 (fun q hq => (HO.lt q hq).1))
          clear hown1 hgr hown hb HO
          go_wp2
          go_roundw
          case rel => exact ⟨j + 1, by omega, by go_num, HO2, HB2⟩
          case measure => simp [intOf]; omega
        · have hlt' : ¬ (j : Int) < (ss.length : Int) := by omega
          have e : j = ss.length := by omega
          subst e
          go_wp2
          go_ret
          exact ⟨_, rfl, hown.out, hb.out⟩
end Go.Proofs.Ytjnphlgmmjdeiaa.CatRat
