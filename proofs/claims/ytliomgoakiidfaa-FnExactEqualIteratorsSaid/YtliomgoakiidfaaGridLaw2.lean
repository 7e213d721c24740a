/- Contracts of the laws' own helpers that make and mark grids. -/
import Derived.Test.YtliomgoakiidfaaGridLaw
import Derived.Test.YtliomgoakiidfaaGridMore
namespace Go.Proofs.Ytliomgoakiidfaa.GridLaw2
open Go.RowKit
open Go.Proofs.Ytliomgoakiidfaa.Num Go.Proofs.Ytliomgoakiidfaa.IntRow Go.Proofs.Ytliomgoakiidfaa.IntLaw Go.Proofs.Ytliomgoakiidfaa.Grid Go.Proofs.Ytliomgoakiidfaa.GridMore Go.Proofs.Ytliomgoakiidfaa.GridLaw Go.Proofs.Ytliomgoakiidfaa.Keep Go.Proofs.Ytliomgoakiidfaa.Kept
set_option linter.unusedVariables false

abbrev eR : TypeId := 27
abbrev eI : TypeId := 3
theorem eRI : eR ≠ eI := by decide

/-- A copy of a grid: a grid of the call's own. -/
theorem to_ss (a : Option Addr) (cap B : Nat) (xss : List (List Int)) (w : World) (hn : tot xss ≤ 1048576) (h : GRd w B a xss) (hB : B ≤ w.heap.size) :
    Calls Try.prog 73 #[.slice a xss.length cap] w fun e w' => ∃ vs, e = .returned (.slice (some ⟨w.heap.size, 0, none⟩) xss.length xss.length) ∧ GOwn w' w.heap.size eR eI (.slice (some ⟨w.heap.size, 0, none⟩) xss.length xss.length) vs xss ∧ Below w.heap.size w w' := by
  have hn1 : xss.length ≤ 1048576 := by have := tot_len xss; omega
  obtain ⟨i0, hi, hz0, hz1, hz2⟩ := info_parts GridLaw.info
  have hmk := make_rows (P := Try.prog) w 24 27 i0 Try.underlying24 hi hz0 hz1 hz2 xss.length (by omega)
  have hat0 := hid (rows_made w 27 3 xss.length (by omega))
  go_enter Try.func73, Try.ntmps73
  go_wp2
  go_loopw [4] (fun i wr => ∃ (k : Nat) (vs : List Value), k ≤ xss.length ∧ i = .int .i64 k ∧ Hid (GOwn wr w.heap.size eR eI (.slice (some ⟨w.heap.size, 0, none⟩) xss.length xss.length) vs (filledS xss k)) ∧ Hid (Below w.heap.size w wr)) (fun i _ => xss.length - (intOf i).toNat)
  case atStart => exact ⟨0, _, Nat.zero_le _, rfl, hid (by rw [filledS_zero]; exact hat0.out), hid ((Below.refl _ _).alloc (Nat.le_refl _) _)⟩
  case round =>
    obtain ⟨k, vs, hk, rfl, hown, hb⟩ := hrel
    have hfl := filledS_length xss k hk
    clear hmk
    by_cases hlt : k < xss.length
    · obtain ⟨b, off, rfl, hbB, hc⟩ := (h.below (hb.out.mono hB)) (by omega)
      obtain ⟨aj, capj, g, r⟩ := hc k hlt
      have hrow : xss[k].length ≤ 1048576 := by have := row_le xss k hlt; omega
      have hsz := hb.out.size
      have T := hid (to_ints aj capj B xss[k] wr hrow r (by omega))
      clear hc h r
      go_wp2_with fail
      refine T.out.mono ?_
      rintro e w1 ⟨rfl, hat, hb1⟩
      have O1 := hown.out.below' hb1
      have hlt1 := hown.out.lt w.heap.size rfl
      have U := hat.own (Nat.le_refl _)
      have hst := hid (gown_store O1 hfl.symm eRI k (by omega) (U.mono hsz) (fun i u' m hne hu hm hm' => by
        have h1 := (hown.out.lt_row hu m hm').2
        simp [Value.ownBlock] at hm
        omega))
      rw [filledS_step xss k hlt] at hst
      obtain ⟨u, c1⟩ : ∃ u, w1.cell? ⟨w.heap.size, k, none⟩ = some u := by
        have hjv : k < vs.length := by rw [hown.out.len, filledS_length xss k hk]; exact hlt
        have hca := O1.cellAt k (by rw [filledS_length xss k hk]; exact hlt)
        rw [Nat.zero_add, List.getElem?_eq_getElem hjv] at hca
        exact ⟨_, hca⟩
      have c2 := O1.free k
      rw [Nat.zero_add] at c2
      have HB := hid ((hb.out.trans (hb1.mono hsz)).setCell (p := ⟨w.heap.size, k, none⟩) (Nat.le_refl _) (.slice (some ⟨wr.heap.size, 0, none⟩) xss[k].length xss[k].length))
      clear O1 U hat hb1 hfl
      go_wp2_with fail
      go_roundw
      case rel => exact ⟨k + 1, _, by omega, by go_num, hst, HB⟩
      case measure => simp [intOf]; omega
    · have e : k = xss.length := by omega
      subst e
      have HO := hown.out
      rw [filledS_all] at HO
      have HO2 := hid HO
      clear h HO hfl hown
      go_wp2
      go_ret
      exact ⟨vs, rfl, HO2.out, hb.out⟩

/-- The rows as the laws' marks leave them: yss is marked from k on. -/
def Marks (k : Int) (xss yss : List (List Int)) : Prop := yss.length = xss.length ∧ ∀ j (h : j < xss.length) (h' : j < yss.length), yss[j] = marks (k + (summed xss j : Nat)) xss[j].length
/-- .. of which the first j rows are marked. -/
def MarkTo (k : Int) (xss yss : List (List Int)) (m : Nat) : Prop := yss.length = xss.length ∧ ∀ j (h : j < xss.length) (h' : j < yss.length), yss[j] = if j < m then marks (k + (summed xss j : Nat)) xss[j].length else xss[j]
theorem MarkTo.zero (k : Int) (xss : List (List Int)) : MarkTo k xss xss 0 := ⟨rfl, fun j h h' => by simp⟩
theorem MarkTo.step {k : Int} {xss yss : List (List Int)} {m : Nat} (h : MarkTo k xss yss m) (hm : m < xss.length) : MarkTo k xss (yss.set m (marks (k + (summed xss m : Nat)) xss[m].length)) (m + 1) := by
  refine ⟨by rw [List.length_set]; exact h.1, fun j hj hj' => ?_⟩
  rw [List.getElem_set]
  by_cases e : m = j
  · subst e; simp
  · rw [if_neg e, h.2 j hj (by rw [h.1]; exact hj)]
    by_cases e2 : j < m
    · rw [if_pos e2, if_pos (by omega)]
    · rw [if_neg e2, if_neg (by omega)]
theorem MarkTo.done {k : Int} {xss yss : List (List Int)} (h : MarkTo k xss yss xss.length) : Marks k xss yss := ⟨h.1, fun j hj hj' => by rw [h.2 j hj hj', if_pos hj]⟩
def ints (xss : List (List Int)) : Nat := (xss.map List.length).sum

theorem mark_own (lo : Nat) (v : Value) (k0 : Int) (xs : List Int) (w : World) (hn : xs.length ≤ 1048576) (h0 : 0 ≤ k0) (h1 : k0 ≤ 4194304) (h : Own w lo 3 v xs) :
    Calls Try.prog 50 #[v, .int .i64 k0] w fun e w' => e = .returned (.int .i64 (k0 + xs.length)) ∧ Own w' lo 3 v (marks k0 xs.length) ∧ w.grownBy w' v.ownBlock := by
  rcases own_at h with ⟨rfl, rfl⟩ | ⟨g, cap', rfl, hl', hat⟩
  · refine (mark_nil k0 w).mono ?_
    rintro e w' ⟨rfl, rfl⟩
    exact ⟨by simp, Own.nil _ _ _, World.grownBy.refl _ _⟩
  · refine (mark_ints g cap' k0 xs w hn h0 h1 hat).mono ?_
    rintro e w' ⟨rfl, hat', hgr⟩
    exact ⟨rfl, by simpa [marks_length] using hat'.own hl', hgr⟩

theorem mark_ss (lo hi : Nat) (v : Value) (vs : List Value) (k0 : Int) (xss : List (List Int)) (w : World) (hn : tot xss ≤ 1048576) (h0 : 0 ≤ k0) (h1 : k0 ≤ 2097152) (h : GOwn w lo eR eI v vs xss) (hu : GUnder hi v vs) :
    Calls Try.prog 75 #[v, .int .i64 k0] w fun e w' => ∃ yss, e = .returned (.int .i64 (k0 + (ints xss : Nat))) ∧ GOwn w' lo eR eI v vs yss ∧ Marks k0 xss yss ∧ Turn lo hi w w' := by
  have hn1 : xss.length ≤ 1048576 := by have := tot_len xss; omega
  obtain ⟨a, cap, rfl, _, _, hrd0⟩ := h.form
  have HG := hid h
  clear h hrd0
  go_enter Try.func75, Try.ntmps75
  go_wp2
  go_loopw [1, 5] (fun q i wr => ∃ (j : Nat) (yss : List (List Int)) (z : Int), j ≤ xss.length ∧ i = .int .i64 j ∧ q = .int .i64 z ∧ Hid (z = k0 + (summed xss j : Nat)) ∧ Hid (MarkTo k0 xss yss j) ∧ Hid (GOwn wr lo eR eI (.slice a xss.length cap) vs yss) ∧ Hid (Turn lo hi w wr)) (fun _ i _ => xss.length - (intOf i).toNat)
  case atStart => exact ⟨0, xss, _, Nat.zero_le _, rfl, rfl, hid (by rw [summed_zero]; simp), hid (MarkTo.zero _ _), HG, hid (Turn.refl _ _ _)⟩
  case round =>
    obtain ⟨j, yss, z, hj, rfl, rfl, hz, hm, hown, ht⟩ := hrel
    by_cases hlt : j < xss.length
    · have hyl := hm.out.1
      have hyj : yss[j]'(by rw [hyl]; exact hlt) = xss[j] := by rw [hm.out.2 j hlt (by rw [hyl]; exact hlt), if_neg (by omega)]
      have hrow : xss[j].length ≤ 1048576 := by have := row_le xss j hlt; omega
      have hjv : j < vs.length := by rw [hown.out.len, hyl]; exact hlt
      have hvj : vs[j]? = some vs[j] := List.getElem?_eq_getElem hjv
      have hro := hown.out.own j (by rw [hyl]; exact hlt) vs[j] hvj
      rw [hyj] at hro
      have hs1 := summed_mono xss (show j ≤ xss.length by omega) (Nat.le_refl _)
      rw [summed_all] at hs1
      have hzz := hz.out
      have htt : tot xss = xss.length + (xss.map List.length).sum := rfl
      have M := hid (mark_own lo vs[j] z xss[j] wr hrow (by omega) (by omega) hro)
      have hst := hid (summed_step xss j hlt)
      have hz2 : z ≤ 4194304 := by omega
      have hz3 : 0 ≤ z := by omega
      obtain ⟨b, off, rfl, hbB, hc⟩ := hown.out.rd (by rw [hyl]; omega)
      have hg : wr.cell? ⟨b, off + j, none⟩ = some vs[j] := (hown.out.cellAt j (by rw [hyl]; exact hlt)).trans hvj
      have HYL := hid hyl
      clear hc hyj hro hs1 hzz
      go_wp2_with fail
      refine M.out.mono ?_
      rintro e w1 ⟨rfl, ho1, hg1⟩
      have G1 := hid (hown.out.rewrite eRI (by rw [HYL.out]; exact hlt) hvj _ ho1 hg1)
      have hlr := hown.out.lt_row hvj
      have T1 := hid (ht.out.trans (Turn.of_grown (lo := lo) (hi := hi) hg1 (fun k hk => ⟨(hlr k hk).1, hu.2 j _ hvj k hk⟩)))
      have M1 := hid hm.out.step
      have hM2 := M1.out hlt
      rw [← hz.out] at hM2
      have HM := hid hM2
      have HZ := hid (show z + (xss[j].length : Int) = k0 + (summed xss (j + 1) : Nat) by rw [hst.out, hz.out]; omega)
      clear ho1 hg1 hlr M1 hM2 M
      go_wp2_with fail
      go_roundw
      case rel => exact ⟨j + 1, _, _, by omega, by go_num, rfl, HZ, HM, G1, T1⟩
      case measure => simp [intOf]; omega
    · have e : j = xss.length := by omega
      subst e
      have HZ := hz.out
      rw [summed_all] at HZ
      have HZ2 := hid HZ
      clear HZ
      go_wp2
      go_ret
      exact ⟨yss, by rw [HZ2.out]; rfl, hown.out, hm.out.done, ht.out⟩

theorem held_ss (a : Option Addr) (cap B : Nat) (k0 : Int) (xss yss : List (List Int)) (w : World) (hn : tot xss ≤ 1048576) (h0 : 0 ≤ k0) (h1 : k0 ≤ 2097152) (hm : Marks k0 xss yss) (h : GRd w B a yss) :
    Calls Try.prog 91 #[.slice a xss.length cap, .int .i64 k0] w fun e w' => e = .returned (.int .i64 (k0 + (ints xss : Nat))) ∧ w = w' := by
  have hn1 : xss.length ≤ 1048576 := by have := tot_len xss; omega
  have HM := hid hm
  have hyl := hm.1
  clear hm
  go_enter Try.func91, Try.ntmps91
  go_wp2
  go_loop [1, 5] (fun q i => ∃ (j : Nat) (z : Int), j ≤ xss.length ∧ i = .int .i64 j ∧ q = .int .i64 z ∧ Hid (z = k0 + (summed xss j : Nat))) (fun _ i => xss.length - (intOf i).toNat)
  case atStart => exact ⟨0, _, Nat.zero_le _, rfl, rfl, hid (by rw [summed_zero]; simp)⟩
  case round =>
    obtain ⟨j, z, hj, rfl, rfl, hz⟩ := hrel
    by_cases hlt : j < xss.length
    · obtain ⟨b, off, rfl, hbB, hc⟩ := h (by omega)
      obtain ⟨aj, capj, hg, hr⟩ := hc j (by omega)
      have hrow : xss[j].length ≤ 1048576 := by have := row_le xss j hlt; omega
      have hs1 := summed_mono xss (show j + 1 ≤ xss.length by omega) (Nat.le_refl _)
      rw [summed_all] at hs1
      have hst := summed_step xss j hlt
      have hzz := hz.out
      have htt : tot xss = xss.length + (xss.map List.length).sum := rfl
      have hyj := HM.out.2 j hlt (by omega)
      rw [← hzz] at hyj
      rw [hyj] at hr hg
      rw [marks_length] at hg
      have H := hid (held_ints aj capj z xss[j].length B w hrow (by omega) (by omega) hr)
      have h2 : ¬ (z + (xss[j].length : Int) < 0) := by omega
      have HZ := hid (show z + (xss[j].length : Int) = k0 + (summed xss (j + 1) : Nat) by rw [hst, hzz]; omega)
      clear hc hr hs1 hst hzz hyj h
      go_wp2_with fail
      refine H.out.mono ?_
      rintro e w1 ⟨rfl, rfl⟩
      go_wp2_with fail
      go_round
      case rel => exact ⟨j + 1, _, by omega, by go_num, rfl, HZ⟩
      case measure => simp [intOf]; omega
    · have e : j = xss.length := by omega
      subst e
      have HZ := hz.out
      rw [summed_all] at HZ
      have HZ2 := hid HZ
      clear HZ h
      go_wp2
      go_ret
      exact ⟨by rw [HZ2.out]; rfl, rfl⟩
end Go.Proofs.Ytliomgoakiidfaa.GridLaw2
