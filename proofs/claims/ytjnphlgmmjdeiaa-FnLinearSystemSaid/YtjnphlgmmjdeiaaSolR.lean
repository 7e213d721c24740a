/- The program's rows of a linear system, each with its right side behind. -/
import Derived.Test.YtjnphlgmmjdeiaaSolC
import Derived.Test.YtjnphlgmmjdeiaaCatRat
namespace Go.Proofs.Ytjnphlgmmjdeiaa.SolR
open Go.RowKit
open Go.Proofs.Ytjnphlgmmjdeiaa.Num Go.Proofs.Ytjnphlgmmjdeiaa.IntRow Go.Proofs.Ytjnphlgmmjdeiaa.GridMore Go.Proofs.Ytjnphlgmmjdeiaa.Rdr Go.Proofs.Ytjnphlgmmjdeiaa.HasL Go.Proofs.Ytjnphlgmmjdeiaa.Rats Go.Proofs.Ytjnphlgmmjdeiaa.RatRow Go.Proofs.Ytjnphlgmmjdeiaa.RatOwn Go.Proofs.Ytjnphlgmmjdeiaa.GridQ Go.Proofs.Ytjnphlgmmjdeiaa.GridQ2 Go.Proofs.Ytjnphlgmmjdeiaa.RatsF Go.Proofs.Ytjnphlgmmjdeiaa.RatsSS Go.Proofs.Ytjnphlgmmjdeiaa.SolP Go.Proofs.Ytjnphlgmmjdeiaa.SolC Go.Proofs.Ytjnphlgmmjdeiaa.Apnd Go.Proofs.Ytjnphlgmmjdeiaa.CatRat
set_option linter.unusedVariables false

theorem fr_one (xs : List RatD) : ∀ u ∈ fr xs, u.oneCell' = true := by
  induction xs with
  | nil => intro u hu; cases hu
  | cons p ps ih =>
    intro u hu
    simp only [fr, List.mem_cons] at hu
    rcases hu with rfl | rfl | h
    · rfl
    · rfl
    · exact ih u h
theorem els_src {w : World} {lo hi cap : Nat} {a : Option Addr} {xs : List RatD} (h : Els 2 rRat w lo hi a xs) (h0 : 0 < xs.length) : SrcOk 2 w hi ⟨a, xs.length, cap, fr xs⟩ := by
  obtain ⟨b, off, rfl, h1, h2, _⟩ := h h0
  refine src_at (fr_len xs) (fr_one xs) h2 fun i u hu => ?_
  have hi2 : i < (fr xs).length := (List.getElem?_eq_some_iff.1 hu).1
  rw [fr_len] at hi2
  have hj : i / 2 < xs.length := by omega
  obtain ⟨b', off', e, _, _, c0, c1⟩ := rats_at h (i / 2) hj
  simp only [Option.some.injEq, Addr.mk.injEq, and_true] at e
  obtain ⟨rfl, rfl⟩ := e
  have hf := fr_at xs (i / 2) hj
  rcases Nat.mod_two_eq_zero_or_one i with e | e
  · rw [show i = i / 2 * 2 by omega] at hu ⊢
    rw [hf.1] at hu
    rw [← hu]
    exact c0
  · rw [show i = i / 2 * 2 + 1 by omega] at hu ⊢
    rw [hf.2] at hu
    rw [← hu]
    exact c1
theorem els_part {w : World} {lo hi b off : Nat} {ys : List RatD} (h : Els 2 rRat w lo hi (some ⟨b, off, none⟩) ys) (k : Nat) (hk : k < ys.length) : Els 2 rRat w lo hi (some ⟨b, off + k * 2, none⟩) [ys[k]] := fun _ => by
  obtain ⟨b', off', e, h1, h2, hc⟩ := h (by omega)
  simp only [Option.some.injEq, Addr.mk.injEq, and_true] at e
  obtain ⟨rfl, rfl⟩ := e
  refine ⟨b, off + k * 2, rfl, h1, h2, fun j hj => ?_⟩
  simp at hj
  subst hj
  obtain ⟨cs, hl, h3, h4⟩ := hc k hk
  exact ⟨cs, hl, fun i hi => by have := h3 i hi; simpa using this, h4⟩
theorem cat_two (vb : Nat) (a : Option Addr) (cap cap2 : Nat) (b off : Nat) (xs ys : List RatD) (k : Nat) (W : World) (B : Nat) (h0 : 0 < xs.length) (hn : xs.length ≤ 100) (hk : k < ys.length) (hx : Els 2 rRat W 0 B a xs) (hy : Els 2 rRat W 0 B (some ⟨b, off, none⟩) ys) (hB : B ≤ W.heap.size) (hv : HasL W vb [.slice a xs.length cap, .slice (some ⟨b, off + k * 2, none⟩) 1 cap2]) :
    Calls Try.prog 93 #[.slice (some ⟨vb, 0, none⟩) 2 2] W fun e w' => ∃ a' c', e = .returned (.slice a' (xs.length + 1) c') ∧ OwnQ w' W.heap.size tR (.slice a' (xs.length + 1) c') (xs ++ [ys[k]]) ∧ Below W.heap.size W w' := by
  have hib : IbA (xs ++ [ys[k]]) := iba_snoc (els_iba hx) (rats_bd hy k hk)
  have S0 := els_src (cap := cap) hx h0
  have S1 := els_src (cap := cap2) (els_part hy k hk) (by simp)
  have := lib_concat vb 2 B [⟨a, xs.length, cap, fr xs⟩, ⟨some ⟨b, off + k * 2, none⟩, 1, cap2, fr [ys[k]]⟩] W (fun j hj => by
    match j, hj with
    | 0, _ => exact (hv.2 0 (by simp)).1
    | 1, _ => exact (hv.2 1 (by simp)).1) hv.1 hB (fun j hj => by
    match j, hj with
    | 0, _ => exact S0
    | 1, _ => exact S1) (by simp) (by simp [sumN]; omega)
  refine this.mono ?_
  rintro e w' ⟨v, rfl, hown, hb⟩
  have hown2 : OwnR w' W.heap.size tR v (xs ++ [ys[k]]) := by
    unfold OwnR
    rw [fr_app, List.length_append]
    simpa [sumN, flat] using hown
  obtain ⟨a', c', hv', _⟩ := OwnQ.form ⟨hown2, hib⟩
  rw [List.length_append, List.length_singleton] at hv'
  subst hv'
  exact ⟨a', c', rfl, ⟨hown2, hib⟩, hb⟩
theorem aug_len (xss : MatD) (ys : List RatD) : (aug xss ys).length = xss.length := by simp [aug]
theorem aug_at (xss : MatD) (ys : List RatD) (k : Nat) (h : k < (aug xss ys).length) (hk : k < xss.length) (hy : k < ys.length) : (aug xss ys)[k] = xss[k] ++ [ys[k]] := by
  simp only [aug, List.getElem_map, List.getElem_range]
  rw [List.getD_eq_getElem?_getD, List.getElem?_eq_getElem hk, List.getD_eq_getElem?_getD, List.getElem?_eq_getElem hy]
  rfl
theorem aug_row (xss : MatD) (ys : List RatD) (hr : ∀ j (hj : j < xss.length), xss[j].length = ys.length) (hl : xss.length = ys.length) (j : Nat) (hj : j < (aug xss ys).length) : (aug xss ys)[j].length = ys.length + 1 := by
  have hj2 : j < xss.length := by rw [← aug_len xss ys]; exact hj
  rw [aug_at xss ys j hj hj2 (by omega), List.length_append, hr j hj2]; rfl

set_option maxRecDepth 100000 in
set_option maxHeartbeats 2000000 in
theorem impl_rwr (a b : Option Addr) (cap capb N : Nat) (xss : MatD) (ys : List RatD) (lo hi lo' hi' : Nat) (w : World) (hN : N ≤ 90) (hl : Hid (xss.length = N)) (hyl : Hid (ys.length = N)) (hrow : Hid (∀ j (hj : j < xss.length), xss[j].length = N)) (hcb : N ≤ capb) (h : Els 1 rRow2 w lo hi a xss) (h' : Els 2 rRat w lo' hi' b ys) (hh : hi ≤ w.heap.size) (hh' : hi' ≤ w.heap.size) :
    Calls Try.prog 59 #[.slice a N cap, .slice b N capb] w fun e w' => ∃ vs, e = .returned (.slice (some ⟨w.heap.size, 0, none⟩) N N) ∧ GOwnQ w' w.heap.size tQ tR (.slice (some ⟨w.heap.size, 0, none⟩) N N) vs (aug xss ys) ∧ Below w.heap.size w w' ∧ w.heap.size < w'.heap.size := by
  obtain ⟨i0, hi0, hz0, hz1, hz2⟩ := info_parts infoRow
  have hmk := make_rows (P := Try.prog) w 24 25 i0 Try.underlying24 hi0 hz0 hz1 hz2 N (by omega)
  have hat0 := hid (rowsq_made w 25 35 N (by omega))
  have HAL := hid ((aug_len xss ys).trans hl.out)
  have HA := hid h
  have HB := hid h'
  clear h h'
  go_enter Try.func59, Try.ntmps59
  go_wp2
  go_loopw [6, 7, 13] (fun _ _ i wr => ∃ (k : Nat) (vs : List Value), k ≤ N ∧ i = .int .i64 k ∧ Hid (GOwnQ wr w.heap.size tQ tR (.slice (some ⟨w.heap.size, 0, none⟩) N N) vs (filledQ (aug xss ys) k)) ∧ Hid (Below w.heap.size w wr) ∧ w.heap.size < wr.heap.size) (fun _ _ i _ => N - (intOf i).toNat)
  case atStart => exact ⟨0, _, Nat.zero_le _, rfl, hid (by rw [filledQ_zero, HAL.out]; exact hat0.out), hid ((Below.refl _ _).alloc (Nat.le_refl _) _), by simp⟩
  case round =>
    obtain ⟨k, vs, hk, rfl, hown, hb, hsz0⟩ := hrel
    clear hmk hat0
    by_cases hlt : k < N
    · have hkx : k < xss.length := by have := hl.out; omega
      have hky : k < ys.length := by have := hyl.out; omega
      have hka : k < (aug xss ys).length := by have := HAL.out; omega
      have hfl := hid ((filledQ_length (aug xss ys) k (Nat.le_of_lt hka)).trans HAL.out)
      have hsz := hb.out.size
      obtain ⟨b1, off1, aj, capj, rfl, _, hbB, g, rx, _, _⟩ := mat_at (HA.out.grow good_row2 hb.out hh) k hkx
      have rl := hrow.out k hkx
      rw [rl] at g
      obtain ⟨b2, off2, rfl, _, hbB2, _, _⟩ := rats_at (HB.out.grow good_rat hb.out hh') k hky
      have RX := hid (rx.up good_rat (Nat.zero_le _) (show hi ≤ wr.heap.size by omega))
      have RY := hid ((HB.out.grow good_rat hb.out hh').up good_rat (Nat.zero_le _) (show hi' ≤ wr.heap.size by omega))
      have hlt' : (k : Int) < (N : Int) := by omega
      have h0' : (0 : Int) ≤ (k : Int) := by omega
      have hk1 : (k : Int) + 1 ≤ (N : Int) := by omega
      have hk2 : (0 : Int) ≤ (k : Int) + 1 := by omega
      have hk3 : (k : Int) ≤ (k : Int) + 1 := by omega
      have hk4 : (k : Int) + 1 ≤ (capb : Int) := by omega
      have hk5 : (k : Int) ≤ (capb : Int) := by omega
      have hcb1 : ¬ capb = k := by omega
      have hcb2 : k ≤ capb := by omega
      have hkk : k + 1 - k = 1 := by omega
      have C := hid (show Calls Try.prog 93 #[.slice (some ⟨wr.heap.size, 0, none⟩) 2 2] (wr.alloc (.cells #[.slice aj N capj, .slice (some ⟨b2, off2 + k * 2, none⟩) 1 (capb - k)] tQ)) (fun e w' => ∃ a' c', e = .returned (.slice a' (N + 1) c') ∧ OwnQ w' (wr.heap.size + 1) tR (.slice a' (N + 1) c') (xss[k] ++ [ys[k]]) ∧ Below (wr.heap.size + 1) (wr.alloc (.cells #[.slice aj N capj, .slice (some ⟨b2, off2 + k * 2, none⟩) 1 (capb - k)] tQ)) w') from by
        have hw := hasl_new wr [.slice aj N capj, .slice (some ⟨b2, off2 + k * 2, none⟩) 1 (capb - k)] tQ
        have := cat_two wr.heap.size aj capj (capb - k) b2 off2 xss[k] ys k _ wr.heap.size (by omega) (by omega) hky (RX.out.keep good_rat (sm_below ((Below.refl _ _).alloc (Nat.le_refl _) _) (Nat.le_refl _))) (RY.out.keep good_rat (sm_below ((Below.refl _ _).alloc (Nat.le_refl _) _) (Nat.le_refl _))) (by simp) (by rw [rl]; exact hw)
        rw [rl] at this
        simpa only [World.size_alloc] using this)
      clear rx rl hcb
      go_wp2_with fail
      with_reducible refine C.out.mono ?_
      rintro e w1 ⟨a1, c1, rfl, hat, hb1⟩
      have s1 := hb1.size
      simp only [World.size_alloc] at s1
      have HB1 := hid (((Below.refl wr.heap.size wr).alloc (Nat.le_refl _) (.cells #[.slice aj N capj, .slice (some ⟨b2, off2 + k * 2, none⟩) 1 (capb - k)] tQ)).trans (hb1.mono (by simp)))
      have O1 := hown.out.below' HB1.out
      have hlt1 := hown.out.lt w.heap.size rfl
      have hst := hid (gownq_store O1 (by have := hfl.out; omega) tQR k (by rw [hfl.out]; exact hlt) (hat.mono (by omega)) (fun i u' m hne hu hm hm' => by
        have h1 := (hown.out.lt_row hu m hm').2
        have h2 := (hat.lt m hm).1
        omega))
      rw [← aug_at xss ys k hka hkx hky, filledQ_step (aug xss ys) k hka] at hst
      obtain ⟨u, d1⟩ : ∃ u, w1.cell? ⟨w.heap.size, k, none⟩ = some u := by
        have hjv : k < vs.length := by rw [hown.out.len, hfl.out]; exact hlt
        have hca := O1.cellAt k (by rw [hfl.out]; exact hlt)
        rw [Nat.zero_add, List.getElem?_eq_getElem hjv] at hca
        exact ⟨_, hca⟩
      have d2 := O1.free k
      rw [Nat.zero_add] at d2
      have HB2 := hid ((hb.out.trans (HB1.out.mono hsz)).setCell (p := ⟨w.heap.size, k, none⟩) (Nat.le_refl _) (.slice a1 (N + 1) c1))
      have hwl : w.heap.size < (w1.setCell ⟨w.heap.size, k, none⟩ (.slice a1 (N + 1) c1)).heap.size := by simp; omega
      clear O1 hat hb1 hfl C HB1
      go_wp2_with fail
      go_roundw
      case rel => exact ⟨k + 1, _, by omega, by go_num, hst, HB2, hwl⟩
      case measure => simp [intOf]; omega
    · have e : k = N := by omega
      subst e
      have HO := hown.out
      have hfa := filledQ_all (aug xss ys)
      rw [HAL.out] at hfa
      rw [hfa] at HO
      have HO2 := hid HO
      clear HO hown hfa
      go_wp2
      go_ret
      exact ⟨vs, rfl, HO2.out, hb.out, hsz0⟩
end Go.Proofs.Ytjnphlgmmjdeiaa.SolR
