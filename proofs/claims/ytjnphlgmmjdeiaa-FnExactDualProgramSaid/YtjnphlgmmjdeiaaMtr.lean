/- Transposed matrices: the program's function and the model's. -/
import Derived.Test.YtjnphlgmmjdeiaaMvp
import Derived.Test.YtjnphlgmmjdeiaaAllV
namespace Go.Proofs.Ytjnphlgmmjdeiaa.Mtr
open Go.RowKit
open Go.Proofs.Ytjnphlgmmjdeiaa.Num Go.Proofs.Ytjnphlgmmjdeiaa.IntRow Go.Proofs.Ytjnphlgmmjdeiaa.GridMore Go.Proofs.Ytjnphlgmmjdeiaa.Rdr Go.Proofs.Ytjnphlgmmjdeiaa.HasL Go.Proofs.Ytjnphlgmmjdeiaa.Rat Go.Proofs.Ytjnphlgmmjdeiaa.Valid Go.Proofs.Ytjnphlgmmjdeiaa.RatLaw Go.Proofs.Ytjnphlgmmjdeiaa.Rats Go.Proofs.Ytjnphlgmmjdeiaa.RatRow Go.Proofs.Ytjnphlgmmjdeiaa.RatOwn Go.Proofs.Ytjnphlgmmjdeiaa.GridQ Go.Proofs.Ytjnphlgmmjdeiaa.RatsSS Go.Proofs.Ytjnphlgmmjdeiaa.Smq Go.Proofs.Ytjnphlgmmjdeiaa.SmqI Go.Proofs.Ytjnphlgmmjdeiaa.Qops Go.Proofs.Ytjnphlgmmjdeiaa.LinP Go.Proofs.Ytjnphlgmmjdeiaa.AllV Go.Proofs.Ytjnphlgmmjdeiaa.Keep Go.Proofs.Ytjnphlgmmjdeiaa.Kept Go.Proofs.Ytjnphlgmmjdeiaa.Cells
set_option linter.unusedVariables false

theorem tr_nil {xss : MatD} (h : xss.length = 0) : trOk xss = false ∧ trV xss = [] := by
  have : xss = [] := List.length_eq_zero_iff.1 h
  subst this
  exact ⟨rfl, rfl⟩
theorem tr_yes {xss : MatD} (h0 : 0 < xss.length) (h : okM xss xss[0].length = true) : trOk xss = true ∧ trV xss = colsQ xss xss[0].length := by
  cases xss with
  | nil => simp at h0
  | cons r rs =>
    have h' : okM (r :: rs) r.length = true := h
    exact ⟨h', if_pos h'⟩
theorem tr_no {xss : MatD} (h0 : 0 < xss.length) (h : okM xss xss[0].length = false) : trOk xss = false ∧ trV xss = [] := by
  cases xss with
  | nil => simp at h0
  | cons r rs =>
    have h' : okM (r :: rs) r.length = false := h
    exact ⟨h', if_neg (by rw [h']; decide)⟩
theorem okM_bd {xss : MatD} {m : Nat} (h : okM xss m = true) (c : Nat) (hc : c < m) : IbA (colQ xss c) := fun j hj => by
  have hj' : j < xss.length := by rw [colQ_len] at hj; exact hj
  have h1 := okM_at h j hj'
  have hc' : c < xss[j].length := by rw [h1.1]; exact hc
  rw [colQ_at xss c j hj' hc' hj]
  exact vr_ib (h1.2 _ (List.getElem_mem _))
theorem gownq_lit (w : World) (lo : Nat) (hb : lo ≤ w.heap.size) : GOwnQ (w.alloc (.cells #[] tQ)) lo tQ tR (.slice (some ⟨w.heap.size, 0, none⟩) 0 0) [] [] :=
  ⟨rfl, World.ownsRow_made w #[] 0 hb (by decide) (by decide), fun j h => by simp at h, fun i j u u' k _ h => by simp at h⟩

set_option maxRecDepth 100000 in
theorem spec_square (a : Option Addr) (cap : Nat) (xss : MatD) (n m : Nat) (lo hi : Nat) (w : World) (hn : xss.length ≤ 1048576) (hnb : n ≤ 9223372036854775807) (hm : m ≤ 9223372036854775806) (hR : Hid (∀ j (hj : j < xss.length), xss[j].length ≤ 1048576)) (h : Els 1 rRow2 w lo hi a xss) (hh : hi ≤ w.heap.size) :
    Calls Try.prog 63 #[.slice a xss.length cap, .int .i64 n, .int .i64 m] w fun e w' => e = .returned (.bool (okM xss m && decide (xss.length = n))) ∧ Below w.heap.size w w' := by
  go_enter Try.func63, Try.ntmps63
  go_wp2_with fail
  go_loopw [7, 8] (fun i _ wr => ∃ k : Nat, k ≤ xss.length ∧ i = .int .i64 k ∧ Hid (∀ j (hj : j < xss.length), j < k → xss[j].length = m ∧ ∀ p ∈ xss[j], vr p.1 p.2 = true) ∧ Hid (Below w.heap.size w wr)) (fun i _ _ => xss.length - (intOf i).toNat)
  case atStart => exact ⟨0, Nat.zero_le _, rfl, hid (fun j _ hj => by omega), hid (Below.refl _ _)⟩
  case round =>
    obtain ⟨k, hk, rfl, hok, hb⟩ := hrel
    by_cases hlt : k < xss.length
    · obtain ⟨b, off, aj, capj, he, hx0, hbB, g, rx, hx1, hx2⟩ := mat_at (h.grow good_row2 hb.out hh) k hlt
      subst he
      have hlt' : (k : Int) < (xss.length : Int) := by omega
      have h0' : (0 : Int) ≤ (k : Int) := by omega
      clear hx0 hx1 hx2 rx
      by_cases hlm : xss[k].length = m
      · have hne : ((xss[k].length : Int) != (m : Int)) = false := by simp [hlm]
        have HLM := hid hlm
        clear hlm
        go_wp2_with fail
        obtain ⟨w5, rfl⟩ : ∃ wo : World, wo = wr := ⟨_, rfl⟩
        go_loopw [8] (fun q wr => ∃ p : Nat, p ≤ m ∧ q = .int .i64 p ∧ Hid (okTo xss[k] p) ∧ Hid (Below w.heap.size w wr)) (fun q _ => m - (intOf q).toNat)
        case atStart => exact ⟨0, Nat.zero_le _, rfl, hid (fun j _ hj => by omega), hb⟩
        case round =>
          obtain ⟨p, hp, rfl, hokp, hb2⟩ := hrel
          clear hb g
          by_cases hpm : p < m
          · have hpx : p < xss[k].length := by have := HLM.out; omega
            obtain ⟨b2, off2, aj2, capj2, he2, hx0, hbB2, g2, rx, hx1, hx2⟩ := mat_at (h.grow good_row2 hb2.out hh) k hlt
            simp only [Option.some.injEq, Addr.mk.injEq, and_true] at he2
            obtain ⟨rfl, rfl⟩ := he2
            obtain ⟨b3, off3, he3, _, hbB3, c0, c1⟩ := rats_at rx p hpx
            subst he3
            have hbd := rats_bd rx p hpx
            have hpm' : (p : Int) < (m : Int) := by omega
            have hpx' : (p : Int) < (xss[k].length : Int) := by omega
            have hp0' : (0 : Int) ≤ (p : Int) := by omega
            have hsz2 := hb2.out.size
            have A := hid (fun W => spec_valid xss[k][p].1 xss[k][p].2 W hbd.1.1 hbd.1.2 hbd.2.1 hbd.2.2)
            clear hx0 hx1 hx2 rx hbd
            cases hv : vr xss[k][p].1 xss[k][p].2 with
            | true =>
              rw [hv] at A
              have HO := hid (okTo_step hokp.out hpx hv)
              clear hv hokp
              go_wp2_with fail
              with_reducible refine (A.out _).mono ?_
              rintro e w6 ⟨rfl, hb6⟩
              have HB := hid (hb2.out.trans (hb6.mono hsz2))
              clear hb6 hb2
              go_wp2_with fail
              go_roundw
              case rel => exact ⟨p + 1, by omega, by go_num, HO, HB⟩
              case measure => simp [intOf]; omega
            | false =>
              rw [hv] at A
              have HN := hid (show okM xss m = false from okM_no k hlt (.inr ⟨xss[k][p], List.getElem_mem _, hv⟩))
              clear hv hokp
              go_wp2_with fail
              with_reducible refine (A.out _).mono ?_
              rintro e w6 ⟨rfl, hb6⟩
              have HB := hid (hb2.out.trans (hb6.mono hsz2))
              clear hb6 hb2
              go_wp2_with fail
              go_ret
              exact ⟨by rw [HN.out]; rfl, HB.out⟩
          · have hpm' : ¬ (p : Int) < (m : Int) := by omega
            have HO := hid (fun j (hj : j < xss.length) (hjk : j < k + 1) => show xss[j].length = m ∧ ∀ p ∈ xss[j], vr p.1 p.2 = true by
              by_cases e : j = k
              · subst e
                refine ⟨HLM.out, fun q hq => ?_⟩
                obtain ⟨i, hi, rfl⟩ := List.getElem_of_mem hq
                exact hokp.out i hi (by have := HLM.out; omega)
              · exact hok.out j hj (by omega))
            clear hok hokp h
            go_wp2_with fail
            go_roundw
            case rel => exact ⟨k + 1, by omega, by go_num, HO, hb2⟩
            case measure => simp [intOf]; omega
      · have hne : ((xss[k].length : Int) != (m : Int)) = true := by simp; omega
        have HN := hid (show okM xss m = false from okM_no k hlt (.inl hlm))
        clear hok h hlm
        go_wp2_with fail
        go_ret
        exact ⟨by rw [HN.out]; rfl, hb.out⟩
    · have e : k = xss.length := by omega
      subst e
      have HY := hid (show okM xss m = true from okM_yes (fun j hj => hok.out j hj hj))
      clear h hok
      by_cases hnn : xss.length = n
      · have hq : ((xss.length : Int) == (n : Int)) = true := by simp [hnn]
        have HQ := hid (decide_eq_true hnn)
        clear hnn
        go_wp2_with fail
        go_ret
        exact ⟨by rw [HY.out, HQ.out]; rfl, hb.out⟩
      · have hq : ((xss.length : Int) == (n : Int)) = false := by simp; omega
        have HQ := hid (decide_eq_false hnn)
        clear hnn
        go_wp2_with fail
        go_ret
        exact ⟨by rw [HY.out, HQ.out]; rfl, hb.out⟩

set_option maxRecDepth 100000 in
theorem impl_matrix (a : Option Addr) (cap : Nat) (xss : MatD) (m : Nat) (lo hi : Nat) (w : World) (hn : xss.length ≤ 1048576) (hm : m ≤ 9223372036854775806) (hR : Hid (∀ j (hj : j < xss.length), xss[j].length ≤ 1048576)) (h : Els 1 rRow2 w lo hi a xss) (hh : hi ≤ w.heap.size) :
    Calls Try.prog 73 #[.slice a xss.length cap, .int .i64 m] w fun e w' => e = .returned (.bool (okM xss m)) ∧ Below w.heap.size w w' := by
  go_enter Try.func73, Try.ntmps73
  go_wp2_with fail
  go_loopw [6, 9] (fun _ i wr => ∃ k : Nat, k ≤ xss.length ∧ i = .int .i64 k ∧ Hid (∀ j (hj : j < xss.length), j < k → xss[j].length = m ∧ ∀ p ∈ xss[j], vr p.1 p.2 = true) ∧ Hid (Below w.heap.size w wr)) (fun _ i _ => xss.length - (intOf i).toNat)
  case atStart => exact ⟨0, Nat.zero_le _, rfl, hid (fun j _ hj => by omega), hid (Below.refl _ _)⟩
  case round =>
    obtain ⟨k, hk, rfl, hok, hb⟩ := hrel
    by_cases hlt : k < xss.length
    · obtain ⟨b, off, aj, capj, he, hx0, hbB, g, rx, hx1, hx2⟩ := mat_at (h.grow good_row2 hb.out hh) k hlt
      subst he
      have hlt' : (k : Int) < (xss.length : Int) := by omega
      have h0' : (0 : Int) ≤ (k : Int) := by omega
      have hrow := hR.out k hlt
      have hsz := hb.out.size
      have A := hid (impl_allv aj capj xss[k] lo hi wr (by omega) rx (by omega))
      clear hx0 hx1 hx2 rx hrow
      by_cases hlm : xss[k].length = m
      · have hne : ((xss[k].length : Int) != (m : Int)) = false := by simp [hlm]
        have HLM := hid hlm
        clear hlm
        cases hv : allV xss[k] with
        | true =>
          rw [hv] at A
          have HO := hid (fun j (hj : j < xss.length) (hjk : j < k + 1) => show xss[j].length = m ∧ ∀ p ∈ xss[j], vr p.1 p.2 = true by
            by_cases e : j = k
            · subst e
              exact ⟨HLM.out, fun q hq => List.all_eq_true.1 hv q hq⟩
            · exact hok.out j hj (by omega))
          clear hv hok h
          go_wp2_with fail
          with_reducible refine A.out.mono ?_
          rintro e w6 ⟨rfl, hb6⟩
          have HB := hid (hb.out.trans (hb6.mono hsz))
          clear hb6 hb
          go_wp2_with fail
          go_roundw
          case rel => exact ⟨k + 1, by omega, by go_num, HO, HB⟩
          case measure => simp [intOf]; omega
        | false =>
          rw [hv] at A
          have HN := hid (show okM xss m = false by
            have h1 : ¬ ∀ p ∈ xss[k], vr p.1 p.2 = true := fun h2 => by
              have h3 : allV xss[k] = true := List.all_eq_true.2 h2
              rw [hv] at h3; cases h3
            cases hb3 : okM xss m with
            | false => rfl
            | true => exact absurd (okM_at hb3 k hlt).2 h1)
          clear hv hok h
          go_wp2_with fail
          with_reducible refine A.out.mono ?_
          rintro e w6 ⟨rfl, hb6⟩
          have HB := hid (hb.out.trans (hb6.mono hsz))
          clear hb6 hb
          go_wp2_with fail
          go_ret
          exact ⟨by rw [HN.out]; rfl, HB.out⟩
      · have hne : ((xss[k].length : Int) != (m : Int)) = true := by simp; omega
        have HN := hid (show okM xss m = false from okM_no k hlt (.inl hlm))
        clear hok h hlm A
        go_wp2_with fail
        go_ret
        exact ⟨by rw [HN.out]; rfl, hb.out⟩
    · have e : k = xss.length := by omega
      subst e
      have HY := hid (show okM xss m = true from okM_yes (fun j hj => hok.out j hj hj))
      clear h hok
      go_wp2_with fail
      go_ret
      exact ⟨by rw [HY.out]; rfl, hb.out⟩

set_option maxRecDepth 100000 in
theorem impl_col (a : Option Addr) (cap : Nat) (xss : MatD) (m c : Nat) (lo hi : Nat) (w : World) (hn : xss.length ≤ 1048576) (hcm : c < m) (hm : m ≤ 1048576) (ho : okM xss m = true) (h : Els 1 rRow2 w lo hi a xss) (hh : hi ≤ w.heap.size) :
    Calls Try.prog 113 #[.slice a xss.length cap, .int .i64 c] w fun e w' => e = .returned (.slice (some ⟨w.heap.size, 0, none⟩) xss.length xss.length) ∧ OwnQ w' w.heap.size 35 (.slice (some ⟨w.heap.size, 0, none⟩) xss.length xss.length) (colQ xss c) ∧ Below w.heap.size w w' := by
  obtain ⟨i0, hi0, hz0, hz1, hz2⟩ := info_parts infoRat
  have hmk := make_k (P := Try.prog) w 25 35 i0 _ 2 16 Try.underlying25 hi0 hz0 hz1 hz2 (by omega) xss.length hn
  have hat0 := hid (ownq_made w 35 xss.length hn)
  have hcl := hid (colQ_len xss c)
  have HI := hid (okM_bd ho c hcm)
  have HOK := hid (fun j (hj : j < xss.length) => (okM_at ho j hj).1)
  clear ho
  go_enter Try.func113, Try.ntmps113
  go_wp2_with fail
  go_loopw [6, 7, 13] (fun _ _ i wr => ∃ k : Nat, k ≤ xss.length ∧ i = .int .i64 k ∧ Hid (OwnQ wr w.heap.size 35 (.slice (some ⟨w.heap.size, 0, none⟩) xss.length xss.length) (fillQ (colQ xss c) k)) ∧ Hid (Below w.heap.size w wr) ∧ w.heap.size < wr.heap.size) (fun _ _ i _ => xss.length - (intOf i).toNat)
  case atStart => exact ⟨0, Nat.zero_le _, rfl, hid (by rw [fillQ_zero, hcl.out]; exact hat0.out), hid ((Below.refl _ _).alloc (Nat.le_refl _) _), by simp⟩
  case round =>
    obtain ⟨k, hk, rfl, hown, hb, hwl⟩ := hrel
    clear hmk hat0
    have hfl := hid (fillQ_length (colQ xss c) k (by rw [hcl.out]; exact hk))
    by_cases hlt : k < xss.length
    · obtain ⟨b, off, aj, capj, he, hx0, hbB, g, rx, hx1, hx2⟩ := mat_at (h.grow good_row2 hb.out hh) k hlt
      subst he
      have hck : c < xss[k].length := by rw [HOK.out k hlt]; exact hcm
      obtain ⟨b3, off3, he3, hx3, hbB3, c0, c1⟩ := rats_at rx c hck
      subst he3
      have hlt' : (k : Int) < (xss.length : Int) := by omega
      have h0' : (0 : Int) ≤ (k : Int) := by omega
      have hck' : (c : Int) < (xss[k].length : Int) := by omega
      have hc0' : (0 : Int) ≤ (c : Int) := by omega
      have hkc : k < (colQ xss c).length := by rw [hcl.out]; exact hlt
      have hce := ownr_at (show xss.length = (fillQ (colQ xss c) k).length by rw [hfl.out, hcl.out]) (show wr.ownsRow w.heap.size 35 2 (.slice (some ⟨w.heap.size, 0, none⟩) xss.length xss.length) xss.length (fr (fillQ (colQ xss c) k)) by have := hown.out.1; unfold OwnR at this; rw [hfl.out, hcl.out] at this; exact this) k (by rw [hfl.out]; exact hkc)
      obtain ⟨u0, e0⟩ : ∃ u, wr.cell? ⟨w.heap.size, k * 2, none⟩ = some u := ⟨_, hce.1⟩
      obtain ⟨u1, e1⟩ : ∃ u, wr.cell? ⟨w.heap.size, k * 2 + 1, none⟩ = some u := ⟨_, hce.2⟩
      clear hce
      have f0 := ownq_free hown.out (k * 2)
      have f1 := ownq_free hown.out (k * 2 + 1)
      have hst := ownq_set hown.out k (by rw [hfl.out]; exact hkc) (colQ xss c)[k] (HI.out k hkc)
      rw [fillQ_step _ _ hkc, colQ_at xss c k hlt hck hkc] at hst
      have HO := hid hst
      have HB := hid ((hb.out.setCell (p := ⟨w.heap.size, k * 2, none⟩) (Nat.le_refl _) (.int .i64 xss[k][c].1)).setCell (p := ⟨w.heap.size, k * 2 + 1, none⟩) (Nat.le_refl _) (.int .i64 xss[k][c].2))
      have hwl2 : w.heap.size < ((wr.setCell ⟨w.heap.size, k * 2, none⟩ (.int .i64 xss[k][c].1)).setCell ⟨w.heap.size, k * 2 + 1, none⟩ (.int .i64 xss[k][c].2)).heap.size := by simp; omega
      clear h rx hx0 hx1 hx2 hx3 hst hown hb hfl hkc
      go_wp2_with fail
      go_roundw
      case rel => exact ⟨k + 1, by omega, by go_num, HO, HB, hwl2⟩
      case measure => simp [intOf]; omega
    · have e : k = xss.length := by omega
      subst e
      have HE := hown.out
      rw [show xss.length = (colQ xss c).length from hcl.out.symm, fillQ_all] at HE
      have HE2 := hid (show OwnQ wr w.heap.size 35 (.slice (some ⟨w.heap.size, 0, none⟩) xss.length xss.length) (colQ xss c) by rw [hcl.out] at HE; exact HE)
      clear h hown HE hfl
      go_wp2_with fail
      go_ret
      exact ⟨rfl, HE2.out, hb.out⟩

set_option maxRecDepth 100000 in
set_option maxHeartbeats 1000000 in
theorem impl_tr (a : Option Addr) (cap : Nat) (xss : MatD) (lo hi : Nat) (w : World) (hn : xss.length ≤ 1048576) (hR : Hid (∀ j (hj : j < xss.length), xss[j].length ≤ 1048576)) (h : Els 1 rRow2 w lo hi a xss) (hh : hi ≤ w.heap.size) :
    Calls Try.prog 84 #[.slice a xss.length cap] w fun e w' => ∃ a0 c0 vs, e = .returned (.tuple #[.slice a0 (trV xss).length c0, .bool (trOk xss)]) ∧ GOwnQ w' w.heap.size tQ tR (.slice a0 (trV xss).length c0) vs (trV xss) ∧ Below w.heap.size w w' := by
  obtain ⟨i0, hi0, hz0, hz1, hz2⟩ := info_parts infoRow
  by_cases h0 : xss.length = 0
  · have hq : ((xss.length : Int) == 0) = true := by simp [h0]
    have HT := hid (tr_nil h0)
    clear h0 h
    go_enter Try.func84, Try.ntmps84
    go_wp2_with fail
    go_ret2
    first
      | exact ⟨none, 0, [], by rw [HT.out.1, HT.out.2]; rfl, by rw [HT.out.2]; exact GOwnQ.nil _ _ _ _, Below.refl _ _⟩
      | exact ⟨none, 0, by rw [HT.out.1, HT.out.2]; rfl, ⟨[], by rw [HT.out.2]; exact GOwnQ.nil _ _ _ _⟩, Below.refl _ _⟩
  · have hq : ((xss.length : Int) == 0) = false := by simp only [beq_eq_false_iff_ne, ne_eq]; omega
    have hp0 : 0 < xss.length := by omega
    obtain ⟨b, off, aj, capj, he, hx0, hbB, g, rx, hx1, hx2⟩ := mat_at h 0 hp0
    subst he
    simp only [Nat.add_zero] at g
    have hrow := hR.out 0 hp0
    have M := hid (impl_matrix (some ⟨b, off, none⟩) cap xss xss[0].length lo hi w hn (by omega) hR h hh)
    have hp0' : (0 : Int) < (xss.length : Int) := by omega
    clear hx0 hx1 hx2 rx
    cases hv : okM xss xss[0].length with
    | false =>
      rw [hv] at M
      have HT := hid (tr_no hp0 hv)
      clear hv h
      go_enter Try.func84, Try.ntmps84
      go_wp2_with fail
      with_reducible refine M.out.mono ?_
      rintro e w1 ⟨rfl, hb1⟩
      have HB := hid hb1
      clear hb1
      go_wp2_with fail
      go_ret2
      first
        | exact ⟨none, 0, [], by rw [HT.out.1, HT.out.2]; rfl, by rw [HT.out.2]; exact GOwnQ.nil _ _ _ _, HB.out⟩
        | exact ⟨none, 0, by rw [HT.out.1, HT.out.2]; rfl, ⟨[], by rw [HT.out.2]; exact GOwnQ.nil _ _ _ _⟩, HB.out⟩
    | true =>
      rw [hv] at M
      have HT := hid (tr_yes hp0 hv)
      have HV := hid hv
      clear hv
      go_enter Try.func84, Try.ntmps84
      go_wp2_with fail
      with_reducible refine M.out.mono ?_
      rintro e w1 ⟨rfl, hb1⟩
      have g1 := (hb1.cell (p := ⟨b, off, none⟩) (by show b < _; omega)).trans g
      have H1 := hid (h.grow good_row2 hb1 hh)
      have s1 := hb1.size
      obtain ⟨m, hm⟩ : ∃ m, xss[0].length = m := ⟨_, rfl⟩
      rw [hm] at g1 hrow HT HV
      clear hm g M
      have hmk := make_rows (P := Try.prog) w1 24 25 i0 Try.underlying24 hi0 hz0 hz1 hz2 m (by omega)
      have hat0 := hid (rowsq_made w1 25 35 m (by omega))
      have HB0 := hid (hb1.alloc s1 (.cells (Array.replicate m (.slice none 0 0)) 25))
      have hcl := hid (colsQ_len xss m)
      clear hb1 h
      go_wp2_with fail
      go_loopw [5, 25] (fun _ i wr => ∃ (k : Nat) (vs : List Value), k ≤ m ∧ i = .int .i64 k ∧ Hid (GOwnQ wr w1.heap.size tQ tR (.slice (some ⟨w1.heap.size, 0, none⟩) m m) vs (filledQ (colsQ xss m) k)) ∧ Hid (Below w.heap.size w wr) ∧ Hid (Below w1.heap.size w1 wr) ∧ w1.heap.size < wr.heap.size) (fun _ i _ => m - (intOf i).toNat)
      case atStart => exact ⟨0, _, Nat.zero_le _, rfl, hid (by rw [filledQ_zero, hcl.out]; exact hat0.out), HB0, hid ((Below.refl _ _).alloc (Nat.le_refl _) _), by simp⟩
      case round =>
        obtain ⟨k, vs, hk, rfl, hown, hb, hbw, hwl⟩ := hrel
        clear hmk hat0 HB0 g1
        have hfl := hid (filledQ_length (colsQ xss m) k (by rw [hcl.out]; exact hk))
        by_cases hlt : k < m
        · have hlt' : (k : Int) < (m : Int) := by omega
          have h0' : (0 : Int) ≤ (k : Int) := by omega
          have hsz := hb.out.size
          have C := hid (impl_col (some ⟨b, off, none⟩) cap xss m k lo hi wr hn hlt hrow HV.out (H1.out.grow good_row2 hbw.out (by omega)) (by omega))
          go_wp2_with fail
          with_reducible refine C.out.mono ?_
          rintro e w5 ⟨rfl, hat, hb5⟩
          have hkc : k < (colsQ xss m).length := by rw [hcl.out]; exact hlt
          have O1 := hown.out.below' hb5
          have hst := gownq_store O1 (by rw [hfl.out, hcl.out]) tQR k (by rw [hfl.out]; exact hkc) (hat.mono (Nat.le_of_lt hwl)) (fun i u' q hne hu hq hq' => by
            have h1 := (hown.out.lt_row hu q hq').2
            simp [Value.ownBlock] at hq
            omega)
          have hfs := filledQ_step (colsQ xss m) k hkc
          rw [colsQ_at xss m k hkc] at hfs
          rw [hfs] at hst
          have HO := hid hst
          obtain ⟨u, c1⟩ : ∃ u, w5.cell? ⟨w1.heap.size, k, none⟩ = some u := by
            have hjv : k < vs.length := by rw [hown.out.len, hfl.out]; exact hkc
            have hca := O1.cellAt k (by rw [hfl.out]; exact hkc)
            rw [Nat.zero_add, List.getElem?_eq_getElem hjv] at hca
            exact ⟨_, hca⟩
          have c2 := O1.free k
          rw [Nat.zero_add] at c2
          have s5 := hb5.size
          have HB := hid ((hb.out.trans (hb5.mono hsz)).setCell (p := ⟨w1.heap.size, k, none⟩) s1 (.slice (some ⟨wr.heap.size, 0, none⟩) xss.length xss.length))
          have HBW := hid ((hbw.out.trans (hb5.mono (Nat.le_of_lt hwl))).setCell (p := ⟨w1.heap.size, k, none⟩) (Nat.le_refl _) (.slice (some ⟨wr.heap.size, 0, none⟩) xss.length xss.length))
          have hwl2 : w1.heap.size < (w5.setCell ⟨w1.heap.size, k, none⟩ (.slice (some ⟨wr.heap.size, 0, none⟩) xss.length xss.length)).heap.size := by simp; omega
          clear O1 hst hfs hat hb5 hown hb hbw hkc hfl C
          go_wp2_with fail
          go_roundw
          case rel => exact ⟨k + 1, _, by omega, by go_num, HO, HB, HBW, hwl2⟩
          case measure => simp [intOf]; omega
        · have e : k = m := by omega
          subst e
          have HE := hown.out
          rw [show filledQ (colsQ xss k) k = colsQ xss k by rw [show k = (colsQ xss k).length from hcl.out.symm]; simp only [hcl.out]; exact (by have := filledQ_all (colsQ xss k); rw [hcl.out] at this; exact this)] at HE
          have HE2 := hid (HE.mono s1)
          clear hown HE hfl
          go_wp2_with fail
          go_ret2
          first
            | exact ⟨some ⟨w1.heap.size, 0, none⟩, k, vs, by rw [HT.out.1, HT.out.2, hcl.out]; rfl, by rw [HT.out.2, hcl.out]; exact HE2.out, hb.out⟩
            | exact ⟨some ⟨w1.heap.size, 0, none⟩, k, by rw [HT.out.1, HT.out.2, hcl.out]; rfl, ⟨vs, by rw [HT.out.2, hcl.out]; exact HE2.out⟩, hb.out⟩

set_option maxRecDepth 100000 in
set_option maxHeartbeats 1000000 in
theorem spec_tr (a : Option Addr) (cap : Nat) (xss : MatD) (lo hi : Nat) (w : World) (hn : xss.length ≤ 1048576) (hR : Hid (∀ j (hj : j < xss.length), xss[j].length ≤ 1048576)) (h : Els 1 rRow2 w lo hi a xss) (hh : hi ≤ w.heap.size) :
    Calls Try.prog 88 #[.slice a xss.length cap] w fun e w' => ∃ a0 c0 vs, e = .returned (.tuple #[.slice a0 (trV xss).length c0, .bool (trOk xss)]) ∧ GOwnQ w' w.heap.size tQ tR (.slice a0 (trV xss).length c0) vs (trV xss) ∧ Below w.heap.size w w' := by
  obtain ⟨i0, hi0, hz0, hz1, hz2⟩ := info_parts infoRow
  obtain ⟨i1, hi1, hy0, hy1, hy2⟩ := info_parts infoRat
  have L0 := hid (gownq_lit w w.heap.size (Nat.le_refl _))
  have HB0 := hid ((Below.refl w.heap.size w).alloc (Nat.le_refl _) (.cells #[] tQ))
  by_cases h0 : xss.length = 0
  · have hq : ((xss.length : Int) == 0) = true := by simp [h0]
    have HT := hid (tr_nil h0)
    clear h0 h
    go_enter Try.func88, Try.ntmps88
    go_wp2_with fail
    go_ret2
    first
      | exact ⟨_, 0, [], by rw [HT.out.1, HT.out.2]; rfl, by rw [HT.out.2]; exact L0.out, HB0.out⟩
      | exact ⟨_, 0, by rw [HT.out.1, HT.out.2]; rfl, ⟨[], by rw [HT.out.2]; exact L0.out⟩, HB0.out⟩
  · have hq : ((xss.length : Int) == 0) = false := by simp only [beq_eq_false_iff_ne, ne_eq]; omega
    have hp0 : 0 < xss.length := by omega
    have HX0 := hid (fun W (hW : Below w.heap.size w W) => h.grow good_row2 hW hh)
    have H1 := hid (h.grow good_row2 HB0.out hh)
    have hrow := hR.out 0 hp0
    have hxl : xss.length ≤ 9223372036854775807 := by omega
    have M := hid (spec_square a cap xss xss.length xss[0].length lo hi _ hn hxl (by omega) hR H1.out (by simp; omega))
    rw [decide_eq_true (rfl : xss.length = xss.length), Bool.and_true] at M
    obtain ⟨b, off, aj, capj, he, hx0, hbB, g, rx, hx1, hx2⟩ := mat_at H1.out 0 hp0
    subst he
    simp only [Nat.add_zero] at g
    have hp0' : (0 : Int) < (xss.length : Int) := by omega
    clear hx0 hx1 hx2 rx h
    cases hv : okM xss xss[0].length with
    | false =>
      rw [hv] at M
      have HT := hid (tr_no hp0 hv)
      clear hv
      go_enter Try.func88, Try.ntmps88
      go_wp2_with fail
      with_reducible refine M.out.mono ?_
      rintro e w1 ⟨rfl, hb1⟩
      have HB := hid (HB0.out.trans (hb1.mono (by simp)))
      have L1 := hid (L0.out.below' hb1)
      clear hb1
      go_wp2_with fail
      go_ret2
      first
        | exact ⟨_, 0, [], by rw [HT.out.1, HT.out.2]; rfl, by rw [HT.out.2]; exact L1.out, HB.out⟩
        | exact ⟨_, 0, by rw [HT.out.1, HT.out.2]; rfl, ⟨[], by rw [HT.out.2]; exact L1.out⟩, HB.out⟩
    | true =>
      rw [hv] at M
      have HT := hid (tr_yes hp0 hv)
      have HV := hid hv
      clear hv
      go_enter Try.func88, Try.ntmps88
      go_wp2_with fail
      with_reducible refine M.out.mono ?_
      rintro e w1 ⟨rfl, hb1⟩
      have HB1 := hid (HB0.out.trans (hb1.mono (by simp)))
      have L1 := hid (L0.out.below' hb1)
      have H2 := hid (H1.out.grow good_row2 hb1 (by simp; omega))
      have s1 := HB1.out.size
      obtain ⟨m, hm⟩ : ∃ m, xss[0].length = m := ⟨_, rfl⟩
      have HM0 := hid hm
      rw [hm] at hrow HT HV
      clear hm g M HB0 L0 H1 hb1
      go_wp2_with fail
      go_loopw [4, 5, 6, 7] (fun s4 i _ _ wr => ∃ (k : Nat) (v : Value) (vs : List Value), k ≤ m ∧ i = .int .i64 k ∧ v = s4 ∧ Hid (GOwnQ wr w.heap.size tQ tR v vs (colsQ xss k)) ∧ Hid (Below w.heap.size w wr)) (fun _ i _ _ _ => m - (intOf i).toNat)
      case atStart => exact ⟨0, _, [], Nat.zero_le _, rfl, rfl, L1, HB1⟩
      case round =>
        obtain ⟨k, v, vs, hk, rfl, rfl, hown, hb⟩ := hrel
        clear L1 HB1
        have hsz := hb.out.size
        obtain ⟨b2, off2, aj2, capj2, he2, hx0, hbB2, g2, rx, hx1, hx2⟩ := mat_at (HX0.out _ hb.out) 0 hp0
        simp only [Option.some.injEq, Addr.mk.injEq, and_true] at he2
        obtain ⟨rfl, rfl⟩ := he2
        simp only [Nat.add_zero] at g2
        rw [HM0.out] at g2
        clear hx0 hx1 hx2 rx
        by_cases hlt : k < m
        · have hlt' : (k : Int) < (m : Int) := by omega
          have h0' : (0 : Int) ≤ (k : Int) := by omega
          have O0 := hid (show OwnR (wr.alloc (.cells #[] 35)) wr.heap.size 35 (.slice (some ⟨wr.heap.size, 0, none⟩) 0 0) [] from ownR_lit wr wr.heap.size 35 (Nat.le_refl _))
          have B1 := hid ((Below.refl wr.heap.size wr).alloc (Nat.le_refl _) (.cells #[] 35))
          have hcl := hid (colQ_len xss k)
          go_wp2_with fail
          obtain ⟨w5, rfl⟩ : ∃ wo : World, wo = wr := ⟨_, rfl⟩
          go_loopw [6, 7] (fun s6 i wr => ∃ j : Nat, j ≤ xss.length ∧ i = .int .i64 j ∧ Hid (OwnR wr w5.heap.size 35 s6 ((colQ xss k).take j)) ∧ Hid (Below w5.heap.size w5 wr)) (fun _ i _ => xss.length - (intOf i).toNat)
          case atStart => exact ⟨0, Nat.zero_le _, rfl, O0, B1⟩
          case round =>
            obtain ⟨j, hj, rfl, ho, hb2⟩ := hrel
            clear O0 B1
            have hs2 := hb2.out.size
            have HBW := hid (hb.out.trans (hb2.out.mono hsz))
            by_cases hjl : j < xss.length
            · obtain ⟨b3, off3, aj3, capj3, he3, hx0, hbB3, g3, rx, hx1, hx2⟩ := mat_at (HX0.out _ HBW.out) j hjl
              simp only [Option.some.injEq, Addr.mk.injEq, and_true] at he3
              obtain ⟨rfl, rfl⟩ := he3
              have hck : k < xss[j].length := by rw [(okM_at HV.out j hjl).1]; exact hlt
              obtain ⟨b4, off4, he4, hx4, hbB4, c0, c1⟩ := rats_at rx k hck
              subst he4
              have hjl' : (j : Int) < (xss.length : Int) := by omega
              have hj0' : (0 : Int) ≤ (j : Int) := by omega
              have hck' : (k : Int) < (xss[j].length : Int) := by omega
              have hjc : j < (colQ xss k).length := by rw [hcl.out]; exact hjl
              have HTK := hid (show (colQ xss k).take j ++ [xss[j][k]] = (colQ xss k).take (j + 1) by rw [List.take_succ_eq_append_getElem hjc, colQ_at xss k j hjl hck hjc])
              have htl : ((colQ xss k).take j).length ≤ 4398046511104 := by rw [List.length_take]; omega
              clear hx0 hx1 hx2 hx4 rx g2 hjc
              go_wp2_with (at_builtin; refine append_rat rfl _ _ 25 rfl w5.heap.size 35 i1 Try.underlying25 hi1 hy0 hy1 hy2 wr _ ((colQ xss k).take j) xss[j][k] ho.out (by rfl) hs2 (by rfl) htl ?_)
              intro v' w6 hO hB hz'
              rw [HTK.out] at hO
              have HO := hid hO
              have HB := hid (hb2.out.trans hB)
              clear hO hB c0 c1 g3 ho hb2 HBW HTK
              go_wp2_with fail
              go_roundw
              case rel => exact ⟨j + 1, by omega, by go_num, HO, HB⟩
              case measure => simp [intOf]; omega
            · have hjl' : ¬ (j : Int) < (xss.length : Int) := by omega
              have hoE := ho.out
              rw [List.take_of_length_le (by rw [hcl.out]; omega)] at hoE
              have hibc := okM_bd HV.out k hlt
              have HU := hid (show OwnQ wr w5.heap.size 35 _ (colQ xss k) from ⟨hoE, hibc⟩)
              clear hoE ho
              obtain ⟨au, capu, hvu, hx5, hx6, hx7⟩ := HU.out.form
              subst hvu
              have GO := hid (hown.out.below' hb2.out)
              have hfar : Hid (∀ u' ∈ vs, Far (.slice au (colQ xss k).length capu) u') := hid (fun u' hu' q hq hq' => by
                obtain ⟨i, hi⟩ := List.getElem?_of_mem hu'
                have h1 := (hown.out.lt_row hi q hq').2
                have h2 := (HU.out.lt q hq).1
                omega)
              have hck : (colsQ xss k).length ≤ 1048576 := by rw [colsQ_len]; omega
              have HSN := hid (colsQ_snoc xss k)
              clear hx5 hx6 hx7 g2
              go_wp2_with (at_builtin; refine wpList_headQ rfl _ _ 24 rfl tQ tR tQR i0 Try.underlying24 hi0 hz0 hz1 hz2 wr w.heap.size v (.slice au (colQ xss k).length capu) vs (colsQ xss k) (colQ xss k) rfl GO.out (HU.out.mono (by omega)) hfar.out rfl hck (by omega) ?_)
              intro v' w8 hg2 hgr2 hs8
              rw [← HSN.out] at hg2
              have hg2' := hid hg2
              have hgr2' := hid hgr2
              clear hg2 hgr2
              have HB := hid (HBW.out.grown hgr2'.out (by omega) (fun q hq => (GO.out.lt q hq).1))
              clear hgr2' HU hfar GO hb2 HBW hown hb
              go_wp2_with fail
              go_roundw
              case rel => exact ⟨k + 1, _, _, by omega, by go_num, rfl, hg2', HB⟩
              case measure => simp [intOf]; omega
        · have hlt' : ¬ (k : Int) < (m : Int) := by omega
          have e : k = m := by omega
          subst e
          have hcl := hid (colsQ_len xss k)
          obtain ⟨a0, c0, hv0, hx5, hx6, hx7⟩ := hown.out.form
          subst hv0
          rw [hcl.out] at hown
          clear hx5 hx6 hx7 HX0
          go_wp2_with fail
          go_ret2
          first
            | exact ⟨a0, c0, vs, by rw [HT.out.1, HT.out.2, hcl.out]; rfl, by rw [HT.out.2, hcl.out]; exact hown.out, hb.out⟩
            | exact ⟨a0, c0, by rw [HT.out.1, HT.out.2, hcl.out]; rfl, ⟨vs, by rw [HT.out.2, hcl.out]; exact hown.out⟩, hb.out⟩
end Go.Proofs.Ytjnphlgmmjdeiaa.Mtr
