/- The laws' own helpers on matrices of rationals. -/
import Derived.Test.YtjnphlgmmjdeiaaRatsF
import Derived.Deep.RegionHeld3
import Derived.Deep.DeepCutAuto
namespace Go.Proofs.Ytjnphlgmmjdeiaa.RatsSS
open Go.Deep Go.Joins Go.ChangeShapes Go.WideShapes Go.ChangeAt Go.RowKit
open Go.Proofs.Ytjnphlgmmjdeiaa.Num Go.Proofs.Ytjnphlgmmjdeiaa.IntRow Go.Proofs.Ytjnphlgmmjdeiaa.Grid Go.Proofs.Ytjnphlgmmjdeiaa.GridMore Go.Proofs.Ytjnphlgmmjdeiaa.Rdr Go.Proofs.Ytjnphlgmmjdeiaa.HasL Go.Proofs.Ytjnphlgmmjdeiaa.RatLaw Go.Proofs.Ytjnphlgmmjdeiaa.Rats Go.Proofs.Ytjnphlgmmjdeiaa.RatRow Go.Proofs.Ytjnphlgmmjdeiaa.RatOwn Go.Proofs.Ytjnphlgmmjdeiaa.GridQ Go.Proofs.Ytjnphlgmmjdeiaa.Keep Go.Proofs.Ytjnphlgmmjdeiaa.Kept Go.Proofs.Ytjnphlgmmjdeiaa.Thaw Go.Proofs.Ytjnphlgmmjdeiaa.RatsF
set_option linter.unusedVariables false

abbrev MatD := List (List RatD)
abbrev tQ : TypeId := 25
abbrev tR : TypeId := 35
theorem tQR : tQ ≠ tR := by decide
/-- The cells that a matrix takes. -/
def szM (xss : MatD) : Nat := tots List.length xss
theorem mat_at {w : World} {lo hi : Nat} {a : Option Addr} {xss : MatD} (h : Els 1 rRow2 w lo hi a xss) (j : Nat) (hj : j < xss.length) : ∃ b off aj capj, a = some ⟨b, off, none⟩ ∧ lo ≤ b ∧ b < hi ∧ w.cell? ⟨b, off + j, none⟩ = some (.slice aj xss[j].length capj) ∧ Els 2 rRat w lo hi aj xss[j] ∧ xss[j].length ≤ 9223372036854775807 ∧ xss[j].length ≤ capj := by
  obtain ⟨b, off, e, h1, h2, hc⟩ := h (by omega)
  obtain ⟨cs, hl, h3, hle, aj, capj, rfl, hca, h5⟩ := hc j hj
  exact ⟨b, off, aj, capj, e, h1, h2, by simpa using h3 0 (by simp), h5, hle, hca⟩
theorem mat_grown {w w' : World} {a : Option Addr} {xss : MatD} (h : Els 1 rRow2 w 0 w.heap.size a xss) (hb : Below w.heap.size w w') : Els 1 rRow2 w' 0 w'.heap.size a xss := (h.keep good_row2 (sm_below hb (Nat.le_refl _))).up good_row2 (Nat.le_refl _) hb.size
theorem opn_mat : Opn Try.prog 46 (rSl 1 rRow2) := opn_slice Try.underlying46 (by kernel_rfl) (by decide) opn_rats

theorem sz_ratss (a : Option Addr) (cap : Nat) (xss : MatD) (lo hi : Nat) (k r : Int) (w : World) (h0 : 0 ≤ k) (hk : k ≤ 1048576) (hn : xss.length ≤ 9223372036854775807) (h : Els 1 rRow2 w lo hi a xss)
    (hr : RowKit.Hid ((k < (szM xss : Nat) ∧ r = -1) ∨ ((szM xss : Nat) ≤ k ∧ r = k - (szM xss : Nat)))) :
    Calls Try.prog 35 #[.slice a xss.length cap, .int .i64 k] w fun e w' => e = .returned (.int .i64 r) ∧ w = w' := by
  have htl := tots_len List.length xss
  unfold szM at hr
  by_cases hlen : k < (xss.length : Int)
  · have h1 : k - (xss.length : Int) < 0 := by omega
    have hre : r = -1 := by rcases hr.out with h | h <;> omega
    subst hre
    clear h hr htl
    go_enter Try.func35, Try.ntmps35
    go_wp2
    go_ret
    exact ⟨rfl, rfl⟩
  · have h1 : ¬ (k - (xss.length : Int) < 0) := by omega
    go_enter Try.func35, Try.ntmps35
    go_wp2
    go_loop [1, 5] (fun l i => ∃ (j : Nat) (z : Int), j ≤ xss.length ∧ i = .int .i64 j ∧ l = .int .i64 z ∧ 0 ≤ z ∧ z ≤ 1048576 ∧ Hid (z = k - xss.length - (sumf List.length xss j : Nat))) (fun _ i => xss.length - (intOf i).toNat)
    case atStart => exact ⟨0, _, Nat.zero_le _, rfl, rfl, by omega, by omega, hid (by rw [sumf_zero]; simp)⟩
    case round =>
      obtain ⟨j, z, hj, rfl, rfl, hz0, hz1, hz⟩ := hrel
      clear h1 hlen
      by_cases hlt : j < xss.length
      · obtain ⟨b, off, aj, capj, rfl, _, hbB, g, rx, hmj, _⟩ := mat_at h j hlt
        have hst := sumf_step List.length xss j hlt
        have hmono := sumf_mono List.length xss (show j + 1 ≤ xss.length by omega) (Nat.le_refl _)
        have hzz := hz.out
        have hrr := hr.out
        have ht : (tots List.length xss : Int) = xss.length + (sumf List.length xss xss.length : Nat) := by unfold tots; omega
        by_cases hover : z < (xss[j].length : Int)
        · have hre : r = -1 := by rcases hrr with h | h <;> omega
          subst hre
          have S := hid (fun W => sz_rats aj capj xss[j].length z (-1) W hz0 hz1 hmj (hid (.inl ⟨hover, rfl⟩)))
          clear h hst hmono hzz hrr ht hmj hover htl rx
          go_wp2_with fail
          refine (S.out _).mono ?_
          rintro e w' ⟨rfl, rfl⟩
          go_wp2
          go_ret
          exact ⟨rfl, rfl⟩
        · have S := hid (fun W => sz_rats aj capj xss[j].length z (z - xss[j].length) W hz0 hz1 hmj (hid (.inr ⟨by omega, rfl⟩)))
          have h2 : ¬ (z - (xss[j].length : Int) < 0) := by omega
          have h3 : 0 ≤ z - (xss[j].length : Int) := by omega
          have hz2 := hid (show z - (xss[j].length : Int) = k - xss.length - (sumf List.length xss (j + 1) : Nat) by omega)
          clear h hst hmono hzz hrr ht hmj hover htl rx
          go_wp2_with fail
          refine (S.out _).mono ?_
          rintro e w' ⟨rfl, rfl⟩
          go_wp2
          go_round
          case rel => exact ⟨j + 1, _, by omega, by go_num, rfl, by omega, by omega, hz2⟩
          case measure => simp [intOf]; omega
      · have e : j = xss.length := by omega
        subst e
        have hre := hid (show z = r by
          have hzz := hz.out
          have ht : (tots List.length xss : Int) = xss.length + (sumf List.length xss xss.length : Nat) := by unfold tots; omega
          rcases hr.out with h | h <;> omega)
        clear h htl
        go_wp2
        go_ret
        exact ⟨by rw [hre.out]; rfl, rfl⟩

theorem infoRow : (Try.prog.info? 25).map (fun i => (i.zero, i.size, i.bytes)) = some (some (.slice none 0 0), 1, 24) := by kernel_rfl

/-- A copy of a matrix: a matrix of the call's own, nothing frozen. -/
theorem to_ratssF (a : Option Addr) (cap : Nat) (xss : MatD) (lo hi : Nat) (w : World) (hn : szM xss ≤ 1048576) (h : Els 1 rRow2 w lo hi a xss) (hh : hi ≤ w.heap.size) :
    Calls Try.prog 37 #[.slice a xss.length cap] w fun e w' => ∃ vs, e = .returned (.slice (some ⟨w.heap.size, 0, none⟩) xss.length xss.length) ∧ GOwnQ w' w.heap.size tQ tR (.slice (some ⟨w.heap.size, 0, none⟩) xss.length xss.length) vs xss ∧ BF w.heap.size w w' ∧ w.heap.size < w'.heap.size := by
  have hn1 : xss.length ≤ 1048576 := by have := tots_len List.length xss; unfold szM at hn; omega
  have hR := hid (fun j (hj : j < xss.length) => show xss[j].length ≤ 1048576 by have := elem_le List.length xss j hj; unfold szM at hn; omega)
  obtain ⟨i0, hi0, hz0, hz1, hz2⟩ := info_parts infoRow
  have hmk := make_rows (P := Try.prog) w 24 25 i0 Try.underlying24 hi0 hz0 hz1 hz2 xss.length (by omega)
  have hat0 := hid (rowsq_made w 25 35 xss.length (by omega))
  clear hn
  go_enter Try.func37, Try.ntmps37
  go_wp2
  go_loopw [4] (fun i wr => ∃ (k : Nat) (vs : List Value), k ≤ xss.length ∧ i = .int .i64 k ∧ Hid (GOwnQ wr w.heap.size tQ tR (.slice (some ⟨w.heap.size, 0, none⟩) xss.length xss.length) vs (filledQ xss k)) ∧ Hid (BF w.heap.size w wr) ∧ w.heap.size < wr.heap.size) (fun i _ => xss.length - (intOf i).toNat)
  case atStart => exact ⟨0, _, Nat.zero_le _, rfl, hid (by rw [filledQ_zero]; exact hat0.out), hid ((BF.refl _ _).alloc (Nat.le_refl _) _), by simp⟩
  case round =>
    obtain ⟨k, vs, hk, rfl, hown, hb, hsz0⟩ := hrel
    have hfl := hid (filledQ_length xss k hk)
    clear hmk
    by_cases hlt : k < xss.length
    · obtain ⟨b, off, aj, capj, rfl, _, hbB, g, rx, _, _⟩ := mat_at (h.grow good_row2 hb.out.toBelow hh) k hlt
      have hsz := hb.out.toBelow.size
      have hrow := hR.out k hlt
      have T := hid (to_ratsF aj capj xss[k] lo hi wr hrow rx (by omega))
      have hlt' : (k : Int) < (xss.length : Int) := by omega
      have h0' : (0 : Int) ≤ (k : Int) := by omega
      clear h rx hrow
      go_wp2_with fail
      refine T.out.mono ?_
      rintro e w1 ⟨rfl, hat, hb1, hlw⟩
      have O1 := hown.out.below' hb1.toBelow
      have hlt1 := hown.out.lt w.heap.size rfl
      have hst := hid (gownq_store O1 hfl.out.symm tQR k (by rw [hfl.out]; exact hlt) (hat.mono hsz) (fun i u' m hne hu hm hm' => by
        have h1 := (hown.out.lt_row hu m hm').2
        simp [Value.ownBlock] at hm
        omega))
      rw [filledQ_step xss k hlt] at hst
      obtain ⟨u, c1⟩ : ∃ u, w1.cell? ⟨w.heap.size, k, none⟩ = some u := by
        have hjv : k < vs.length := by rw [hown.out.len, filledQ_length xss k hk]; exact hlt
        have hca := O1.cellAt k (by rw [filledQ_length xss k hk]; exact hlt)
        rw [Nat.zero_add, List.getElem?_eq_getElem hjv] at hca
        exact ⟨_, hca⟩
      have c2 := O1.free k
      rw [Nat.zero_add] at c2
      have HB := hid ((hb.out.trans (hb1.mono hsz)).setCell (p := ⟨w.heap.size, k, none⟩) (Nat.le_refl _) (.slice (some ⟨wr.heap.size, 0, none⟩) xss[k].length xss[k].length))
      have hwl : w.heap.size < (w1.setCell ⟨w.heap.size, k, none⟩ (.slice (some ⟨wr.heap.size, 0, none⟩) xss[k].length xss[k].length)).heap.size := by simp; omega
      clear O1 hat hb1 hfl
      go_wp2_with fail
      go_roundw
      case rel => exact ⟨k + 1, _, by omega, by go_num, hst, HB, hwl⟩
      case measure => simp [intOf]; omega
    · have e : k = xss.length := by omega
      subst e
      have HO := hown.out
      rw [filledQ_all] at HO
      have HO2 := hid HO
      clear h HO hfl hown
      go_wp2
      go_ret
      exact ⟨vs, rfl, HO2.out, hb.out, hsz0⟩

set_option maxRecDepth 100000 in
/-- Two readings of one matrix are the same. -/
theorem eq_ratss (a a' : Option Addr) (cap cap' : Nat) (xss : MatD) (lo hi lo' hi' : Nat) (w : World) (hn1 : xss.length ≤ 1048576) (hR : RowKit.Hid (∀ j (hj : j < xss.length), xss[j].length ≤ 1048576)) (h : Els 1 rRow2 w lo hi a xss) (h' : Els 1 rRow2 w lo' hi' a' xss) (hh : hi ≤ w.heap.size) (hh' : hi' ≤ w.heap.size) :
    Calls Try.prog 40 #[.slice a xss.length cap, .slice a' xss.length cap'] w fun e w' => e = .returned (.bool true) ∧ Below w.heap.size w w' := by
  have hnl : ((xss.length : Int) != (xss.length : Int)) = false := by simp
  go_enter Try.func40, Try.ntmps40
  go_wp2
  go_loopw [5] (fun i wr => ∃ k : Nat, k ≤ xss.length ∧ i = .int .i64 k ∧ Hid (Below w.heap.size w wr)) (fun i _ => xss.length - (intOf i).toNat)
  case atStart => exact ⟨0, Nat.zero_le _, rfl, hid (Below.refl _ _)⟩
  case round =>
    obtain ⟨k, hk, rfl, hb⟩ := hrel
    by_cases hlt : k < xss.length
    · obtain ⟨b, off, aj, capj, rfl, _, hbB, g, rx, _, _⟩ := mat_at (h.grow good_row2 hb.out hh) k hlt
      obtain ⟨b', off', aj', capj', rfl, _, hbB', g', rx', _, _⟩ := mat_at (h'.grow good_row2 hb.out hh') k hlt
      have hrow := hR.out k hlt
      have hsz := hb.out.size
      have E := hid (fun W (hW : Below wr.heap.size wr W) => eq_rats aj aj' capj capj' xss[k] lo hi lo' hi' W hrow (rx.grow good_rat hW (by omega)) (rx'.grow good_rat hW (by omega)) (by have := hW.size; omega) (by have := hW.size; omega))
      clear h h' rx rx' hrow
      have hlt' : (k : Int) < (xss.length : Int) := by omega
      have h0' : (0 : Int) ≤ (k : Int) := by omega
      have hk0 := kp_refl wr
      go_upto_region 6 with fail
      go_cut [26] (fun s wx => s = .bool false ∧ Kp wr 0 wx)
      case first =>
        go_region_held3 (fun w' => w'.cell? ⟨b, off + k, none⟩ = some (.slice aj xss[k].length capj) ∧ w'.cell? ⟨b', off' + k, none⟩ = some (.slice aj' xss[k].length capj') ∧ Kp wr 0 w')
          (first
            | (go_split_ands
               repeat' apply And.intro
               all_goals (first | (with_reducible assumption) | (with_reducible exact cell_drew (by assumption)) | (with_reducible exact Kp.drew (by assumption)) | (with_reducible exact Kp.cell (by assumption) hb1 (by omega) (by assumption)) | (with_reducible exact Kp.call (by assumption) hb1))))
          (first
            | (go_split_ands; go_at_call 39; (with_reducible refine (E.out _ (Kp.bel (n := 0) (by with_reducible assumption))).mono ?_); rintro e wU ⟨rfl, hb1⟩))
        all_goals
          go_wp2_with fail
          go_meet
          go_split_ands
          exact ⟨rfl, by with_reducible assumption⟩
      case rest =>
        obtain ⟨rfl, hkp⟩ := hcut
        have HB := hid (hb.out.trans (hkp.bel.mono hsz))
        clear hkp hk0
        go_wp2
        go_roundw
        case rel => exact ⟨k + 1, by omega, by go_num, HB⟩
        case measure => simp [intOf]; omega
    · clear h h'
      go_wp2
      go_ret
      exact ⟨rfl, hb.out⟩

/-! ### marks on copies -/
abbrev rRow0 : Reader (List RatD) := rSl 2 rRat0
theorem wtd_row0 : Wtd rRow0 List.length := by
  intro w w' lo hi cs cs' x h ht hl hk
  obtain ⟨x', h1, h2⟩ := (wtd_sl (k := 2) wtd_rat0) h ht hl hk
  exact ⟨x', h1, by simpa using congrArg List.length h2⟩
theorem mat0 {w : World} {lo hi : Nat} {a : Option Addr} {xss : MatD} (h : Els 1 rRow2 w lo hi a xss) : Els 1 rRow0 w lo hi a xss := fun h0 => by
  obtain ⟨b, off, e, h1, h2, hc⟩ := h h0
  refine ⟨b, off, e, h1, h2, fun j hj => ?_⟩
  obtain ⟨cs, hl, h3, hle, aj, capj, h4, hca, h5⟩ := hc j hj
  exact ⟨cs, hl, h3, hle, aj, capj, h4, hca, els0 h5⟩
theorem mat0_at {w : World} {lo hi : Nat} {a : Option Addr} {xss : MatD} (h : Els 1 rRow0 w lo hi a xss) (j : Nat) (hj : j < xss.length) : ∃ b off aj capj, a = some ⟨b, off, none⟩ ∧ lo ≤ b ∧ b < hi ∧ w.cell? ⟨b, off + j, none⟩ = some (.slice aj xss[j].length capj) ∧ Els 2 rRat0 w lo hi aj xss[j] := by
  obtain ⟨b, off, e, h1, h2, hc⟩ := h (by omega)
  obtain ⟨cs, hl, h3, hle, aj, capj, rfl, hca, h5⟩ := hc j hj
  exact ⟨b, off, aj, capj, e, h1, h2, by simpa using h3 0 (by simp), h5⟩

/-- The rationals of a matrix. -/
def wM (xss : MatD) : Nat := sumf List.length xss xss.length
theorem mark_ratssA (a : Option Addr) (cap lo hi : Nat) (k0 : Int) (xss : MatD) (w : World) (hn : szM xss ≤ 1048576) (h0 : 0 ≤ k0) (h1 : k0 ≤ 100000000) (h : Els 1 rRow0 w lo hi a xss) (hT : Thw lo hi w) :
    Calls Try.prog 41 #[.slice a xss.length cap, .int .i64 k0] w fun e w' => e = .returned (.int .i64 (k0 + 2 * (wM xss : Nat))) ∧ KT lo hi w w' := by
  have hn1 : xss.length ≤ 1048576 := by have := tots_len List.length xss; unfold szM at hn; omega
  have HN := hid (show sumf List.length xss xss.length ≤ 1048576 by unfold szM tots at hn; omega)
  have HT := hid hT
  have HS := hid (Wts.start (wt := List.length) h)
  clear h hT hn
  go_enter Try.func41, Try.ntmps41
  go_wp2
  go_loopw [1, 5] (fun q i wr => ∃ (j : Nat) (yss : MatD) (z : Int), j ≤ xss.length ∧ i = .int .i64 j ∧ q = .int .i64 z ∧ Hid (z = k0 + 2 * (sumf List.length xss j : Nat)) ∧ Hid (Wts 1 rRow0 List.length wr lo hi a xss yss) ∧ Hid (KT lo hi w wr)) (fun _ i _ => xss.length - (intOf i).toNat)
  case atStart => exact ⟨0, xss, _, Nat.zero_le _, rfl, rfl, hid (by rw [sumf_zero]; simp), HS, hid (KT.refl _ _ _)⟩
  case round =>
    obtain ⟨j, yss, z, hj, rfl, rfl, hz, hs, ht⟩ := hrel
    by_cases hlt : j < xss.length
    · have hlty : j < yss.length := by rw [hs.out.len]; exact hlt
      obtain ⟨b, off, aj, capj, rfl, hb1, hb2, c1, hrow⟩ := mat0_at hs.out.els j hlty
      have hyl := hs.out.wt j hlt hlty
      have hst := sumf_step List.length xss j hlt
      have hmo := sumf_mono List.length xss (show j + 1 ≤ xss.length by omega) (Nat.le_refl _)
      have hzz := hz.out
      have hnn := HN.out
      have M := hid (mark_ratsA aj capj lo hi z yss[j] wr (by omega) (by omega) (by omega) hrow (HT.out.nf ht.out.nf))
      have hz0 : 0 ≤ z := by omega
      have hz1 : z ≤ 102097152 := by omega
      have HZ := hid (show z + 2 * (yss[j].length : Int) = k0 + 2 * (sumf List.length xss (j + 1) : Nat) by omega)
      have hyn : yss[j].length ≤ 1048576 := by omega
      have HYL := hid hs.out.len
      have hlt' : (j : Int) < (xss.length : Int) := by omega
      have h0' : (0 : Int) ≤ (j : Int) := by omega
      clear hrow hyl hst hmo hzz hnn
      go_wp2_with fail
      with_reducible refine M.out.mono ?_
      rintro e w1 ⟨rfl, ht1⟩
      obtain ⟨zss, hz1⟩ := hs.out.turn wtd_row0 ht1
      have HW := hid hz1
      have HK := hid (ht.out.trans ht1)
      clear hz1 ht1 hs ht
      go_wp2
      go_roundw
      case rel => exact ⟨j + 1, zss, _, by omega, by go_num, rfl, HZ, HW, HK⟩
      case measure => simp [intOf]; omega
    · have e : j = xss.length := by omega
      subst e
      have HZ := hid (show z = k0 + 2 * (wM xss : Nat) from hz.out)
      clear hz
      go_wp2
      go_ret
      exact ⟨by rw [HZ.out]; rfl, ht.out⟩

/-! ### marks on results -/
def MarksQ (k : Int) (xss yss : MatD) : Prop := yss.length = xss.length ∧ ∀ j (h : j < xss.length) (h' : j < yss.length), yss[j] = mkQ (k + 2 * (sumf List.length xss j : Nat)) xss[j].length
def MarkToQ (k : Int) (xss yss : MatD) (m : Nat) : Prop := yss.length = xss.length ∧ ∀ j (h : j < xss.length) (h' : j < yss.length), yss[j] = if j < m then mkQ (k + 2 * (sumf List.length xss j : Nat)) xss[j].length else xss[j]
theorem MarkToQ.zero (k : Int) (xss : MatD) : MarkToQ k xss xss 0 := ⟨rfl, fun j h h' => by simp⟩
theorem MarkToQ.step {k : Int} {xss yss : MatD} {m : Nat} (h : MarkToQ k xss yss m) (hm : m < xss.length) : MarkToQ k xss (yss.set m (mkQ (k + 2 * (sumf List.length xss m : Nat)) xss[m].length)) (m + 1) := by
  refine ⟨by rw [List.length_set]; exact h.1, fun j hj hj' => ?_⟩
  rw [List.getElem_set]
  by_cases e : m = j
  · subst e; simp
  · rw [if_neg e, h.2 j hj (by rw [h.1]; exact hj)]
    by_cases e2 : j < m
    · rw [if_pos e2, if_pos (by omega)]
    · rw [if_neg e2, if_neg (by omega)]
theorem MarkToQ.done {k : Int} {xss yss : MatD} (h : MarkToQ k xss yss xss.length) : MarksQ k xss yss := ⟨h.1, fun j hj hj' => by rw [h.2 j hj hj', if_pos hj]⟩

theorem mark_ssQ (lo hi : Nat) (v : Value) (vs : List Value) (k0 : Int) (xss : MatD) (w : World) (hn1 : xss.length ≤ 1048576) (hn2 : wM xss ≤ 1048576) (h0 : 0 ≤ k0) (h1 : k0 ≤ 100000000) (h : GOwnQ w lo tQ tR v vs xss) (hu : GUnder hi v vs) :
    Calls Try.prog 41 #[v, .int .i64 k0] w fun e w' => ∃ yss, e = .returned (.int .i64 (k0 + 2 * (wM xss : Nat))) ∧ GOwnQ w' lo tQ tR v vs yss ∧ MarksQ k0 xss yss ∧ Turn lo hi w w' := by
  obtain ⟨a, cap, rfl, _, _, hrd0⟩ := h.form
  have HG := hid h
  have HN := hid (show sumf List.length xss xss.length ≤ 1048576 from hn2)
  clear h hrd0 hn2
  go_enter Try.func41, Try.ntmps41
  go_wp2
  go_loopw [1, 5] (fun q i wr => ∃ (j : Nat) (yss : MatD) (z : Int), j ≤ xss.length ∧ i = .int .i64 j ∧ q = .int .i64 z ∧ Hid (z = k0 + 2 * (sumf List.length xss j : Nat)) ∧ Hid (MarkToQ k0 xss yss j) ∧ Hid (GOwnQ wr lo tQ tR (.slice a xss.length cap) vs yss) ∧ Hid (Turn lo hi w wr)) (fun _ i _ => xss.length - (intOf i).toNat)
  case atStart => exact ⟨0, xss, _, Nat.zero_le _, rfl, rfl, hid (by rw [sumf_zero]; simp), hid (MarkToQ.zero _ _), HG, hid (Turn.refl _ _ _)⟩
  case round =>
    obtain ⟨j, yss, z, hj, rfl, rfl, hz, hm, hown, ht⟩ := hrel
    by_cases hlt : j < xss.length
    · have hyl := hm.out.1
      have hyj : yss[j]'(by rw [hyl]; exact hlt) = xss[j] := by rw [hm.out.2 j hlt (by rw [hyl]; exact hlt), if_neg (by omega)]
      have hst := sumf_step List.length xss j hlt
      have hmo := sumf_mono List.length xss (show j + 1 ≤ xss.length by omega) (Nat.le_refl _)
      have hnn := HN.out
      have hrow : xss[j].length ≤ 1048576 := by omega
      have hjv : j < vs.length := by rw [hown.out.len, hyl]; exact hlt
      have hvj : vs[j]? = some vs[j] := List.getElem?_eq_getElem hjv
      have hro := hown.out.own j (by rw [hyl]; exact hlt) vs[j] hvj
      rw [hyj] at hro
      have hzz := hz.out
      have M := hid (mark_own lo vs[j] z xss[j] wr hrow (by omega) (by omega) hro)
      have HST := hid hst
      have hz2 : z ≤ 104194304 := by omega
      have hz3 : 0 ≤ z := by omega
      obtain ⟨b, off, rfl, _, hbB, hc⟩ := (hown.out.rd.2) (by rw [hyl]; omega)
      have hg : wr.cell? ⟨b, off + j, none⟩ = some vs[j] := (hown.out.cellAt j (by rw [hyl]; exact hlt)).trans hvj
      have HYL := hid hyl
      have hlt' : (j : Int) < (xss.length : Int) := by omega
      have h0' : (0 : Int) ≤ (j : Int) := by omega
      clear hc hyj hro hzz hst hmo hnn hyl
      go_wp2_with fail
      refine M.out.mono ?_
      rintro e w1 ⟨rfl, ho1, hg1⟩
      have G1 := hid (hown.out.rewrite tQR (by rw [HYL.out]; exact hlt) hvj _ ho1 hg1)
      have hlr := hown.out.lt_row hvj
      have T1 := hid (ht.out.trans (Turn.of_grown (lo := lo) (hi := hi) hg1 (fun k hk => ⟨(hlr k hk).1, hu.2 j _ hvj k hk⟩)))
      have M1 := hid hm.out.step
      have hM2 := M1.out hlt
      rw [← hz.out] at hM2
      have HM := hid hM2
      have HZ := hid (show z + 2 * (xss[j].length : Int) = k0 + 2 * (sumf List.length xss (j + 1) : Nat) by rw [HST.out, hz.out]; omega)
      clear ho1 hg1 hlr M1 hM2 M
      go_wp2_with fail
      go_roundw
      case rel => exact ⟨j + 1, _, _, by omega, by go_num, rfl, HZ, HM, G1, T1⟩
      case measure => simp [intOf]; omega
    · have e : j = xss.length := by omega
      subst e
      have HZ2 := hid (show z = k0 + 2 * (wM xss : Nat) from hz.out)
      go_wp2
      go_ret
      exact ⟨yss, by rw [HZ2.out]; rfl, hown.out, hm.out.done, ht.out⟩

theorem held_ssQ (a : Option Addr) (cap lo hi : Nat) (k0 : Int) (xss yss : MatD) (w : World) (hn1 : xss.length ≤ 1048576) (hn2 : wM xss ≤ 1048576) (h0 : 0 ≤ k0) (h1 : k0 ≤ 100000000) (hm : MarksQ k0 xss yss) (h : Els 1 rRow2 w lo hi a yss) :
    Calls Try.prog 53 #[.slice a xss.length cap, .int .i64 k0] w fun e w' => e = .returned (.int .i64 (k0 + 2 * (wM xss : Nat))) ∧ w = w' := by
  have HM := hid hm
  have hyl := hid hm.1
  have HN := hid (show sumf List.length xss xss.length ≤ 1048576 from hn2)
  clear hm hn2
  go_enter Try.func53, Try.ntmps53
  go_wp2
  go_loop [1, 5] (fun q i => ∃ (j : Nat) (z : Int), j ≤ xss.length ∧ i = .int .i64 j ∧ q = .int .i64 z ∧ Hid (z = k0 + 2 * (sumf List.length xss j : Nat))) (fun _ i => xss.length - (intOf i).toNat)
  case atStart => exact ⟨0, _, Nat.zero_le _, rfl, rfl, hid (by rw [sumf_zero]; simp)⟩
  case round =>
    obtain ⟨j, z, hj, rfl, rfl, hz⟩ := hrel
    by_cases hlt : j < xss.length
    · have hjy : j < yss.length := by rw [hyl.out]; exact hlt
      obtain ⟨b, off, aj, capj, rfl, hq0, hbB, hg, hr, hq1, hq2⟩ := mat_at h j hjy
      have hst := sumf_step List.length xss j hlt
      have hmo := sumf_mono List.length xss (show j + 1 ≤ xss.length by omega) (Nat.le_refl _)
      have hnn := HN.out
      have hzz := hz.out
      have hyj := HM.out.2 j hlt hjy
      rw [← hzz] at hyj
      rw [hyj] at hr hg
      rw [mkQ_length] at hg
      have H := hid (held_rats aj capj z xss[j].length lo hi w (by omega) (by omega) (by omega) hr)
      have h2 : ¬ (z + 2 * (xss[j].length : Int) < 0) := by omega
      have hz2 : z ≤ 104194304 := by omega
      have hz3 : 0 ≤ z := by omega
      have hrow : xss[j].length ≤ 1048576 := by omega
      have HZ := hid (show z + 2 * (xss[j].length : Int) = k0 + 2 * (sumf List.length xss (j + 1) : Nat) by rw [hst, hzz]; omega)
      have hlt' : (j : Int) < (xss.length : Int) := by omega
      have h0' : (0 : Int) ≤ (j : Int) := by omega
      clear hr hst hzz hyj h hmo hnn hq0 hq1 hq2 hjy
      go_wp2_with fail
      refine H.out.mono ?_
      rintro e w1 ⟨rfl, rfl⟩
      go_wp2_with fail
      go_round
      case rel => exact ⟨j + 1, _, by omega, by go_num, rfl, HZ⟩
      case measure => simp [intOf]; omega
    · have e : j = xss.length := by omega
      subst e
      have HZ2 := hid (show z = k0 + 2 * (wM xss : Nat) from hz.out)
      clear h
      go_wp2
      go_ret
      exact ⟨by rw [HZ2.out]; rfl, rfl⟩
end Go.Proofs.Ytjnphlgmmjdeiaa.RatsSS
