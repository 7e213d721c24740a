/- The laws' marks on copies of arguments: the weights of what is read stay. -/
import Derived.Test.YtffhfnkcbgbliaaDoorToF
import Derived.Test.YtffhfnkcbgbliaaDoorDigs
namespace Go.Proofs.YtffhfnkcbgbliaaDoor.MarkA
open Go.RowKit
open Go.Proofs.YtffhfnkcbgbliaaDoor.Num Go.Proofs.YtffhfnkcbgbliaaDoor.IntRow Go.Proofs.YtffhfnkcbgbliaaDoor.IntLaw Go.Proofs.YtffhfnkcbgbliaaDoor.Grid Go.Proofs.YtffhfnkcbgbliaaDoor.GridMore Go.Proofs.YtffhfnkcbgbliaaDoor.Rdr Go.Proofs.YtffhfnkcbgbliaaDoor.Dat Go.Proofs.YtffhfnkcbgbliaaDoor.HasL Go.Proofs.YtffhfnkcbgbliaaDoor.Thaw Go.Proofs.YtffhfnkcbgbliaaDoor.ToF
set_option linter.unusedVariables false

theorem ints_at {w : World} {lo hi : Nat} {a : Option Addr} {xs : List Int} (h : Els 1 rInt w lo hi a xs) (j : Nat) (hj : j < xs.length) : ∃ b off, a = some ⟨b, off, none⟩ ∧ lo ≤ b ∧ b < hi ∧ w.cell? ⟨b, off + j, none⟩ = some (.int .i64 xs[j]) := by
  obtain ⟨b, off, e, h1, h2, hc⟩ := h (by omega)
  obtain ⟨cs, hl, h3, h4⟩ := hc j hj
  have h5 : cs = [.int .i64 xs[j]] := h4
  subst h5
  exact ⟨b, off, e, h1, h2, by simpa using h3 0 (by simp)⟩
theorem rows_at {w : World} {lo hi : Nat} {a : Option Addr} {xss : List (List Int)} (h : Els 1 (rSl 1 rInt) w lo hi a xss) (j : Nat) (hj : j < xss.length) : ∃ b off aj capj, a = some ⟨b, off, none⟩ ∧ lo ≤ b ∧ b < hi ∧ w.cell? ⟨b, off + j, none⟩ = some (.slice aj xss[j].length capj) ∧ Els 1 rInt w lo hi aj xss[j] := by
  obtain ⟨b, off, e, h1, h2, hc⟩ := h (by omega)
  obtain ⟨cs, hl, h3, _, aj, capj, rfl, _, h5⟩ := hc j hj
  exact ⟨b, off, aj, capj, e, h1, h2, by simpa using h3 0 (by simp), h5⟩

theorem mark_intsA (a : Option Addr) (cap lo hi : Nat) (k0 : Int) (xs : List Int) (w : World) (hn : xs.length ≤ 1048576) (h0 : 0 ≤ k0) (h1 : k0 ≤ 1000000000) (h : Els 1 rInt w lo hi a xs) (hT : Thw lo hi w) :
    Calls Tryd.prog 51 #[.slice a xs.length cap, .int .i64 k0] w fun e w' => e = .returned (.int .i64 (k0 + xs.length)) ∧ KT lo hi w w' := by
  have HT := hid hT
  have HS := hid (Wts.start (wt := fun _ => ()) h)
  clear h hT
  go_enter Tryd.func51, Tryd.ntmps51
  go_wp2
  go_loopw [1, 5] (fun q i wr => ∃ (k : Nat) (ys : List Int), k ≤ xs.length ∧ i = .int .i64 k ∧ q = .int .i64 (k0 + k) ∧ Hid (Wts 1 rInt (fun _ => ()) wr lo hi a xs ys) ∧ Hid (KT lo hi w wr)) (fun _ i _ => xs.length - (intOf i).toNat)
  case atStart => exact ⟨0, xs, Nat.zero_le _, rfl, by go_num, HS, hid (KT.refl _ _ _)⟩
  case round =>
    obtain ⟨k, ys, hk, rfl, rfl, hs, ht⟩ := hrel
    by_cases hlt : k < xs.length
    · have hky : k < ys.length := by rw [hs.out.len]; exact hlt
      obtain ⟨b, off, rfl, hb1, hb2, c1⟩ := ints_at hs.out.els k hky
      have c2 := (HT.out.nf ht.out.nf) b (off + k) hb1 hb2
      have hst := KT.int c1 hb1 hb2 (k0 + (k : Int))
      obtain ⟨zs, hz⟩ := hs.out.turn wtd_int hst
      have HZ := hid hz
      have HK := hid (ht.out.trans hst)
      clear hz hst hs ht
      go_wp2
      go_roundw
      case rel => exact ⟨k + 1, zs, by omega, by go_num, by go_num, HZ, HK⟩
      case measure => simp [intOf]; omega
    · have e : k = xs.length := by omega
      subst e
      go_wp2
      go_ret
      exact ⟨rfl, ht.out⟩

theorem mark_ssA (a : Option Addr) (cap lo hi : Nat) (k0 : Int) (xss : List (List Int)) (w : World) (hn : szG xss ≤ 1048576) (h0 : 0 ≤ k0) (h1 : k0 ≤ 100000000) (h : Els 1 (rSl 1 rInt) w lo hi a xss) (hT : Thw lo hi w) :
    Calls Tryd.prog 23 #[.slice a xss.length cap, .int .i64 k0] w fun e w' => e = .returned (.int .i64 (k0 + (wG xss : Nat))) ∧ KT lo hi w w' := by
  have hn1 : xss.length ≤ 1048576 := by have := tots_len List.length xss; unfold szG at hn; omega
  have HN := hid hn
  have HT := hid hT
  have HS := hid (Wts.start (wt := List.length) h)
  clear h hT hn
  go_enter Tryd.func23, Tryd.ntmps23
  go_wp2
  go_loopw [1, 5] (fun q i wr => ∃ (j : Nat) (yss : List (List Int)) (z : Int), j ≤ xss.length ∧ i = .int .i64 j ∧ q = .int .i64 z ∧ Hid (z = k0 + (sumf List.length xss j : Nat)) ∧ Hid (Wts 1 (rSl 1 rInt) List.length wr lo hi a xss yss) ∧ Hid (KT lo hi w wr)) (fun _ i _ => xss.length - (intOf i).toNat)
  case atStart => exact ⟨0, xss, _, Nat.zero_le _, rfl, rfl, hid (by rw [sumf_zero]; simp), HS, hid (KT.refl _ _ _)⟩
  case round =>
    obtain ⟨j, yss, z, hj, rfl, rfl, hz, hs, ht⟩ := hrel
    by_cases hlt : j < xss.length
    · have hlty : j < yss.length := by rw [hs.out.len]; exact hlt
      obtain ⟨b, off, aj, capj, rfl, hb1, hb2, c1, hrow⟩ := rows_at hs.out.els j hlty
      have hyl := hs.out.wt j hlt hlty
      have hst := sumf_step List.length xss j hlt
      have hmo := sumf_mono List.length xss (show j + 1 ≤ xss.length by omega) (Nat.le_refl _)
      have hzz := hz.out
      have hnn := HN.out
      rw [szG_wG] at hnn
      have hwg := wG_sum xss
      have M := hid (mark_intsA aj capj lo hi z yss[j] wr (by omega) (by omega) (by omega) hrow (HT.out.nf ht.out.nf))
      have hz0 : 0 ≤ z := by omega
      have hz1 : z ≤ 101048576 := by omega
      have HZ := hid (show z + (yss[j].length : Int) = k0 + (sumf List.length xss (j + 1) : Nat) by omega)
      have hyn : yss[j].length ≤ 1048576 := by omega
      have HYL := hid hs.out.len
      clear hrow hyl hst hmo hzz hnn
      go_wp2_with fail
      with_reducible refine M.out.mono ?_
      rintro e w1 ⟨rfl, ht1⟩
      obtain ⟨zss, hz1⟩ := hs.out.turn wtd_row ht1
      have HW := hid hz1
      have HK := hid (ht.out.trans ht1)
      clear hz1 ht1 hs ht
      go_wp2
      go_roundw
      case rel => exact ⟨j + 1, zss, _, by omega, by go_num, rfl, HZ, HW, HK⟩
      case measure => simp [intOf]; omega
    · have e : j = xss.length := by omega
      subst e
      have HZ := hid (show z = k0 + (wG xss : Nat) by rw [← wG_sum]; exact hz.out)
      clear hz
      go_wp2
      go_ret
      exact ⟨by rw [HZ.out]; rfl, ht.out⟩


theorem w_atom {xs : List AtomD} (h : tots szA xs ≤ 1048576) : wS wA xs ≤ 2097152 := by
  have : ∀ m, m ≤ xs.length → sumf wA xs m ≤ m + sumf szA xs m := by
    intro m hm
    induction m with
    | zero => simp [sumf]
    | succ m ih =>
      rw [sumf_step wA xs m (by omega), sumf_step szA xs m (by omega)]
      have := ih (by omega)
      have e1 : wA xs[m] = 1 + xs[m].2.length := rfl
      have e2 : szA xs[m] = xs[m].1.size + xs[m].2.length := rfl
      omega
  have := this xs.length (Nat.le_refl _)
  unfold tots at h
  unfold wS
  omega
end Go.Proofs.YtffhfnkcbgbliaaDoor.MarkA
