/- The laws' marks on copies of arguments: the weights of what is read stay. -/
import Derived.Test.YtbafhahmpflnjaaToF
import Derived.Test.YtbafhahmpflnjaaDigs
namespace Go.Proofs.Ytbafhahmpflnjaa.MarkA
open Go.RowKit
open Go.Proofs.Ytbafhahmpflnjaa.Num Go.Proofs.Ytbafhahmpflnjaa.IntRow Go.Proofs.Ytbafhahmpflnjaa.IntLaw Go.Proofs.Ytbafhahmpflnjaa.Grid Go.Proofs.Ytbafhahmpflnjaa.GridMore Go.Proofs.Ytbafhahmpflnjaa.Rdr Go.Proofs.Ytbafhahmpflnjaa.Dat Go.Proofs.Ytbafhahmpflnjaa.HasL Go.Proofs.Ytbafhahmpflnjaa.Thaw Go.Proofs.Ytbafhahmpflnjaa.ToF
set_option linter.unusedVariables false

theorem ints_at {w : World} {lo hi : Nat} {a : Option Addr} {xs : List Int} (h : Els 1 rInt w lo hi a xs) (j : Nat) (hj : j < xs.length) : ∃ b off, a = some ⟨b, off, none⟩ ∧ lo ≤ b ∧ b < hi ∧ w.cell? ⟨b, off + j, none⟩ = some (.int .i64 xs[j]) := by
  obtain ⟨b, off, e, h1, h2, hc⟩ := h (by omega)
  obtain ⟨cs, hl, h3, h4⟩ := hc j hj
  have h5 : cs = [.int .i64 xs[j]] := h4
  subst h5
  exact ⟨b, off, e, h1, h2, by simpa using h3 0 (by simp)⟩
theorem rows_at {w : World} {lo hi : Nat} {a : Option Addr} {xss : List (List Int)} (h : Els 1 (rSl 1 rInt) w lo hi a xss) (j : Nat) (hj : j < xss.length) : ∃ b off aj capj, a = some ⟨b, off, none⟩ ∧ lo ≤ b ∧ b < hi ∧ w.cell? ⟨b, off + j, none⟩ = some (.slice aj xss[j].length capj) ∧ Els 1 rInt w lo hi aj xss[j] := by
  obtain ⟨b, off, e, h1, h2, hc⟩ := h (by omega)
  obtain ⟨cs, hl, h3, _, aj, capj, rfl, _, h5⟩ := hc j hj
  exact ⟨b, off, aj, capj, e, h1, h2, by simpa using h3 0 (by simp), h5⟩

theorem mark_intsA (a : Option Addr) (cap lo hi : Nat) (k0 : Int) (xs : List Int) (w : World) (hn : xs.length ≤ 1048576) (h0 : 0 ≤ k0) (h1 : k0 ≤ 1000000000) (h : Els 1 rInt w lo hi a xs) (hT : Thw lo hi w) :
    Calls Try.prog 27 #[.slice a xs.length cap, .int .i64 k0] w fun e w' => e = .returned (.int .i64 (k0 + xs.length)) ∧ KT lo hi w w' := by
  have HT := hid hT
  have HS := hid (Wts.start (wt := fun _ => ()) h)
  clear h hT
  go_enter Try.func27, Try.ntmps27
  go_wp2
  go_loopw [1, 5] (fun q i wr => ∃ (k : Nat) (ys : List Int), k ≤ xs.length ∧ i = .int .i64 k ∧ q = .int .i64 (k0 + k) ∧ Hid (Wts 1 rInt (fun _ => ()) wr lo hi a xs ys) ∧ Hid (KT lo hi w wr)) (fun _ i _ => xs.length - (intOf i).toNat)
  case atStart => exact ⟨0, xs, Nat.zero_le _, rfl, by go_num, HS, hid (KT.refl _ _ _)⟩
  case round =>
    obtain ⟨k, ys, hk, rfl, rfl, hs, ht⟩ := hrel
    by_cases hlt : k < xs.length
    · have hky : k < ys.length := by rw [hs.out.len]; exact hlt
      obtain ⟨b, off, rfl, hb1, hb2, c1⟩ := ints_at hs.out.els k hky
      have c2 := (HT.out.nf ht.out.nf) b (off + k) hb1 hb2
      have hst := KT.int c1 hb1 hb2 (k0 + (k : Int))
      obtain ⟨zs, hz⟩ := hs.out.turn wtd_int hst
      have HZ := hid hz
      have HK := hid (ht.out.trans hst)
      clear hz hst hs ht
      go_wp2
      go_roundw
      case rel => exact ⟨k + 1, zs, by omega, by go_num, by go_num, HZ, HK⟩
      case measure => simp [intOf]; omega
    · have e : k = xs.length := by omega
      subst e
      go_wp2
      go_ret
      exact ⟨rfl, ht.out⟩

theorem mark_ssA (a : Option Addr) (cap lo hi : Nat) (k0 : Int) (xss : List (List Int)) (w : World) (hn : szG xss ≤ 1048576) (h0 : 0 ≤ k0) (h1 : k0 ≤ 100000000) (h : Els 1 (rSl 1 rInt) w lo hi a xss) (hT : Thw lo hi w) :
    Calls Try.prog 76 #[.slice a xss.length cap, .int .i64 k0] w fun e w' => e = .returned (.int .i64 (k0 + (wG xss : Nat))) ∧ KT lo hi w w' := by
  have hn1 : xss.length ≤ 1048576 := by have := tots_len List.length xss; unfold szG at hn; omega
  have HN := hid hn
  have HT := hid hT
  have HS := hid (Wts.start (wt := List.length) h)
  clear h hT hn
  go_enter Try.func76, Try.ntmps76
  go_wp2
  go_loopw [1, 5] (fun q i wr => ∃ (j : Nat) (yss : List (List Int)) (z : Int), j ≤ xss.length ∧ i = .int .i64 j ∧ q = .int .i64 z ∧ Hid (z = k0 + (sumf List.length xss j : Nat)) ∧ Hid (Wts 1 (rSl 1 rInt) List.length wr lo hi a xss yss) ∧ Hid (KT lo hi w wr)) (fun _ i _ => xss.length - (intOf i).toNat)
  case atStart => exact ⟨0, xss, _, Nat.zero_le _, rfl, rfl, hid (by rw [sumf_zero]; simp), HS, hid (KT.refl _ _ _)⟩
  case round =>
    obtain ⟨j, yss, z, hj, rfl, rfl, hz, hs, ht⟩ := hrel
    by_cases hlt : j < xss.length
    · have hlty : j < yss.length := by rw [hs.out.len]; exact hlt
      obtain ⟨b, off, aj, capj, rfl, hb1, hb2, c1, hrow⟩ := rows_at hs.out.els j hlty
      have hyl := hs.out.wt j hlt hlty
      have hst := sumf_step List.length xss j hlt
      have hmo := sumf_mono List.length xss (show j + 1 ≤ xss.length by omega) (Nat.le_refl _)
      have hzz := hz.out
      have hnn := HN.out
      rw [szG_wG] at hnn
      have hwg := wG_sum xss
      have M := hid (mark_intsA aj capj lo hi z yss[j] wr (by omega) (by omega) (by omega) hrow (HT.out.nf ht.out.nf))
      have hz0 : 0 ≤ z := by omega
      have hz1 : z ≤ 101048576 := by omega
      have HZ := hid (show z + (yss[j].length : Int) = k0 + (sumf List.length xss (j + 1) : Nat) by omega)
      have hyn : yss[j].length ≤ 1048576 := by omega
      have HYL := hid hs.out.len
      clear hrow hyl hst hmo hzz hnn
      go_wp2_with fail
      with_reducible refine M.out.mono ?_
      rintro e w1 ⟨rfl, ht1⟩
      obtain ⟨zss, hz1⟩ := hs.out.turn wtd_row ht1
      have HW := hid hz1
      have HK := hid (ht.out.trans ht1)
      clear hz1 ht1 hs ht
      go_wp2
      go_roundw
      case rel => exact ⟨j + 1, zss, _, by omega, by go_num, rfl, HZ, HW, HK⟩
      case measure => simp [intOf]; omega
    · have e : j = xss.length := by omega
      subst e
      have HZ := hid (show z = k0 + (wG xss : Nat) by rw [← wG_sum]; exact hz.out)
      clear hz
      go_wp2
      go_ret
      exact ⟨by rw [HZ.out]; rfl, ht.out⟩


theorem mark_atomA (cs : List Value) (x : AtomD) (lo hi : Nat) (k0 : Int) (w : World) (hn : szA x ≤ 1048576) (h0 : 0 ≤ k0) (h1 : k0 ≤ 1000000000) (h : rAtom w lo hi cs x) (hh : hi ≤ w.heap.size) (hT : Thw lo hi w) :
    Calls Try.prog 26 #[.agg cs.toArray, .int .i64 k0] w fun e w' => e = .returned (.int .i64 (k0 + (x.2.length : Nat))) ∧ KT lo hi w w' := by
  obtain ⟨a, cap, hcs, hz1, hz2, hr⟩ := atom_open h
  subst hcs
  have K := hid ((KT.refl lo hi w).alloc hh (.cells #[.string x.1, .slice a x.2.length cap] 47))
  have B := hid ((Below.refl w.heap.size w).alloc (Nat.le_refl _) (.cells #[.string x.1, .slice a x.2.length cap] 47))
  have M := hid (mark_intsA a cap lo hi k0 x.2 _ (by unfold szA at hn; omega) h0 h1 (hr.keep good_int (sm_below B.out hh)) (hT.nf K.out.nf))
  clear h hT
  go_enter Try.func26, Try.ntmps26
  go_wp2_with fail
  refine M.out.mono ?_
  rintro e w1 ⟨rfl, ht⟩
  have HK := hid (K.out.trans ht)
  clear ht
  go_wp2
  go_ret
  exact ⟨rfl, HK.out⟩


theorem mark_relA (cs : List Value) (x : RelD) (lo hi : Nat) (k0 : Int) (w : World) (hn : szG x.2 ≤ 1048576) (h0 : 0 ≤ k0) (h1 : k0 ≤ 100000000) (h : rRel w lo hi cs x) (hh : hi ≤ w.heap.size) (hT : Thw lo hi w) :
    Calls Try.prog 35 #[.agg cs.toArray, .int .i64 k0] w fun e w' => e = .returned (.int .i64 (k0 + (wG x.2 : Nat))) ∧ KT lo hi w w' := by
  obtain ⟨a, cap, hcs, hz1, hr⟩ := rel_open h
  subst hcs
  have K := hid ((KT.refl lo hi w).alloc hh (.cells #[.int .i64 x.1, .slice a x.2.length cap] 58))
  have B := hid ((Below.refl w.heap.size w).alloc (Nat.le_refl _) (.cells #[.int .i64 x.1, .slice a x.2.length cap] 58))
  have M := hid (mark_ssA a cap lo hi k0 x.2 _ hn h0 h1 (hr.keep (good_sl good_int) (sm_below B.out hh)) (hT.nf K.out.nf))
  clear h hT
  go_enter Try.func35, Try.ntmps35
  go_wp2_with fail
  refine M.out.mono ?_
  rintro e w1 ⟨rfl, ht⟩
  have HK := hid (K.out.trans ht)
  clear ht
  go_wp2
  go_ret
  exact ⟨rfl, HK.out⟩


theorem w_atom {xs : List AtomD} (h : tots szA xs ≤ 1048576) : wS wA xs ≤ 2097152 := by
  have : ∀ m, m ≤ xs.length → sumf wA xs m ≤ m + sumf szA xs m := by
    intro m hm
    induction m with
    | zero => simp [sumf]
    | succ m ih =>
      rw [sumf_step wA xs m (by omega), sumf_step szA xs m (by omega)]
      have := ih (by omega)
      have e1 : wA xs[m] = 1 + xs[m].2.length := rfl
      have e2 : szA xs[m] = xs[m].1.size + xs[m].2.length := rfl
      omega
  have := this xs.length (Nat.le_refl _)
  unfold tots at h
  unfold wS
  omega
theorem w_table {xs : List TableD} (h : tots szT xs ≤ 1048576) : wS wT xs ≤ 2097152 := by
  have : ∀ m, m ≤ xs.length → sumf wT xs m ≤ 2 * m + sumf szT xs m := by
    intro m hm
    induction m with
    | zero => simp [sumf]
    | succ m ih =>
      rw [sumf_step wT xs m (by omega), sumf_step szT xs m (by omega)]
      have := ih (by omega)
      have e1 : wT xs[m] = 2 + wG xs[m].2.2 := rfl
      have e2 : szT xs[m] = xs[m].1.size + szG xs[m].2.2 := rfl
      have e3 := szG_wG xs[m].2.2
      omega
  have := this xs.length (Nat.le_refl _)
  unfold tots at h
  unfold wS
  omega


set_option maxRecDepth 100000 in
set_option maxHeartbeats 4000000 in
theorem mark_tableSA (a : Option Addr) (cap lo hi : Nat) (k0 : Int) (xs : List TableD) (w : World) (hn : tots szT xs ≤ 1048576) (h0 : 0 ≤ k0) (h1 : k0 ≤ 10000000) (h : Els 3 rTable w lo hi a xs) (hh : hi ≤ w.heap.size) (hT : Thw lo hi w) :
    Calls Try.prog 81 #[.slice a xs.length cap, .int .i64 k0] w fun e w' => e = .returned (.int .i64 (k0 + (wS wT xs : Nat))) ∧ KT lo hi w w' := by
  have hn1 : xs.length ≤ 1048576 := by have := tots_len szT xs; omega
  have HN := hid (w_table hn)
  have HT := hid hT
  have HS := hid (Wts.start (wt := sT) h)
  have HZ0 := hid (fun j (hj : j < xs.length) => elem_le szT xs j hj)
  have HNN := hid hn
  clear h hT hn
  go_enter Try.func81, Try.ntmps81
  go_wp2
  go_loopw [1, 5] (fun q i wr => ∃ (j : Nat) (ys : List TableD) (z : Int), j ≤ xs.length ∧ i = .int .i64 j ∧ q = .int .i64 z ∧ Hid (z = k0 + (sumf wT xs j : Nat)) ∧ Hid (Wts 3 rTable sT wr lo hi a xs ys) ∧ Hid (KT lo hi w wr)) (fun _ i _ => xs.length - (intOf i).toNat)
  case atStart => exact ⟨0, xs, _, Nat.zero_le _, rfl, rfl, hid (by rw [sumf_zero]; simp), HS, hid (KT.refl _ _ _)⟩
  case round =>
    obtain ⟨j, ys, z, hj, rfl, rfl, hz, hs, ht⟩ := hrel
    by_cases hlt : j < xs.length
    · have hlty : j < ys.length := by rw [hs.out.len]; exact hlt
      obtain ⟨b, off, aj, capj, rfl, hb1, hb2, c0, c1, c2, rx⟩ := tables_at hs.out.els j hlty
      have hyl := wT_of (hs.out.wt j hlt hlty)
      have hst := sumf_step wT xs j hlt
      have hmo := sumf_mono wT xs (show j + 1 ≤ xs.length by omega) (Nat.le_refl _)
      have hnn := HN.out
      unfold wS at hnn
      have hzz := hz.out
      have hz0 : 0 ≤ z := by omega
      have hz1 : z ≤ 20000000 := by omega
      have hsz := ht.out.size
      have X := hid (text_mark z wr hz0 (by omega))
      have HST := hid (show z + (wT ys[j] : Nat) = k0 + (sumf wT xs (j + 1) : Nat) by omega)
      have HYW := hid hyl
      have HRX := hid rx
      have hf0 := fun W (hW : KT lo hi wr W) => (HT.out.nf (ht.out.trans hW).nf)
      have HF := hid hf0
      clear hyl hst hmo hnn hzz hf0 rx
      have hjx : (j : Int) < (xs.length : Int) := by omega
      have hj0 : (0 : Int) ≤ (j : Int) := by omega
      go_wp2_with fail
      with_reducible refine X.out.mono ?_
      rintro e w1 ⟨s, rfl, hss, hb⟩
      have K1 := KT.of_bf (lo := lo) (hi := hi) hb (Nat.le_refl _) (Nat.le_trans hh hsz)
      have d0 := (hb.toBelow.cell (p := ⟨b, off + j * 3, none⟩) (by show b < _; omega)).trans c0
      have d1' := (hb.toBelow.cell (p := ⟨b, off + j * 3 + 1, none⟩) (by show b < _; omega)).trans c1
      have d2' := (hb.toBelow.cell (p := ⟨b, off + j * 3 + 2, none⟩) (by show b < _; omega)).trans c2
      have f0 := HF.out w1 K1 b (off + j * 3) hb1 hb2
      have f1 := HF.out w1 K1 b (off + j * 3 + 1) hb1 hb2
      have K2 := K1.trans (KT.str d0 hb1 hb2 s hss)
      have d1 : (w1.setCell ⟨b, off + j * 3, none⟩ (.string s)).cell? ⟨b, off + j * 3 + 1, none⟩ = some (.int .i64 ys[j].2.1) := by
        rw [World.cell?_setCell_other _ _ _ _ (by simp)]
        exact d1'
      have K3 := K2.trans (KT.int d1 hb1 hb2 (z + 1))
      have d2 : ((w1.setCell ⟨b, off + j * 3, none⟩ (.string s)).setCell ⟨b, off + j * 3 + 1, none⟩ (.int .i64 (z + 1))).cell? ⟨b, off + j * 3 + 2, none⟩ = some (.slice aj ys[j].2.2.length capj) := by
        rw [World.cell?_setCell_other _ _ _ _ (by simp), World.cell?_setCell_other _ _ _ _ (by simp)]
        exact d2'
      obtain ⟨x1, r1, e1⟩ := wtd_table (cs' := [.string s, .int .i64 (z + 1), .slice aj ys[j].2.2.length capj]) HRX.out K3 rfl (fun i h1 h2 => by
        match i, h1 with
        | 0, _ => exact .inr (.inr ⟨_, _, rfl, rfl, hss⟩)
        | 1, _ => exact .inr (.inl ⟨_, _, rfl, rfl⟩)
        | 2, _ => exact .inl rfl)
      obtain ⟨a1, cap1, he1, _, _, hr1⟩ := table_open r1
      simp only [List.cons.injEq, Value.string.injEq, Value.int.injEq, Value.slice.injEq, and_true] at he1
      obtain ⟨hA1, hA2, rfl, hl1, rfl⟩ := he1
      clear hA1 hA2
      have hw1 := wT_of e1
      have M := hid (mark_ssA aj capj lo hi (z + 1 + 1) x1.2.2 _ (by
        have := HZ0.out j hlt; have := HNN.out; have := HYW.out; unfold szT at *; omega) (by omega) (by omega) hr1 (HF.out _ K3))
      have HW1 := hid hw1
      clear hw1
      rw [← hl1] at M
      have K3 := hid K3
      clear hl1 c0 c1 K1 K2 r1 hr1 hb
      go_wp2_with fail
      with_reducible refine M.out.mono ?_
      rintro e w2 ⟨rfl, ht2⟩
      have K4 := K3.out.trans ht2
      obtain ⟨zs, hz2⟩ := hs.out.turn wtd_table K4
      have HW := hid hz2
      have HK := hid (ht.out.trans K4)
      have HZ := hid (show z + 1 + 1 + (wG x1.2.2 : Nat) = k0 + (sumf wT xs (j + 1) : Nat) by have := HST.out; have := HW1.out.1; unfold wT at *; omega)
      clear hz2 ht2 K4 K3 hs ht d0 d1 f0
      go_wp2
      go_roundw
      case rel => exact ⟨j + 1, zs, _, by omega, by go_num, rfl, HZ, HW, HK⟩
      case measure => simp [intOf]; omega
    · have e : j = xs.length := by omega
      subst e
      have HZ := hid (show z = k0 + (wS wT xs : Nat) from hz.out)
      clear hz
      go_wp2
      go_ret
      exact ⟨by rw [HZ.out]; rfl, ht.out⟩


theorem mark_dbA (cs : List Value) (x : List TableD) (lo hi : Nat) (k0 : Int) (w : World) (hn : szD x ≤ 1048576) (h0 : 0 ≤ k0) (h1 : k0 ≤ 10000000) (h : rDb w lo hi cs x) (hh : hi ≤ w.heap.size) (hT : Thw lo hi w) :
    Calls Try.prog 39 #[.agg cs.toArray, .int .i64 k0] w fun e w' => e = .returned (.int .i64 (k0 + (wD x : Nat))) ∧ KT lo hi w w' := by
  obtain ⟨a, cap, hcs, hz1, hr⟩ := db_open h
  subst hcs
  have K := hid ((KT.refl lo hi w).alloc hh (.cells #[.slice a x.length cap] 34))
  have B := hid ((Below.refl w.heap.size w).alloc (Nat.le_refl _) (.cells #[.slice a x.length cap] 34))
  have M := hid (mark_tableSA a cap lo hi k0 x _ hn h0 h1 (hr.keep good_table (sm_below B.out hh)) (by simp; omega) (hT.nf K.out.nf))
  clear h hT
  go_enter Try.func39, Try.ntmps39
  go_wp2_with fail
  refine M.out.mono ?_
  rintro e w1 ⟨rfl, ht⟩
  have HK := hid (K.out.trans ht)
  clear ht
  go_wp2
  go_ret
  exact ⟨rfl, HK.out⟩

end Go.Proofs.Ytbafhahmpflnjaa.MarkA
