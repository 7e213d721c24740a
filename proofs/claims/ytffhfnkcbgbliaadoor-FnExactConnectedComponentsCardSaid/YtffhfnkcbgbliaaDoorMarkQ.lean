/- The laws' marks on copies of queries. -/
import Derived.Test.YtffhfnkcbgbliaaDoorMarkA
namespace Go.Proofs.YtffhfnkcbgbliaaDoor.MarkA
open Go.RowKit
open Go.Proofs.YtffhfnkcbgbliaaDoor.Num Go.Proofs.YtffhfnkcbgbliaaDoor.IntRow Go.Proofs.YtffhfnkcbgbliaaDoor.IntLaw Go.Proofs.YtffhfnkcbgbliaaDoor.Grid Go.Proofs.YtffhfnkcbgbliaaDoor.GridMore Go.Proofs.YtffhfnkcbgbliaaDoor.Rdr Go.Proofs.YtffhfnkcbgbliaaDoor.Dat Go.Proofs.YtffhfnkcbgbliaaDoor.HasL Go.Proofs.YtffhfnkcbgbliaaDoor.Thaw Go.Proofs.YtffhfnkcbgbliaaDoor.ToF
set_option linter.unusedVariables false

set_option maxRecDepth 100000 in
set_option maxHeartbeats 4000000 in
theorem mark_atomSA (a : Option Addr) (cap lo hi : Nat) (k0 : Int) (xs : List AtomD) (w : World) (hn : tots szA xs ≤ 1048576) (h0 : 0 ≤ k0) (h1 : k0 ≤ 10000000) (h : Els 2 rAtom w lo hi a xs) (hh : hi ≤ w.heap.size) (hT : Thw lo hi w) :
    Calls Tryd.prog 50 #[.slice a xs.length cap, .int .i64 k0] w fun e w' => e = .returned (.int .i64 (k0 + (wS wA xs : Nat))) ∧ KT lo hi w w' := by
  have hn1 : xs.length ≤ 1048576 := by have := tots_len szA xs; omega
  have HN := hid (w_atom hn)
  have HT := hid hT
  have HS := hid (Wts.start (wt := sA) h)
  have HZ0 := hid (fun j (hj : j < xs.length) => elem_le szA xs j hj)
  have HNN := hid hn
  clear h hT hn
  go_enter Tryd.func50, Tryd.ntmps50
  go_wp2
  go_loopw [1, 5] (fun q i wr => ∃ (j : Nat) (ys : List AtomD) (z : Int), j ≤ xs.length ∧ i = .int .i64 j ∧ q = .int .i64 z ∧ Hid (z = k0 + (sumf wA xs j : Nat)) ∧ Hid (Wts 2 rAtom sA wr lo hi a xs ys) ∧ Hid (KT lo hi w wr)) (fun _ i _ => xs.length - (intOf i).toNat)
  case atStart => exact ⟨0, xs, _, Nat.zero_le _, rfl, rfl, hid (by rw [sumf_zero]; simp), HS, hid (KT.refl _ _ _)⟩
  case round =>
    obtain ⟨j, ys, z, hj, rfl, rfl, hz, hs, ht⟩ := hrel
    by_cases hlt : j < xs.length
    · have hlty : j < ys.length := by rw [hs.out.len]; exact hlt
      obtain ⟨b, off, aj, capj, rfl, hb1, hb2, c0, c1, rx⟩ := atoms_at hs.out.els j hlty
      have hyl := wA_of (hs.out.wt j hlt hlty)
      have hst := sumf_step wA xs j hlt
      have hmo := sumf_mono wA xs (show j + 1 ≤ xs.length by omega) (Nat.le_refl _)
      have hnn := HN.out
      unfold wS at hnn
      have hzz := hz.out
      have hz0 : 0 ≤ z := by omega
      have hz1 : z ≤ 20000000 := by omega
      have hsz := ht.out.size
      have X := hid (text_mark z wr hz0 (by omega))
      have HST := hid (show z + (wA ys[j] : Nat) = k0 + (sumf wA xs (j + 1) : Nat) by omega)
      have HYW := hid hyl
      have HRX := hid rx
      have hf0 := fun W (hW : KT lo hi wr W) => (HT.out.nf (ht.out.trans hW).nf)
      have HF := hid hf0
      clear hyl hst hmo hnn hzz hf0 rx
      have hjx : (j : Int) < (xs.length : Int) := by omega
      have hj0 : (0 : Int) ≤ (j : Int) := by omega
      go_wp2_with fail
      with_reducible refine X.out.mono ?_
      rintro e w1 ⟨s, rfl, hss, hb⟩
      have K1 := KT.of_bf (lo := lo) (hi := hi) hb (Nat.le_refl _) (Nat.le_trans hh hsz)
      have d0 := (hb.toBelow.cell (p := ⟨b, off + j * 2, none⟩) (by show b < _; omega)).trans c0
      have f0 := HF.out w1 K1 b (off + j * 2) hb1 hb2
      have K2 := K1.trans (KT.str d0 hb1 hb2 s hss)
      have d1 : (w1.setCell ⟨b, off + j * 2, none⟩ (.string s)).cell? ⟨b, off + j * 2 + 1, none⟩ = some (.slice aj ys[j].2.length capj) := by
        rw [World.cell?_setCell_other _ _ _ _ (by simp)]
        exact (hb.toBelow.cell (p := ⟨b, off + j * 2 + 1, none⟩) (by show b < _; omega)).trans c1
      obtain ⟨x1, r1, e1⟩ := wtd_atom (cs' := [.string s, .slice aj ys[j].2.length capj]) HRX.out K2 rfl (fun i h1 h2 => by
        match i, h1 with
        | 0, _ => exact .inr (.inr ⟨_, _, rfl, rfl, hss⟩)
        | 1, _ => exact .inl rfl)
      obtain ⟨a1, cap1, he1, _, _, hr1⟩ := atom_open r1
      simp only [List.cons.injEq, Value.string.injEq, Value.slice.injEq, and_true] at he1
      obtain ⟨hA1, rfl, hl1, rfl⟩ := he1
      clear hA1
      have M := hid (mark_intsA aj capj lo hi (z + 1) x1.2 _ (by have := HZ0.out j hlt; have := HNN.out; unfold sA at e1; have := HYW.out; unfold wA at this; unfold szA at *; omega) (by omega) (by omega) hr1 (HF.out _ K2))
      rw [← hl1] at M
      clear hl1 e1
      have K3 := hid K2
      clear c0 c1 K1 K2 r1 hr1 hb
      go_wp2_with fail
      with_reducible refine M.out.mono ?_
      rintro e w2 ⟨rfl, ht2⟩
      have K4 := K3.out.trans ht2
      obtain ⟨zs, hz2⟩ := hs.out.turn wtd_atom K4
      have HW := hid hz2
      have HK := hid (ht.out.trans K4)
      have HZ := hid (show z + 1 + (ys[j].2.length : Int) = k0 + (sumf wA xs (j + 1) : Nat) by have := HST.out; unfold wA at this; unfold wA; omega)
      have hyn : ys[j].2.length ≤ 1048576 := by have := HZ0.out j hlt; have := HNN.out; have := HYW.out; unfold wA szA at *; omega
      clear hz2 ht2 K4 K3 hs ht d0 d1 f0
      go_wp2
      go_roundw
      case rel => exact ⟨j + 1, zs, _, by omega, by go_num, rfl, HZ, HW, HK⟩
      case measure => simp [intOf]; omega
    · have e : j = xs.length := by omega
      subst e
      have HZ := hid (show z = k0 + (wS wA xs : Nat) from hz.out)
      clear hz
      go_wp2
      go_ret
      exact ⟨by rw [HZ.out]; rfl, ht.out⟩


theorem mark_queryA (cs : List Value) (x : QueryD) (lo hi : Nat) (k0 : Int) (w : World) (hn : szQ x ≤ 1048576) (h0 : 0 ≤ k0) (h1 : k0 ≤ 10000000) (h : rQuery w lo hi cs x) (hh : hi ≤ w.heap.size) (hT : Thw lo hi w) :
    Calls Tryd.prog 22 #[.agg cs.toArray, .int .i64 k0] w fun e w' => e = .returned (.int .i64 (k0 + (wS wA x.2.1 : Nat) + (x.2.2.length : Nat))) ∧ KT lo hi w w' := by
  obtain ⟨a, cap, q, capq, hcs, hz1, hz2, hr, hq⟩ := query_open h
  subst hcs
  have hn1 : tots szA x.2.1 ≤ 1048576 := by unfold szQ at hn; omega
  have hn2 : x.2.2.length ≤ 1048576 := by unfold szQ at hn; omega
  have hwn := w_atom hn1
  have K := hid ((KT.refl lo hi w).alloc hh (.cells #[.int .i64 x.1, .slice a x.2.1.length cap, .slice q x.2.2.length capq] 48))
  have B := hid ((Below.refl w.heap.size w).alloc (Nat.le_refl _) (.cells #[.int .i64 x.1, .slice a x.2.1.length cap, .slice q x.2.2.length capq] 48))
  have P := hid (hasl_new w [.int .i64 x.1, .slice a x.2.1.length cap, .slice q x.2.2.length capq] 48)
  have M := hid (mark_atomSA a cap lo hi k0 x.2.1 _ hn1 h0 h1 (hr.keep good_atom (sm_below B.out hh)) (by simp; omega) (hT.nf K.out.nf))
  have M2 := hid (fun W (hW : KT lo hi w W) => by
    obtain ⟨qs, h3, _, h4⟩ := els_wtd wtd_int hq hW
    have := mark_intsA q capq lo hi (k0 + (wS wA x.2.1 : Nat)) qs W (by omega) (by omega) (by omega) h4 (hT.nf hW.nf)
    rw [h3] at this
    exact this)
  clear h hT hr hq
  go_enter Tryd.func22, Tryd.ntmps22
  go_wp2_with fail
  refine M.out.mono ?_
  rintro e w1 ⟨rfl, ht⟩
  have HK := hid (K.out.trans ht)
  have hp : ∀ i (hi' : i < 3), w1.cell? ⟨w.heap.size, i, none⟩ = (w.alloc (.cells #[.int .i64 x.1, .slice a x.2.1.length cap, .slice q x.2.2.length capq] 48)).cell? ⟨w.heap.size, i, none⟩ := fun i _ => World.cell?_of_block (ht.toTurn.block w.heap.size (by simp) (.inr hh))
  obtain ⟨p0, p1, p2, _, _, _, _⟩ := P.out.three
  have c2 := (hp 2 (by omega)).trans p2
  clear ht hp p0 p1 p2
  go_wp2_with fail
  refine (M2.out w1 HK.out).mono ?_
  rintro e w2 ⟨rfl, ht⟩
  have HK2 := hid (HK.out.trans ht)
  clear ht
  go_wp2
  go_ret
  exact ⟨rfl, HK2.out⟩

end Go.Proofs.YtffhfnkcbgbliaaDoor.MarkA
