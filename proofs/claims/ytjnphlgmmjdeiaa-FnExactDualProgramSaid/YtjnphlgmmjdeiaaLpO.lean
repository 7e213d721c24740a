/- Linear programs: the laws' marks on copies; programs of a call's own: read, marked, held. -/
import Derived.Test.YtjnphlgmmjdeiaaLp
namespace Go.Proofs.Ytjnphlgmmjdeiaa.LpO
open Go.RowKit
open Go.Proofs.Ytjnphlgmmjdeiaa.Num Go.Proofs.Ytjnphlgmmjdeiaa.IntRow Go.Proofs.Ytjnphlgmmjdeiaa.Grid Go.Proofs.Ytjnphlgmmjdeiaa.GridMore Go.Proofs.Ytjnphlgmmjdeiaa.Rdr Go.Proofs.Ytjnphlgmmjdeiaa.HasL Go.Proofs.Ytjnphlgmmjdeiaa.Rats Go.Proofs.Ytjnphlgmmjdeiaa.RatRow Go.Proofs.Ytjnphlgmmjdeiaa.RatOwn Go.Proofs.Ytjnphlgmmjdeiaa.GridQ Go.Proofs.Ytjnphlgmmjdeiaa.Keep Go.Proofs.Ytjnphlgmmjdeiaa.Kept Go.Proofs.Ytjnphlgmmjdeiaa.Thaw Go.Proofs.Ytjnphlgmmjdeiaa.RatsF Go.Proofs.Ytjnphlgmmjdeiaa.RatsSS Go.Proofs.Ytjnphlgmmjdeiaa.Lp
set_option linter.unusedVariables false

theorem lp_sizes {x : LpD} (h : szLp x ≤ 1048576) : x.1.length ≤ 1048576 ∧ wM x.1 ≤ 1048576 ∧ szM x.1 ≤ 1048576 ∧ x.2.1.length ≤ 1048576 ∧ x.2.2.length ≤ 1048576 := by
  have h1 : szM x.1 ≤ 1048576 := by unfold szLp at h; omega
  have h2 := h1
  unfold szM tots at h2
  refine ⟨by omega, by unfold wM; omega, h1, by unfold szLp at h; omega, by unfold szLp at h; omega⟩

set_option maxRecDepth 100000 in
theorem mark_lpA (cs : List Value) (x : LpD) (lo hi : Nat) (k0 : Int) (w : World) (hn : szLp x ≤ 1048576) (h0 : 0 ≤ k0) (h1 : k0 ≤ 10000000) (h : rLp w lo hi cs x) (hh : hi ≤ w.heap.size) (hT : Thw lo hi w) :
    Calls Try.prog 49 #[.agg cs.toArray, .int .i64 k0] w fun e w' => e = .returned (.int .i64 (k0 + 2 * (wM x.1 : Nat) + 2 * (x.2.1.length : Nat) + 2 * (x.2.2.length : Nat))) ∧ KT lo hi w w' := by
  obtain ⟨a, cap, b, capb, c, capc, rfl, hz1, hz2, hz3, ha, hb, hc⟩ := lp_open h
  obtain ⟨n1, n2, n3, n4, n5⟩ := lp_sizes hn
  have K := hid ((KT.refl lo hi w).alloc hh (.cells #[.slice a x.1.length cap, .slice b x.2.1.length capb, .slice c x.2.2.length capc] 32))
  have B := hid ((Below.refl w.heap.size w).alloc (Nat.le_refl _) (.cells #[.slice a x.1.length cap, .slice b x.2.1.length capb, .slice c x.2.2.length capc] 32))
  have P := hid (hasl_new w [.slice a x.1.length cap, .slice b x.2.1.length capb, .slice c x.2.2.length capc] 32)
  have M := hid (mark_ratssA a cap lo hi k0 x.1 _ n3 h0 (by omega) (mat0 (ha.keep good_row2 (sm_below B.out hh))) (hT.nf K.out.nf))
  have M2 := hid (fun W (hW : KT lo hi w W) => by
    obtain ⟨qs, h3, _, h4⟩ := els_wtd wtd_rat0 (els0 hb) hW
    have := mark_ratsA b capb lo hi (k0 + 2 * (wM x.1 : Nat)) qs W (by omega) (by omega) (by omega) h4 (hT.nf hW.nf)
    rw [h3] at this
    exact this)
  have M3 := hid (fun W (hW : KT lo hi w W) => by
    obtain ⟨qs, h3, _, h4⟩ := els_wtd wtd_rat0 (els0 hc) hW
    have := mark_ratsA c capc lo hi (k0 + 2 * (wM x.1 : Nat) + 2 * (x.2.1.length : Nat)) qs W (by omega) (by omega) (by omega) h4 (hT.nf hW.nf)
    rw [h3] at this
    exact this)
  clear h hT ha hb hc
  obtain ⟨p0, p1, p2, _, _, _, _⟩ := P.out.three
  go_enter Try.func49, Try.ntmps49
  go_wp2_with fail
  with_reducible refine M.out.mono ?_
  rintro e w1 ⟨rfl, ht⟩
  have HK := hid (K.out.trans ht)
  have P1 := hid (hasl_turned P.out ht.toTurn (.inr hh))
  clear ht p0 p1 p2
  obtain ⟨p0, p1, p2, _, _, _, _⟩ := P1.out.three
  go_wp2_with fail
  with_reducible refine (M2.out w1 HK.out).mono ?_
  rintro e w2 ⟨rfl, ht⟩
  have HK2 := hid (HK.out.trans ht)
  have P2 := hid (hasl_turned P1.out ht.toTurn (.inr hh))
  clear ht p0 p1 p2
  obtain ⟨p0, p1, p2, _, _, _, _⟩ := P2.out.three
  go_wp2_with fail
  with_reducible refine (M3.out w2 HK2.out).mono ?_
  rintro e w3 ⟨rfl, ht⟩
  have HK3 := hid (HK2.out.trans ht)
  clear ht
  go_wp2_with fail
  go_ret
  exact ⟨rfl, HK3.out⟩

/-! ### programs of a call's own -/
/-- The matrix lies in blocks from lo on and below m, the two lists in blocks of their own from m on. -/
structure LpOwn (w : World) (lo m : Nat) (vA vB vC : Value) (vs : List Value) (x : LpD) : Prop where
  a : GOwnQ w lo tQ tR vA vs x.1
  under : GUnder m vA vs
  b : OwnQ w m tR vB x.2.1
  c : OwnQ w m tR vC x.2.2
  far : ∀ k, vB.ownBlock = some k → vC.ownBlock ≠ some k
  le : lo ≤ m
  le2 : m ≤ w.heap.size
def LpUnder (top : Nat) (vA vB vC : Value) (vs : List Value) : Prop := GUnder top vA vs ∧ Under top vB ∧ Under top vC
theorem LpUnder.mono {lo hi : Nat} {vA vB vC : Value} {vs : List Value} (h : LpUnder lo vA vB vC vs) (hl : lo ≤ hi) : LpUnder hi vA vB vC vs := ⟨h.1.mono hl, fun k hk => Nat.lt_of_lt_of_le (h.2.1 k hk) hl, fun k hk => Nat.lt_of_lt_of_le (h.2.2 k hk) hl⟩
theorem lpown_under {w : World} {lo m : Nat} {vA vB vC : Value} {vs : List Value} {x : LpD} (h : LpOwn w lo m vA vB vC vs x) : LpUnder w.heap.size vA vB vC vs := ⟨gownq_under h.a, fun k hk => (h.b.lt k hk).2, fun k hk => (h.c.lt k hk).2⟩
theorem LpOwn.below' {w w' : World} {lo m : Nat} {vA vB vC : Value} {vs : List Value} {x : LpD} (h : LpOwn w lo m vA vB vC vs x) (hb : Below w.heap.size w w') : LpOwn w' lo m vA vB vC vs x := ⟨h.a.below' hb, h.under, h.b.below' hb, h.c.below' hb, h.far, h.le, Nat.le_trans h.le2 hb.size⟩
theorem LpOwn.alloc {w : World} {lo m : Nat} {vA vB vC : Value} {vs : List Value} {x : LpD} (h : LpOwn w lo m vA vB vC vs x) (o : Obj) : LpOwn (w.alloc o) lo m vA vB vC vs x := h.below' ((Below.refl _ _).alloc (Nat.le_refl _) o)
theorem lpown_turned {w w' : World} {l hi lo m : Nat} {vA vB vC : Value} {vs : List Value} {x : LpD} (h : LpOwn w lo m vA vB vC vs x) (t : Turn l hi w w') (hv : hi ≤ lo ∨ LpUnder l vA vB vC vs) : LpOwn w' lo m vA vB vC vs x :=
  ⟨gownq_turned h.a t (hv.imp id fun u => u.1), h.under, ownq_turned h.b t (hv.imp (fun e => Nat.le_trans e h.le) fun u => u.2.1), ownq_turned h.c t (hv.imp (fun e => Nat.le_trans e h.le) fun u => u.2.2), h.far, h.le, Nat.le_trans h.le2 t.size⟩
theorem lpown_rd {w : World} {lo m : Nat} {vA vB vC : Value} {vs : List Value} {x : LpD} (h : LpOwn w lo m vA vB vC vs x) : rLp w lo w.heap.size [vA, vB, vC] x := by
  obtain ⟨a, cap, hva, h1, h2, h3⟩ := h.a.form
  obtain ⟨b, capb, hvb, h4, h5, h6⟩ := h.b.form
  obtain ⟨c, capc, hvc, h7, h8, h9⟩ := h.c.form
  rw [hva, hvb, hvc]
  unfold maxLen at h2 h5 h8
  exact lp_mk ⟨by omega, h1⟩ ⟨by omega, h4⟩ ⟨by omega, h7⟩ h3 (h6.up good_rat h.le (Nat.le_refl _)) (h9.up good_rat h.le (Nat.le_refl _))
theorem turn_wide {lo lo' hi hi' : Nat} {w w' : World} (t : Turn lo hi w w') (h1 : lo' ≤ lo) (h2 : hi ≤ hi') : Turn lo' hi' w w' := ⟨t.os, t.tape, t.output, t.size, fun k hk hkk => t.block k hk (by omega)⟩

set_option maxRecDepth 100000 in
theorem mark_lp (lo m hi : Nat) (vA vB vC : Value) (vs : List Value) (k0 : Int) (x : LpD) (w : World) (n1 : x.1.length ≤ 1048576) (n2 : wM x.1 ≤ 1048576) (n4 : x.2.1.length ≤ 1048576) (n5 : x.2.2.length ≤ 1048576) (h0 : 0 ≤ k0) (h1 : k0 ≤ 10000000) (h : LpOwn w lo m vA vB vC vs x) (hu : LpUnder hi vA vB vC vs) (hmh : m ≤ hi) (hh : hi ≤ w.heap.size) :
    Calls Try.prog 49 #[.agg #[vA, vB, vC], .int .i64 k0] w fun e w' => ∃ yss, e = .returned (.int .i64 (k0 + 2 * (wM x.1 : Nat) + 2 * (x.2.1.length : Nat) + 2 * (x.2.2.length : Nat))) ∧ LpOwn w' lo m vA vB vC vs (yss, mkQ (k0 + 2 * (wM x.1 : Nat)) x.2.1.length, mkQ (k0 + 2 * (wM x.1 : Nat) + 2 * (x.2.1.length : Nat)) x.2.2.length) ∧ MarksQ k0 x.1 yss ∧ Turn lo hi w w' := by
  have O := hid (h.alloc (.cells #[vA, vB, vC] 32))
  have T0 := hid (Turn.of_below (lo := lo) (hi := hi) ((Below.refl w.heap.size w).alloc (Nat.le_refl _) (.cells #[vA, vB, vC] 32)) (Nat.le_refl _))
  have P := hid (hasl_new w [vA, vB, vC] 32)
  have M := hid (mark_ssQ lo m vA vs k0 x.1 _ n1 n2 h0 (by omega) O.out.a O.out.under)
  have hlm := h.le
  have hUB := hid (fun k hk => (⟨(h.b.lt k hk).1, hu.2.1 k hk⟩ : m ≤ k ∧ k < hi))
  have hUC := hid (fun k hk => (⟨(h.c.lt k hk).1, hu.2.2 k hk⟩ : m ≤ k ∧ k < hi))
  have HF := hid h.far
  have HUN := hid h.under
  have hm2 := h.le2
  clear h
  obtain ⟨p0, p1, p2, _, _, _, _⟩ := P.out.three
  go_enter Try.func49, Try.ntmps49
  go_wp2_with fail
  with_reducible refine M.out.mono ?_
  rintro e w1 ⟨yss, rfl, hA, hm, ht⟩
  have hs1 := ht.size
  simp only [World.size_alloc] at hs1
  have A1 := hid hA
  have B1 := hid (ownq_turned O.out.b ht (.inl (Nat.le_refl _)))
  have C1 := hid (ownq_turned O.out.c ht (.inl (Nat.le_refl _)))
  have P1 := hid (hasl_turned P.out ht (.inr hm2))
  have T1 := hid (T0.out.trans (turn_wide ht (Nat.le_refl _) hmh))
  have HM := hid hm
  clear ht hA hm O T0 p0 p1 p2 P M
  obtain ⟨p0, p1, p2, _, _, _, _⟩ := P1.out.three
  have M2 := hid (mark_own m vB (k0 + 2 * (wM x.1 : Nat)) x.2.1 w1 n4 (by omega) (by omega) B1.out)
  go_wp2_with fail
  with_reducible refine M2.out.mono ?_
  rintro e w2 ⟨rfl, hB, hg⟩
  have hs2 := hg.size
  have t2 := Turn.of_grown hg hUB.out
  have A2 := hid (gownq_turned A1.out t2 (.inr HUN.out))
  have B2 := hid hB
  have C2 := hid (C1.out.grown hg (fun k hk e => HF.out k e hk))
  have P2 := hid (hasl_turned P1.out t2 (.inr hh))
  have T2 := hid (T1.out.trans (turn_wide t2 hlm (Nat.le_refl _)))
  clear hB hg t2 A1 B1 C1 p0 p1 p2 P1 M2 T1
  obtain ⟨p0, p1, p2, _, _, _, _⟩ := P2.out.three
  have M3 := hid (mark_own m vC (k0 + 2 * (wM x.1 : Nat) + 2 * (x.2.1.length : Nat)) x.2.2 w2 n5 (by omega) (by omega) C2.out)
  go_wp2_with fail
  with_reducible refine M3.out.mono ?_
  rintro e w3 ⟨rfl, hC, hg⟩
  have t3 := Turn.of_grown hg hUC.out
  have hs3 := hg.size
  have L := hid (show LpOwn w3 lo m vA vB vC vs (yss, mkQ (k0 + 2 * (wM x.1 : Nat)) x.2.1.length, mkQ (k0 + 2 * (wM x.1 : Nat) + 2 * (x.2.1.length : Nat)) x.2.2.length) from
    ⟨gownq_turned A2.out t3 (.inr HUN.out), HUN.out, B2.out.grown hg (fun k hk e => HF.out k hk e), hC, HF.out, hlm, by omega⟩)
  have T3 := hid (T2.out.trans (turn_wide t3 hlm (Nat.le_refl _)))
  clear hC hg t3 A2 B2 C2 M3 T2
  go_wp2_with fail
  go_ret
  exact ⟨yss, rfl, L.out, HM.out, T3.out⟩

theorem held_lp (lo m : Nat) (vA vB vC : Value) (vs : List Value) (k0 : Int) (x : LpD) (yss : MatD) (w : World) (n1 : x.1.length ≤ 1048576) (n2 : wM x.1 ≤ 1048576) (n4 : x.2.1.length ≤ 1048576) (n5 : x.2.2.length ≤ 1048576) (h0 : 0 ≤ k0) (h1 : k0 ≤ 10000000) (hm : MarksQ k0 x.1 yss)
    (h : LpOwn w lo m vA vB vC vs (yss, mkQ (k0 + 2 * (wM x.1 : Nat)) x.2.1.length, mkQ (k0 + 2 * (wM x.1 : Nat) + 2 * (x.2.1.length : Nat)) x.2.2.length)) :
    Calls Try.prog 51 #[.agg #[vA, vB, vC], .int .i64 k0] w fun e w' => e = .returned (.int .i64 (k0 + 2 * (wM x.1 : Nat) + 2 * (x.2.1.length : Nat) + 2 * (x.2.2.length : Nat))) ∧ Below w.heap.size w w' := by
  have O := h.alloc (.cells #[vA, vB, vC] 32)
  obtain ⟨a, cap, hva, _, _, h3⟩ := O.a.form
  obtain ⟨b, capb, hvb, _, _, h6⟩ := O.b.form
  obtain ⟨c, capc, hvc, _, _, h9⟩ := O.c.form
  simp only [mkQ_length] at hvb hvc
  have hyl : yss.length = x.1.length := hm.1
  dsimp only at hva hvb hvc
  rw [hyl] at hva
  subst hva hvb hvc
  have P := hid (hasl_new w [.slice a x.1.length cap, .slice b x.2.1.length capb, .slice c x.2.2.length capc] 32)
  have B := hid ((Below.refl w.heap.size w).alloc (Nat.le_refl _) (.cells #[.slice a x.1.length cap, .slice b x.2.1.length capb, .slice c x.2.2.length capc] 32))
  have H1 := hid (held_ssQ a cap _ _ k0 x.1 yss _ n1 n2 h0 (by omega) hm h3)
  have H2 := hid (held_rats b capb (k0 + 2 * (wM x.1 : Nat)) x.2.1.length _ _ _ n4 (by omega) (by omega) h6)
  have H3 := hid (held_rats c capc (k0 + 2 * (wM x.1 : Nat) + 2 * (x.2.1.length : Nat)) x.2.2.length _ _ _ n5 (by omega) (by omega) h9)
  have t1 : ¬ (k0 + 2 * (wM x.1 : Nat) < 0) := by omega
  have t2 : ¬ (k0 + 2 * (wM x.1 : Nat) + 2 * (x.2.1.length : Nat) < 0) := by omega
  have t3 : ¬ (k0 + 2 * (wM x.1 : Nat) + 2 * (x.2.1.length : Nat) + 2 * (x.2.2.length : Nat) < 0) := by omega
  clear h O h3 h6 h9 hm hyl
  obtain ⟨p0, p1, p2, _, _, _, _⟩ := P.out.three
  go_enter Try.func51, Try.ntmps51
  go_wp2_with fail
  with_reducible refine H1.out.mono ?_
  rintro e w' ⟨rfl, rfl⟩
  go_wp2_with fail
  with_reducible refine H2.out.mono ?_
  rintro e w' ⟨rfl, rfl⟩
  go_wp2_with fail
  with_reducible refine H3.out.mono ?_
  rintro e w' ⟨rfl, rfl⟩
  go_wp2_with fail
  go_ret
  exact ⟨rfl, B.out⟩
end Go.Proofs.Ytjnphlgmmjdeiaa.LpO
