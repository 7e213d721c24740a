/- The program's dual of a linear program. -/
import Derived.Test.YtjnphlgmmjdeiaaLpO
import Derived.Test.YtjnphlgmmjdeiaaLpI
import Derived.Test.YtjnphlgmmjdeiaaAppQ
import Derived.Test.YtjnphlgmmjdeiaaApnd
import Derived.Lib.SliceRun
namespace Go.Proofs.Ytjnphlgmmjdeiaa.DualI
open Go.RowKit
open Go.Proofs.Ytjnphlgmmjdeiaa.Num Go.Proofs.Ytjnphlgmmjdeiaa.IntRow Go.Proofs.Ytjnphlgmmjdeiaa.GridMore Go.Proofs.Ytjnphlgmmjdeiaa.Rdr Go.Proofs.Ytjnphlgmmjdeiaa.HasL Go.Proofs.Ytjnphlgmmjdeiaa.Rats Go.Proofs.Ytjnphlgmmjdeiaa.RatRow Go.Proofs.Ytjnphlgmmjdeiaa.RatOwn Go.Proofs.Ytjnphlgmmjdeiaa.GridQ Go.Proofs.Ytjnphlgmmjdeiaa.GridQ2 Go.Proofs.Ytjnphlgmmjdeiaa.RatsSS Go.Proofs.Ytjnphlgmmjdeiaa.LinP Go.Proofs.Ytjnphlgmmjdeiaa.Mtr Go.Proofs.Ytjnphlgmmjdeiaa.Lp Go.Proofs.Ytjnphlgmmjdeiaa.LpP Go.Proofs.Ytjnphlgmmjdeiaa.LpI Go.Proofs.Ytjnphlgmmjdeiaa.LpO Go.Proofs.Ytjnphlgmmjdeiaa.Apnd Go.Proofs.Ytjnphlgmmjdeiaa.AppQ
set_option linter.unusedVariables false

def dualD (x : LpD) : LpD := if okLp x = true then (trV x.1, x.2.2, x.2.1) else ([], [], [])
theorem dual_yes {x : LpD} (h : okLp x = true) : dualD x = (trV x.1, x.2.2, x.2.1) := if_pos h
theorem dual_no {x : LpD} (h : okLp x = false) : dualD x = ([], [], []) := if_neg (by rw [h]; exact Bool.false_ne_true)
theorem dual_tr {x : LpD} (h : okLp x = true) : trOk x.1 = true := by
  obtain ⟨h1, h2, h3, h4, _⟩ := okLp_at h
  have h0 : 0 < x.1.length := by omega
  exact (tr_yes h0 (by rw [(okM_at h4 0 h0).1]; exact h4)).1
theorem lpown_nil (w : World) (lo : Nat) (h : lo ≤ w.heap.size) : LpOwn w lo w.heap.size (.slice none 0 0) (.slice none 0 0) (.slice none 0 0) [] ([], [], []) :=
  ⟨GOwnQ.nil _ _ _ _, ⟨fun k hk => by simp [Value.ownBlock] at hk, fun j u hu => by simp at hu⟩, OwnQ.nil _ _ _, OwnQ.nil _ _ _, fun k hk => by simp [Value.ownBlock] at hk, h, Nat.le_refl _⟩
theorem lpown_mono {w : World} {lo lo' m : Nat} {vA vB vC : Value} {vs : List Value} {x : LpD} (h : LpOwn w lo m vA vB vC vs x) (hl : lo' ≤ lo) : LpOwn w lo' m vA vB vC vs x := ⟨h.a.mono hl, h.under, h.b, h.c, h.far, Nat.le_trans hl h.le, h.le2⟩
theorem turn_set (w : World) (g o : Nat) (u : Value) : Turn g (g + 1) w (w.setCell ⟨g, o, none⟩ u) := ⟨rfl, rfl, rfl, by simp, fun k hk hkk => Below.heap_setCell _ _ _ _ (by simp; omega)⟩

theorem els_from {w : World} {lo hi cap : Nat} {a : Option Addr} {xs : List RatD} (h : Els 2 rRat w lo hi a xs) (h0 : 0 < xs.length) : SrcOk 2 w hi ⟨a, xs.length, cap, fr xs⟩ := by
  obtain ⟨b', off', e, h1, h2, _⟩ := h h0
  obtain ⟨b, off, e2, hc⟩ := els_cells h h0
  rw [e] at e2
  simp only [Option.some.injEq, Addr.mk.injEq, and_true] at e2
  obtain ⟨rfl, rfl⟩ := e2
  subst e
  exact src_at (fr_len xs) (fr_one xs) h2 hc

set_option maxRecDepth 100000 in
/-- slices.Clone at a list of rationals that is not empty. -/
theorem lib_cloneQ (a : Option Addr) (cap : Nat) (xs : List RatD) (lo hi : Nat) (w : World) (h0 : 0 < xs.length) (hn : xs.length ≤ 1048576) (h : Els 2 rRat w lo hi a xs) (hh : hi ≤ w.heap.size) :
    Calls Try.prog 85 #[.slice a xs.length cap] w fun e w' => ∃ a' c', e = .returned (.slice a' xs.length c') ∧ OwnQ w' w.heap.size tR (.slice a' xs.length c') xs ∧ Below w.heap.size w w' := by
  obtain ⟨i0, hi0, hz0, hz1, hz2⟩ := info_parts infoRat
  have q : ∀ (w : World) (a : Option Addr) (n c n' c' : Nat), (binOp .eql 25 (.slice a n c) (.slice none n' c')).run Try.prog w = .ok (.bool a.isNone) w := fun w a n c n' c' => Lib.run_eql_slice_nil w _ _ a n c n' c' Try.underlying25
  have S := hid ((els_from (cap := cap) h h0).below ((Below.refl hi w).alloc hh (.cells #[] tR)))
  have hlit := hid (show OwnR (w.alloc (.cells #[] tR)) w.heap.size tR (.slice (some ⟨w.heap.size, 0, none⟩) 0 0) [] from ownR_lit w w.heap.size tR (Nat.le_refl _))
  have hib := hid (els_iba h)
  obtain ⟨b, off, rfl, _⟩ := h h0
  clear h
  go_enter Try.func85, Try.ntmps85
  go_wp2_with (at_builtin; refine wpList_src rfl _ _ 25 rfl w.heap.size tR i0 (.agg #[.int .i64 0, .int .i64 0]) 2 16 Try.underlying25 hi0 hz0 hz1 hz2 rfl (by decide) _ 0 [] rfl hlit.out ⟨some ⟨b, off, none⟩, xs.length, cap, fr xs⟩ hi S.out rfl (by show 0 + xs.length ≤ _; omega) (by decide) (by simp) ?_)
  intro v1 w1 hown hgr
  have hown2 : OwnQ w1 w.heap.size tR v1 xs := ⟨by unfold OwnR; simpa using hown, hib.out⟩
  have B := hid (((Below.refl w.heap.size w).alloc (Nat.le_refl _) (.cells #[] tR)).grown hgr (by simp) (by intro k hk; simp [Value.ownBlock] at hk; omega))
  obtain ⟨a1, c1, hv1, _⟩ := hown2.form
  subst hv1
  have O := hid hown2
  clear hown hgr hown2
  go_wp2
  go_ret
  exact ⟨a1, c1, rfl, O.out, B.out⟩

set_option maxRecDepth 100000 in
set_option maxHeartbeats 2000000 in
theorem impl_dual (cs : List Value) (x : LpD) (lo hi : Nat) (w : World) (hs : szLp x ≤ 1048576) (h : rLp w lo hi cs x) (hh : hi ≤ w.heap.size) :
    Calls Try.prog 31 #[.agg cs.toArray] w fun e w' => ∃ m vA vB vC vs, e = .returned (.tuple #[.agg #[vA, vB, vC], .bool (okLp x)]) ∧ LpOwn w' w.heap.size m vA vB vC vs (dualD x) ∧ Below w.heap.size w w' := by
  have hrd := hid h
  obtain ⟨a, cap, b, capb, c, capc, rfl, hz1, hz2, hz3, ha, hb, hc⟩ := lp_open h
  obtain ⟨n1, n2, n3, n4, n5⟩ := lp_sizes hs
  have hr1 := hid (fun j (hj : j < x.1.length) => show x.1[j].length ≤ 1048576 by have h := elem_le List.length x.1 j hj; unfold szM at n3; omega)
  have K := hid ((hasl_new w [.slice a x.1.length cap, .slice b x.2.1.length capb, .slice c x.2.2.length capc] 32).alloc (.cells #[.slice none 0 0, .slice none 0 0, .slice none 0 0] 32))
  have K2 := hid (show HasL ((w.alloc (.cells #[.slice a x.1.length cap, .slice b x.2.1.length capb, .slice c x.2.2.length capc] 32)).alloc (.cells #[.slice none 0 0, .slice none 0 0, .slice none 0 0] 32)) (w.heap.size + 1) [.slice none 0 0, .slice none 0 0, .slice none 0 0] from by
    have := hasl_new (w.alloc (.cells #[.slice a x.1.length cap, .slice b x.2.1.length capb, .slice c x.2.2.length capc] 32)) [.slice none 0 0, .slice none 0 0, .slice none 0 0] 32
    simp only [World.size_alloc] at this; exact this)
  have B := hid (((Below.refl w.heap.size w).alloc (Nat.le_refl _) (.cells #[.slice a x.1.length cap, .slice b x.2.1.length capb, .slice c x.2.2.length capc] 32)).alloc (by simp) (.cells #[.slice none 0 0, .slice none 0 0, .slice none 0 0] 32))
  have V := hid (impl_vlp _ x lo hi _ hs (good_lp.keep hrd.out (sm_below B.out hh)) (Nat.le_trans hh B.out.size))
  have TR := hid (fun W (hW : Below w.heap.size w W) => impl_tr a cap x.1 lo hi W n1 hr1 (ha.keep good_row2 (sm_below hW hh)) (Nat.le_trans hh hW.size))
  have CB0 := hid (fun W (hW : Below w.heap.size w W) (h0 : 0 < x.2.1.length) => lib_cloneQ b capb x.2.1 lo hi W h0 n4 (hb.keep good_rat (sm_below hW hh)) (Nat.le_trans hh hW.size))
  have CC0 := hid (fun W (hW : Below w.heap.size w W) (h0 : 0 < x.2.2.length) => lib_cloneQ c capc x.2.2 lo hi W h0 n5 (hc.keep good_rat (sm_below hW hh)) (Nat.le_trans hh hW.size))
  clear h hrd ha hb hc hz1 hz2 hz3 hr1
  have sB : w.heap.size + 1 + 1 ≤ ((w.alloc (.cells #[.slice a x.1.length cap, .slice b x.2.1.length capb, .slice c x.2.2.length capc] 32)).alloc (.cells #[.slice none 0 0, .slice none 0 0, .slice none 0 0] 32)).heap.size := by simp
  cases e0 : okLp x with
  | false =>
    rw [e0] at V
    have HD := hid (dual_no e0)
    clear e0 CB0 CC0 TR
    obtain ⟨k0, k1, k2, _, _, _, k6⟩ := K.out.three
    go_enter Try.func31, Try.ntmps31
    go_wp2_with fail
    with_reducible refine V.out.mono ?_
    rintro e w1 ⟨rfl, hb1⟩
    have R1 := hid (K2.out.below hb1)
    have B1 := hid (B.out.trans (hb1.mono B.out.size))
    have hs1 := hb1.size
    clear hb1 k0 k1 k2 k6 K K2 V
    have HR := hid (((R1.out.put 0 (.slice none 0 0)).put 1 (.slice none 0 0)).put 2 (.slice none 0 0))
    obtain ⟨q0, q1, q2, q3, q4, q5, q6⟩ := HasL.three R1.out
    obtain ⟨r0, r1, r2, _, _, _, _⟩ := HasL.three HR.out
    clear R1 HR
    go_wp2
    refine bodyPost_ret (v := .tuple #[.agg #[.slice none 0 0, .slice none 0 0, .slice none 0 0], .bool false]) (by simp [results, Try.results31, go_sem, r0, r1, r2]) rfl ⟨_, _, _, _, _, rfl, by rw [HD.out]; exact lpown_nil _ _ (by simp; omega), ?_⟩
    exact ((B1.out.setCell (by simp) _).setCell (by simp) _).setCell (by simp) _
  | true =>
    rw [e0] at V
    have HD := hid (dual_yes e0)
    have hto := dual_tr e0
    have hlB : 0 < x.2.1.length := by have := (okLp_at e0).2.1.1; omega
    have hlC : 0 < x.2.2.length := by have := (okLp_at e0).1.1; omega
    rw [hto] at TR
    clear e0 hto
    obtain ⟨k0, k1, k2, _, _, _, k6⟩ := K.out.three
    go_enter Try.func31, Try.ntmps31
    go_wp2_with fail
    with_reducible refine V.out.mono ?_
    rintro e w1 ⟨rfl, hb1⟩
    have P1 := hid (K.out.below hb1)
    have R1 := hid (K2.out.below hb1)
    have B1 := hid (B.out.trans (hb1.mono B.out.size))
    have hs1 := hb1.size
    clear hb1 k0 k1 k2 k6 K K2 V
    obtain ⟨k0, k1, k2, _, _, _, k6⟩ := P1.out.three
    go_wp2_with fail
    with_reducible refine (TR.out _ B1.out).mono ?_
    rintro e w2 ⟨aT, cT, vs, rfl, hown, hb2⟩
    have P2 := hid (P1.out.below hb2)
    have R2 := hid (R1.out.below hb2)
    have B2 := hid (B1.out.trans (hb2.mono B1.out.size))
    have hs2 := hb2.size
    have A2 := hid hown
    have U2 := hid (gownq_under hown)
    have CB := hid (fun W (hW : Below w2.heap.size w2 W) => CB0.out W (B2.out.trans (hW.mono B2.out.size)) hlB)
    have CC := hid (fun W (hW : Below w2.heap.size w2 W) => CC0.out W (B2.out.trans (hW.mono B2.out.size)) hlC)
    clear hb2 hown k0 k1 k2 k6 P1 R1 TR CB0 CC0
    obtain ⟨k0, k1, k2, _, _, _, k6⟩ := P2.out.three
    have D0 := hid ((Below.refl w2.heap.size w2).drew)
    go_wp2_with fail
    go_region_with (first
      | (have hD := DC; clear hD; go_at_call 85; (with_reducible refine (CB.out _ DC.out).mono ?_); rintro e w5 ⟨a5, c5, rfl, hown5, hb5⟩; have D5 := hid (DC.out.trans (hb5.mono DC.out.size)); have FIN := hid (show LpOwn w5 w1.heap.size w2.heap.size (.slice aT (trV x.1).length cT) (.slice a4 x.2.2.length c4) (.slice a5 x.2.1.length c5) vs (trV x.1, x.2.2, x.2.1) from ⟨A2.out.below' D5.out, U2.out, OC.out.below' hb5, hown5.mono DC.out.size, fun k hk hk2 => by have t1 := (OC.out.lt k hk).2; have t2 := (hown5.lt k hk2).1; omega, hs2, D5.out.size⟩); have R5 := hid (R2.out.below D5.out); have HR := hid (((R5.out.put 0 (.slice aT (trV x.1).length cT)).put 1 (.slice a4 x.2.2.length c4)).put 2 (.slice a5 x.2.1.length c5)); obtain ⟨q0, q1, q2, q3, q4, q5, q6⟩ := HasL.three R5.out; obtain ⟨r0, r1, r2, _, _, _, _⟩ := HasL.three HR.out; clear hown5 hb5 R5 HR)
      | (have hD := DB; clear hD; go_at_call 85; (with_reducible refine (CC.out _ DB.out).mono ?_); rintro e w5 ⟨a4, c4, rfl, hown5, hb5⟩; have D5 := hid (DB.out.trans (hb5.mono DB.out.size)); have FIN := hid (show LpOwn w5 w1.heap.size w2.heap.size (.slice aT (trV x.1).length cT) (.slice a4 x.2.2.length c4) (.slice a5 x.2.1.length c5) vs (trV x.1, x.2.2, x.2.1) from ⟨A2.out.below' D5.out, U2.out, hown5.mono DB.out.size, OB.out.below' hb5, fun k hk hk2 => by have t1 := (OB.out.lt k hk2).2; have t2 := (hown5.lt k hk).1; omega, hs2, D5.out.size⟩); have R5 := hid (R2.out.below D5.out); have HR := hid (((R5.out.put 0 (.slice aT (trV x.1).length cT)).put 1 (.slice a4 x.2.2.length c4)).put 2 (.slice a5 x.2.1.length c5)); obtain ⟨q0, q1, q2, q3, q4, q5, q6⟩ := HasL.three R5.out; obtain ⟨r0, r1, r2, _, _, _, _⟩ := HasL.three HR.out; clear hown5 hb5 R5 HR)
      | (go_at_call 85; (with_reducible refine (CC.out _ D0.out).mono ?_); rintro e w4 ⟨a4, c4, rfl, hown4, hb4⟩; have OC := hid (show OwnQ w4 w2.heap.size tR (.slice a4 x.2.2.length c4) x.2.2 from hown4); have DC := hid (D0.out.trans hb4); have P4 := hid (P2.out.below DC.out); obtain ⟨g0, g1, g2, _, _, _, g6⟩ := P4.out.three; clear hown4 hb4 P4)
      | (go_at_call 85; (with_reducible refine (CB.out _ D0.out).mono ?_); rintro e w4 ⟨a5, c5, rfl, hown4, hb4⟩; have OB := hid (show OwnQ w4 w2.heap.size tR (.slice a5 x.2.1.length c5) x.2.1 from hown4); have DB := hid (D0.out.trans hb4); have P4 := hid (P2.out.below DB.out); obtain ⟨g0, g1, g2, _, _, _, g6⟩ := P4.out.three; clear hown4 hb4 P4)
      | fail)
    all_goals
      have T := hid (((turn_set w5 (w.heap.size + 1) 0 (.slice aT (trV x.1).length cT)).trans (turn_set _ (w.heap.size + 1) 1 (.slice a4 x.2.2.length c4))).trans (turn_set _ (w.heap.size + 1) 2 (.slice a5 x.2.1.length c5)))
      have BF := hid (((((B2.out.trans (D5.out.mono B2.out.size)).setCell (p := ⟨w.heap.size + 1, 0, none⟩) (by simp) (.slice aT (trV x.1).length cT))).setCell (p := ⟨w.heap.size + 1, 1, none⟩) (by simp) (.slice a4 x.2.2.length c4)).setCell (p := ⟨w.heap.size + 1, 2, none⟩) (by simp) (.slice a5 x.2.1.length c5))
      have FF := hid (lpown_mono (lpown_turned FIN.out T.out (.inl (by omega))) (show w.heap.size ≤ w1.heap.size by omega))
      clear FIN T
      go_wp2
      refine bodyPost_ret (v := .tuple #[.agg #[.slice aT (trV x.1).length cT, .slice a4 x.2.2.length c4, .slice a5 x.2.1.length c5], .bool true]) (by simp [results, Try.results31, go_sem, r0, r1, r2]) rfl ⟨_, _, _, _, _, rfl, by rw [HD.out]; exact FF.out, BF.out⟩
end Go.Proofs.Ytjnphlgmmjdeiaa.DualI
