/- The model's dual of a linear program. -/
import Derived.Test.YtjnphlgmmjdeiaaDualI
import Derived.Test.YtjnphlgmmjdeiaaLpS
import Derived.Test.YtjnphlgmmjdeiaaAppQ
import Derived.Deep.AppendLies
namespace Go.Proofs.Ytjnphlgmmjdeiaa.DualS
open Go.RowKit
open Go.Proofs.Ytjnphlgmmjdeiaa.Num Go.Proofs.Ytjnphlgmmjdeiaa.IntRow Go.Proofs.Ytjnphlgmmjdeiaa.GridMore Go.Proofs.Ytjnphlgmmjdeiaa.Rdr Go.Proofs.Ytjnphlgmmjdeiaa.HasL Go.Proofs.Ytjnphlgmmjdeiaa.Rats Go.Proofs.Ytjnphlgmmjdeiaa.RatRow Go.Proofs.Ytjnphlgmmjdeiaa.RatOwn Go.Proofs.Ytjnphlgmmjdeiaa.GridQ Go.Proofs.Ytjnphlgmmjdeiaa.GridQ2 Go.Proofs.Ytjnphlgmmjdeiaa.RatsSS Go.Proofs.Ytjnphlgmmjdeiaa.LinP Go.Proofs.Ytjnphlgmmjdeiaa.Mtr Go.Proofs.Ytjnphlgmmjdeiaa.Lp Go.Proofs.Ytjnphlgmmjdeiaa.LpP Go.Proofs.Ytjnphlgmmjdeiaa.LpS Go.Proofs.Ytjnphlgmmjdeiaa.LpO Go.Proofs.Ytjnphlgmmjdeiaa.AppQ Go.Proofs.Ytjnphlgmmjdeiaa.DualI
set_option linter.unusedVariables false

section
variable {P : Program}
/-- 'append(s, x...)' of rationals, s of the call's own, x any list with an element: where the grown row lies. -/
theorem step_lies {ops : Array Oper} {o : Oper} {a : Act} {W : World} {K : Act → World → Prop} {Q : Exit → Act → World → Prop} {E : Prop} (hgd : o.guard = none) (s x : Operand) (t : TypeId)
    (ho : o.op = .call { callee := .builtin .append, args := #[s, x], argTypes := #[t, t] })
    (base : Nat) (e : TypeId) (i : TypeInfo) (ht : P.underlying t = some (.slice e)) (hi : P.info? e = some i) (hz : i.zero = some (.agg #[.int .i64 0, .int .i64 0]))
    (hsize : i.size = 2) (hby : i.bytes = 16) (v : Value) (l ys : List RatD) (hown : OwnR W base e v l) (hs : a.eval s = v) (lo hi' n c : Nat) (q : Option Addr) (hx : a.eval x = .slice q n c) (hn : n = ys.length) (hsrc : Els 2 rRat W lo hi' q ys) (h0 : 0 < ys.length)
    (hbase : base ≤ W.heap.size) (hlen : l.length + ys.length ≤ 4398046511104) (H : Nat) (hH : W.heap.size = H)
    (h : ∀ g cap w', OwnR w' base e (.slice (some ⟨g, 0, none⟩) (l ++ ys).length cap) (l ++ ys) → W.grownBy w' v.ownBlock → (v.ownBlock = some g ∨ g = H) → g < w'.heap.size → K (a.put o.dst (.slice (some ⟨g, 0, none⟩) (l ++ ys).length cap)) w') :
    if Region.wanted o (yielded ops a.tmps) = true then Oper.wp P o a W K Q else E := by
  subst hn
  obtain ⟨b, off, rfl, hc⟩ := els_cells hsrc h0
  refine step_append_lies _ hgd s x t ho base e i (.agg #[.int .i64 0, .int .i64 0]) 2 16 ht hi hz hsize hby rfl (by decide) v l.length (fr l) hs hown ⟨b, off, none⟩ ys.length c (fr ys) hx (fr_len ys) ?_ (fr_one ys) h0 ?_ ?_ hbase H hH ?_
  · intro j u hj
    rw [Addr.add_lit]
    exact hc j u hj
  · unfold maxLen; omega
  · omega
  · intro g cap w' h1 h2 h3 h4
    rw [← List.length_append] at h1 ⊢
    refine h g cap w' ?_ h2 h3 h4
    unfold OwnR
    rw [fr_app]
    exact h1
end
set_option maxRecDepth 100000 in
set_option maxHeartbeats 2000000 in
theorem spec_dual (cs : List Value) (x : LpD) (lo hi : Nat) (w : World) (hs : szLp x ≤ 1048576) (h : rLp w lo hi cs x) (hh : hi ≤ w.heap.size) :
    Calls Try.prog 50 #[.agg cs.toArray] w fun e w' => ∃ m vA vB vC vs, e = .returned (.tuple #[.agg #[vA, vB, vC], .bool (okLp x)]) ∧ LpOwn w' w.heap.size m vA vB vC vs (dualD x) ∧ Below w.heap.size w w' := by
  have hrd := hid h
  obtain ⟨a, cap, b, capb, c, capc, rfl, hz1, hz2, hz3, ha, hb, hc⟩ := lp_open h
  obtain ⟨n1, n2, n3, n4, n5⟩ := lp_sizes hs
  obtain ⟨i0, hi0, iz0, iz1, iz2⟩ := info_parts infoRat
  have hr1 := hid (fun j (hj : j < x.1.length) => show x.1[j].length ≤ 1048576 by have h := elem_le List.length x.1 j hj; unfold szM at n3; omega)
  have K := hid ((hasl_new w [.slice a x.1.length cap, .slice b x.2.1.length capb, .slice c x.2.2.length capc] 32).alloc (.cells #[.slice none 0 0, .slice none 0 0, .slice none 0 0] 32))
  have K2 := hid (show HasL ((w.alloc (.cells #[.slice a x.1.length cap, .slice b x.2.1.length capb, .slice c x.2.2.length capc] 32)).alloc (.cells #[.slice none 0 0, .slice none 0 0, .slice none 0 0] 32)) (w.heap.size + 1) [.slice none 0 0, .slice none 0 0, .slice none 0 0] from by
    have := hasl_new (w.alloc (.cells #[.slice a x.1.length cap, .slice b x.2.1.length capb, .slice c x.2.2.length capc] 32)) [.slice none 0 0, .slice none 0 0, .slice none 0 0] 32
    simp only [World.size_alloc] at this; exact this)
  have B := hid (((Below.refl w.heap.size w).alloc (Nat.le_refl _) (.cells #[.slice a x.1.length cap, .slice b x.2.1.length capb, .slice c x.2.2.length capc] 32)).alloc (by simp) (.cells #[.slice none 0 0, .slice none 0 0, .slice none 0 0] 32))
  have V := hid (spec_vlp _ x lo hi _ hs (good_lp.keep hrd.out (sm_below B.out hh)) (Nat.le_trans hh B.out.size))
  have TR := hid (fun W (hW : Below w.heap.size w W) => spec_tr a cap x.1 lo hi W n1 hr1 (ha.keep good_row2 (sm_below hW hh)) (Nat.le_trans hh hW.size))
  have HBB := hid (fun W (hW : Below w.heap.size w W) => hb.keep good_rat (sm_below hW hh))
  have HCC := hid (fun W (hW : Below w.heap.size w W) => hc.keep good_rat (sm_below hW hh))
  have HIB := hid (els_iba hb)
  have HIC := hid (els_iba hc)
  clear h hrd ha hb hc hz1 hz2 hz3 hr1
  have sB : w.heap.size + 1 + 1 ≤ ((w.alloc (.cells #[.slice a x.1.length cap, .slice b x.2.1.length capb, .slice c x.2.2.length capc] 32)).alloc (.cells #[.slice none 0 0, .slice none 0 0, .slice none 0 0] 32)).heap.size := by simp
  cases e0 : okLp x with
  | false =>
    rw [e0] at V
    have HD := hid (dual_no e0)
    clear e0 HBB HCC HIB HIC TR
    obtain ⟨k0, k1, k2, _, _, _, k6⟩ := K.out.three
    go_enter Try.func50, Try.ntmps50
    go_wp2_with fail
    with_reducible refine V.out.mono ?_
    rintro e w1 ⟨rfl, hb1⟩
    have R1 := hid (K2.out.below hb1)
    have B1 := hid (B.out.trans (hb1.mono B.out.size))
    have hs1 := hb1.size
    clear hb1 k0 k1 k2 k6 K K2 V
    have HR := hid (((R1.out.put 0 (.slice none 0 0)).put 1 (.slice none 0 0)).put 2 (.slice none 0 0))
    obtain ⟨q0, q1, q2, q3, q4, q5, q6⟩ := HasL.three R1.out
    obtain ⟨r0, r1, r2, _, _, _, _⟩ := HasL.three HR.out
    clear R1 HR
    go_wp2
    refine bodyPost_ret (v := .tuple #[.agg #[.slice none 0 0, .slice none 0 0, .slice none 0 0], .bool false]) (by simp [results, Try.results50, go_sem, r0, r1, r2]) rfl ⟨_, _, _, _, _, rfl, by rw [HD.out]; exact lpown_nil _ _ (by simp; omega), ?_⟩
    exact ((B1.out.setCell (by simp) _).setCell (by simp) _).setCell (by simp) _
  | true =>
    rw [e0] at V
    have HD := hid (dual_yes e0)
    have hto := dual_tr e0
    have hlB : 0 < x.2.1.length := by have := (okLp_at e0).2.1.1; omega
    have hlC : 0 < x.2.2.length := by have := (okLp_at e0).1.1; omega
    rw [hto] at TR
    clear e0 hto
    obtain ⟨k0, k1, k2, _, _, _, k6⟩ := K.out.three
    go_enter Try.func50, Try.ntmps50
    go_wp2_with fail
    with_reducible refine V.out.mono ?_
    rintro e w1 ⟨rfl, hb1⟩
    have P1 := hid (K.out.below hb1)
    have R1 := hid (K2.out.below hb1)
    have B1 := hid (B.out.trans (hb1.mono B.out.size))
    have hs1 := hb1.size
    clear hb1 k0 k1 k2 k6 K K2 V
    obtain ⟨k0, k1, k2, _, _, _, k6⟩ := P1.out.three
    go_wp2_with fail
    with_reducible refine (TR.out _ B1.out).mono ?_
    rintro e w2 ⟨aT, cT, vs, rfl, hown, hb2⟩
    have P2 := hid (P1.out.below hb2)
    have R2 := hid (R1.out.below hb2)
    have B2 := hid (B1.out.trans (hb2.mono B1.out.size))
    have hs2 := hb2.size
    have A2 := hid hown
    have U2 := hid (gownq_under hown)
    clear hb2 hown k0 k1 k2 k6 P1 R1 TR
    obtain ⟨k0, k1, k2, _, _, _, k6⟩ := P2.out.three
    have L1 := hid (show OwnR (w2.drew.alloc (.cells #[] tR)) w2.heap.size tR (.slice (some ⟨w2.heap.size, 0, none⟩) 0 0) [] from ownR_lit w2.drew w2.heap.size tR (Nat.le_refl _))
    have L20 := hid (show OwnR ((w2.drew.alloc (.cells #[] tR)).alloc (.cells #[] tR)) w2.heap.size tR (.slice (some ⟨w2.heap.size, 0, none⟩) 0 0) [] from L1.out.below' ((Below.refl _ _).alloc (Nat.le_refl _) _))
    have L21 := hid (show OwnR ((w2.drew.alloc (.cells #[] tR)).alloc (.cells #[] tR)) w2.heap.size tR (.slice (some ⟨w2.heap.size + 1, 0, none⟩) 0 0) [] from by
      have := ownR_lit (w2.drew.alloc (.cells #[] tR)) w2.heap.size tR (by simp)
      simp only [World.size_alloc] at this; exact this)
    have D1 := hid ((Below.refl w2.heap.size w2).drew.alloc (Nat.le_refl _) (.cells #[] tR))
    have D2 := hid (D1.out.alloc (by simp) (.cells #[] tR))
    have E1C := hid (HCC.out _ (B2.out.trans (D1.out.mono B2.out.size)))
    have E1B := hid (HBB.out _ (B2.out.trans (D1.out.mono B2.out.size)))
    have E2C := hid (HCC.out _ (B2.out.trans (D2.out.mono B2.out.size)))
    have E2B := hid (HBB.out _ (B2.out.trans (D2.out.mono B2.out.size)))
    go_wp2_with fail
    go_region_law (first
      | (refine step_lies rfl _ _ 25 rfl w2.heap.size tR i0 Try.underlying25 hi0 iz0 iz1 iz2 _ [] x.2.2 L1.out (by rfl) _ _ _ capc c (by rfl) rfl E1C.out hlC (by first | omega | (simp; done) | (simp; omega)) (by simp; omega) (w2.heap.size + 1) (by simp) ?_; intro gB cB w3 hown hgr hor hlt; have hor2 : gB = w2.heap.size ∨ gB = w2.heap.size + 1 := (by rcases hor with h | h; all_goals first | exact .inr h | (simp [Value.ownBlock] at h; exact .inl h.symm)); have O3C := hid (show OwnQ w3 w2.heap.size tR (.slice (some ⟨gB, 0, none⟩) x.2.2.length cB) x.2.2 from ⟨hown, HIC.out⟩); have D3 := hid (D1.out.trans (below_of hgr (by first | omega | (simp; done) | (simp; omega)) (fun q hq => by simp [Value.ownBlock] at hq; omega))); have s3 := D3.out.size; have P3 := hid (P2.out.below D3.out); obtain ⟨h0, h1, h2, _, _, _, h6⟩ := P3.out.three; have hgl := hlt; clear hown hgr hor hor2 P3)
      | (refine step_lies rfl _ _ 25 rfl w2.heap.size tR i0 Try.underlying25 hi0 iz0 iz1 iz2 _ [] x.2.2 L20.out (by rfl) _ _ _ capc c (by rfl) rfl E2C.out hlC (by first | omega | (simp; done) | (simp; omega)) (by simp; omega) (w2.heap.size + 1 + 1) (by simp) ?_; intro gB cB w3 hown hgr hor hlt; have hor2 : gB = w2.heap.size ∨ gB = w2.heap.size + 1 + 1 := (by rcases hor with h | h; all_goals first | exact .inr h | (simp [Value.ownBlock] at h; exact .inl h.symm)); have O3C := hid (show OwnQ w3 w2.heap.size tR (.slice (some ⟨gB, 0, none⟩) x.2.2.length cB) x.2.2 from ⟨hown, HIC.out⟩); have D3 := hid (D2.out.trans (below_of hgr (by first | omega | (simp; done) | (simp; omega)) (fun q hq => by simp [Value.ownBlock] at hq; omega))); have s3 := D3.out.size; have P3 := hid (P2.out.below D3.out); obtain ⟨h0, h1, h2, _, _, _, h6⟩ := P3.out.three; have hgl := hlt; have LL := hid (show OwnR w3 w2.heap.size tR (.slice (some ⟨w2.heap.size + 1, 0, none⟩) 0 0) [] from World.ownsRow.kept L21.out hgr (.inr (by simp [Value.ownBlock]))); have NE : gB ≠ w2.heap.size + 1 := (by omega); clear hown hgr hor hor2 P3)
      | (refine step_lies rfl _ _ 25 rfl w2.heap.size tR i0 Try.underlying25 hi0 iz0 iz1 iz2 _ [] x.2.2 L21.out (by rfl) _ _ _ capc c (by rfl) rfl E2C.out hlC (by first | omega | (simp; done) | (simp; omega)) (by simp; omega) (w2.heap.size + 1 + 1) (by simp) ?_; intro gB cB w3 hown hgr hor hlt; have hor2 : gB = w2.heap.size + 1 ∨ gB = w2.heap.size + 1 + 1 := (by rcases hor with h | h; all_goals first | exact .inr h | (simp [Value.ownBlock] at h; exact .inl h.symm)); have O3C := hid (show OwnQ w3 w2.heap.size tR (.slice (some ⟨gB, 0, none⟩) x.2.2.length cB) x.2.2 from ⟨hown, HIC.out⟩); have D3 := hid (D2.out.trans (below_of hgr (by first | omega | (simp; done) | (simp; omega)) (fun q hq => by simp [Value.ownBlock] at hq; omega))); have s3 := D3.out.size; have P3 := hid (P2.out.below D3.out); obtain ⟨h0, h1, h2, _, _, _, h6⟩ := P3.out.three; have hgl := hlt; have LL := hid (show OwnR w3 w2.heap.size tR (.slice (some ⟨w2.heap.size, 0, none⟩) 0 0) [] from World.ownsRow.kept L20.out hgr (.inr (by simp [Value.ownBlock]))); have NE : gB ≠ w2.heap.size := (by omega); clear hown hgr hor hor2 P3)
      | (have hO := O3C; clear hO; refine step_lies rfl _ _ 25 rfl w2.heap.size tR i0 Try.underlying25 hi0 iz0 iz1 iz2 _ [] x.2.1 (show OwnR (w3.alloc (.cells #[] tR)) w2.heap.size tR (.slice (some ⟨w3.heap.size, 0, none⟩) 0 0) [] from ownR_lit w3 w2.heap.size tR s3) (by rfl) _ _ _ capb b (by rfl) rfl (HBB.out _ (B2.out.trans ((D3.out.alloc s3 (.cells #[] tR)).mono B2.out.size))) hlB (by first | omega | (simp; done) | (simp; omega)) (by simp; omega) (w3.heap.size + 1) (by first | rfl | simp) ?_; intro gC cC w4 hown hgr hor hlt; have NF : gB ≠ gC := (by rcases hor with h | h; all_goals first | omega | (simp [Value.ownBlock] at h; omega)); have O5 := hid (show OwnQ w4 w2.heap.size tR (.slice (some ⟨gB, 0, none⟩) x.2.2.length cB) x.2.2 from (O3C.out.alloc _).grown hgr (fun k hk e => by simp [Value.ownBlock] at hk e; omega)); have D5 := hid ((D3.out.alloc s3 (.cells #[] tR)).trans (below_of hgr (by first | omega | (simp; done) | (simp; omega)) (fun q hq => by simp [Value.ownBlock] at hq; omega))); have O6 := hid (show OwnQ w4 w2.heap.size tR (.slice (some ⟨gC, 0, none⟩) x.2.1.length cC) x.2.1 from ⟨hown, HIB.out⟩); have FIN := hid (show LpOwn w4 w1.heap.size w2.heap.size (.slice aT (trV x.1).length cT) (.slice (some ⟨gB, 0, none⟩) x.2.2.length cB) (.slice (some ⟨gC, 0, none⟩) x.2.1.length cC) vs (trV x.1, x.2.2, x.2.1) from ⟨A2.out.below' D5.out, U2.out, O5.out, O6.out, fun k hk hk2 => by simp [Value.ownBlock] at hk hk2; omega, hs2, D5.out.size⟩); have R5 := hid (R2.out.below D5.out); have HR := hid (((R5.out.put 0 (.slice aT (trV x.1).length cT)).put 1 (.slice (some ⟨gB, 0, none⟩) x.2.2.length cB)).put 2 (.slice (some ⟨gC, 0, none⟩) x.2.1.length cC)); obtain ⟨q0, q1, q2, q3, q4, q5, q6⟩ := HasL.three R5.out; obtain ⟨r0, r1, r2, _, _, _, _⟩ := HasL.three HR.out; clear hown hgr hor R5 HR)
      | (have hO := O3C; clear hO; refine step_lies rfl _ _ 25 rfl w2.heap.size tR i0 Try.underlying25 hi0 iz0 iz1 iz2 _ [] x.2.1 LL.out (by rfl) _ _ _ capb b (by rfl) rfl (HBB.out _ (B2.out.trans ((D3.out).mono B2.out.size))) hlB (by first | omega | (simp; done) | (simp; omega)) (by simp; omega) (w3.heap.size) (by first | rfl | simp) ?_; intro gC cC w4 hown hgr hor hlt; have NF : gB ≠ gC := (by rcases hor with h | h; all_goals first | omega | (simp [Value.ownBlock] at h; omega)); have O5 := hid (show OwnQ w4 w2.heap.size tR (.slice (some ⟨gB, 0, none⟩) x.2.2.length cB) x.2.2 from O3C.out.grown hgr (fun k hk e => by simp [Value.ownBlock] at hk e; omega)); have D5 := hid (D3.out.trans (below_of hgr s3 (fun q hq => by simp [Value.ownBlock] at hq; have := (LL.out.lt q (by simp [Value.ownBlock]; exact hq)).1; omega))); have O6 := hid (show OwnQ w4 w2.heap.size tR (.slice (some ⟨gC, 0, none⟩) x.2.1.length cC) x.2.1 from ⟨hown, HIB.out⟩); have FIN := hid (show LpOwn w4 w1.heap.size w2.heap.size (.slice aT (trV x.1).length cT) (.slice (some ⟨gB, 0, none⟩) x.2.2.length cB) (.slice (some ⟨gC, 0, none⟩) x.2.1.length cC) vs (trV x.1, x.2.2, x.2.1) from ⟨A2.out.below' D5.out, U2.out, O5.out, O6.out, fun k hk hk2 => by simp [Value.ownBlock] at hk hk2; omega, hs2, D5.out.size⟩); have R5 := hid (R2.out.below D5.out); have HR := hid (((R5.out.put 0 (.slice aT (trV x.1).length cT)).put 1 (.slice (some ⟨gB, 0, none⟩) x.2.2.length cB)).put 2 (.slice (some ⟨gC, 0, none⟩) x.2.1.length cC)); obtain ⟨q0, q1, q2, q3, q4, q5, q6⟩ := HasL.three R5.out; obtain ⟨r0, r1, r2, _, _, _, _⟩ := HasL.three HR.out; clear hown hgr hor R5 HR)
      | fail)
    all_goals
      have T := hid (((turn_set w4 (w.heap.size + 1) 0 (.slice aT (trV x.1).length cT)).trans (turn_set _ (w.heap.size + 1) 1 (.slice (some ⟨gB, 0, none⟩) x.2.2.length cB))).trans (turn_set _ (w.heap.size + 1) 2 (.slice (some ⟨gC, 0, none⟩) x.2.1.length cC)))
      have BF := hid (((((B2.out.trans (D5.out.mono B2.out.size)).setCell (p := ⟨w.heap.size + 1, 0, none⟩) (by simp) (.slice aT (trV x.1).length cT))).setCell (p := ⟨w.heap.size + 1, 1, none⟩) (by simp) (.slice (some ⟨gB, 0, none⟩) x.2.2.length cB)).setCell (p := ⟨w.heap.size + 1, 2, none⟩) (by simp) (.slice (some ⟨gC, 0, none⟩) x.2.1.length cC))
      have FF := hid (lpown_mono (lpown_turned FIN.out T.out (.inl (by omega))) (show w.heap.size ≤ w1.heap.size by omega))
      clear FIN T
      go_wp2
      refine bodyPost_ret (v := .tuple #[.agg #[.slice aT (trV x.1).length cT, .slice (some ⟨gB, 0, none⟩) x.2.2.length cB, .slice (some ⟨gC, 0, none⟩) x.2.1.length cC], .bool true]) (by simp [results, Try.results50, go_sem, r0, r1, r2]) rfl ⟨_, _, _, _, _, rfl, by rw [HD.out]; exact FF.out, BF.out⟩
end Go.Proofs.Ytjnphlgmmjdeiaa.DualS
