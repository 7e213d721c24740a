/- The union of two relations: the program's function (impl.Union). -/
import Derived.Test.YtffhfnkcbgbliaaSortNil
import Derived.Test.YtffhfnkcbgbliaaCatRows
import Derived.Test.YtffhfnkcbgbliaaRelTot
import Derived.Test.YtffhfnkcbgbliaaHasL
import Derived.Deep.RegionHeld3
import Derived.Deep.DeepCutAuto
namespace Go.Proofs.Ytffhfnkcbgbliaa.Uni
open Go.RowKit
open Go.Proofs.Ytffhfnkcbgbliaa.Num Go.Proofs.Ytffhfnkcbgbliaa.IntRow Go.Proofs.Ytffhfnkcbgbliaa.IntLaw Go.Proofs.Ytffhfnkcbgbliaa.Grid Go.Proofs.Ytffhfnkcbgbliaa.GridMore Go.Proofs.Ytffhfnkcbgbliaa.GridLaw Go.Proofs.Ytffhfnkcbgbliaa.GridLaw2 Go.Proofs.Ytffhfnkcbgbliaa.Keep Go.Proofs.Ytffhfnkcbgbliaa.Kept Go.Proofs.Ytffhfnkcbgbliaa.Cells Go.Proofs.Ytffhfnkcbgbliaa.RelKit Go.Proofs.Ytffhfnkcbgbliaa.GridApp Go.Proofs.Ytffhfnkcbgbliaa.GridAny Go.Proofs.Ytffhfnkcbgbliaa.Hds Go.Proofs.Ytffhfnkcbgbliaa.Clones Go.Proofs.Ytffhfnkcbgbliaa.Asc Go.Proofs.Ytffhfnkcbgbliaa.RelValidS Go.Proofs.Ytffhfnkcbgbliaa.RelValidI Go.Proofs.Ytffhfnkcbgbliaa.SrtD Go.Proofs.Ytffhfnkcbgbliaa.LibRows Go.Proofs.Ytffhfnkcbgbliaa.NewRI Go.Proofs.Ytffhfnkcbgbliaa.SortNil Go.Proofs.Ytffhfnkcbgbliaa.RelTot Go.Proofs.Ytffhfnkcbgbliaa.Apnd Go.Proofs.Ytffhfnkcbgbliaa.CatRows Go.Proofs.Ytffhfnkcbgbliaa.HasL
set_option linter.unusedVariables false

def sameOk (n m : Int) (xss yss : List (List Int)) : Bool := decide (n = m) && vrel n xss && vrel m yss
def uniOk (n m : Int) (xss yss : List (List Int)) : Bool := sameOk n m xss yss && newOk n (xss ++ yss)
def uniR (n m : Int) (xss yss : List (List Int)) : List (List Int) := if sameOk n m xss yss then newR n (xss ++ yss) else []
def uniN (n m : Int) (xss yss : List (List Int)) : Int := if sameOk n m xss yss then newN n (xss ++ yss) else 0
theorem uni_no {n m : Int} {xss yss : List (List Int)} (h : sameOk n m xss yss = false) : uniR n m xss yss = [] ∧ uniN n m xss yss = 0 ∧ uniOk n m xss yss = false := by simp [uniR, uniN, uniOk, h]
theorem uni_yes {n m : Int} {xss yss : List (List Int)} (h : sameOk n m xss yss = true) : uniR n m xss yss = newR n (xss ++ yss) ∧ uniN n m xss yss = newN n (xss ++ yss) ∧ uniOk n m xss yss = newOk n (xss ++ yss) := by simp [uniR, uniN, uniOk, h]
theorem tot_uni (n m : Int) (xss yss : List (List Int)) : tot (uniR n m xss yss) ≤ 24000 := by
  cases h : sameOk n m xss yss with
  | false => rw [(uni_no h).1]; simp [tot]
  | true => rw [(uni_yes h).1]; exact tot_new _ _
theorem hs_append {w : World} {B B' C : Nat} {vs us : List Value} {xss yss : List (List Int)} (h : Hs w B vs xss) (k : Hs w B' us yss) (hC : B ≤ C) (hC' : B' ≤ C) : Hs w C (vs ++ us) (xss ++ yss) := by
  refine ⟨by simp [h.len, k.len], fun j hj => ?_⟩
  rw [List.length_append] at hj
  by_cases hlt : j < xss.length
  · obtain ⟨aj, capj, h1, h2⟩ := h.row j hlt
    rw [List.getElem?_append_left (by rw [h.len]; exact hlt), List.getElem_append_left hlt]
    exact ⟨aj, capj, h1, h2.mono hC⟩
  · obtain ⟨aj, capj, h1, h2⟩ := k.row (j - xss.length) (by omega)
    rw [List.getElem?_append_right (by rw [h.len]; omega), List.getElem_append_right (by omega), h.len]
    exact ⟨aj, capj, h1, h2.mono hC'⟩
theorem src_of {w : World} {B : Nat} {p : Addr} {cap : Nat} {xss : List (List Int)} (h : GRd w B (some p) xss) : ∃ vs, Hs w B vs xss ∧ SrcOk 1 w w.heap.size ⟨some p, xss.length, cap, vs⟩ := by
  obtain ⟨vs, h1, h2⟩ := grd_heads h (fun e => by cases e)
  refine ⟨vs, h1, by rw [h1.len, Nat.mul_one], h1.one, .inr ⟨p, rfl, fun i u hu => ?_⟩⟩
  rcases h2.2.2 with ⟨e, _⟩ | ⟨ad, e, hc⟩
  · cases e
  · obtain rfl := Option.some.inj e
    exact ⟨World.block_lt_of_cell? w _ (hc i u hu), hc i u hu⟩

set_option maxRecDepth 100000 in
set_option maxHeartbeats 2000000 in
theorem impl_same (n m : Int) (a b : Option Addr) (cap cap' B B' : Nat) (xss yss : List (List Int)) (w : World) (ht : tot xss ≤ 1048576) (ht' : tot yss ≤ 1048576) (h : GRd w B a xss) (h' : GRd w B' b yss) (hB : B ≤ w.heap.size) (hB' : B' ≤ w.heap.size) :
    Calls Try.prog 36 #[.agg #[.int .i64 n, .slice a xss.length cap], .agg #[.int .i64 m, .slice b yss.length cap']] w fun e w' => e = .returned (.bool (sameOk n m xss yss)) ∧ Below w.heap.size w w' := by
  obtain ⟨ok, hok⟩ : ∃ z, sameOk n m xss yss = z := ⟨_, rfl⟩
  rw [hok]
  have hlen : xss.length ≤ 1048576 := len_le ht
  have hlen' : yss.length ≤ 1048576 := len_le ht'
  have hx := hid (each_le ht)
  have hx' := hid (each_le ht')
  have K1 := hid ((has2_new w (.int .i64 n) (.slice a xss.length cap) 30).alloc (.cells #[.int .i64 m, .slice b yss.length cap'] 30))
  have K2 := hid (has2_new (w.alloc (.cells #[.int .i64 n, .slice a xss.length cap] 30)) (.int .i64 m) (.slice b yss.length cap') 30)
  have B3 := hid (((Below.refl w.heap.size w).alloc (Nat.le_refl _) (.cells #[.int .i64 n, .slice a xss.length cap] 30)).alloc (by simp) (.cells #[.int .i64 m, .slice b yss.length cap'] 30))
  simp only [World.size_alloc] at K1 K2
  have HG := hid h
  have HY := hid h'
  clear h h'
  obtain ⟨c0, c1, z1, _, _⟩ := K1.out
  obtain ⟨d0, d1, z2, _, _⟩ := K2.out
  by_cases hnm : n = m
  · subst hnm
    have heq : (n == n) = true := by simp
    have V := hid (impl_valid n a xss.length cap B xss _ rfl hlen hx.out (HG.out.below (B3.out.mono hB)) (by have := B3.out.size; omega))
    obtain ⟨v, hv⟩ : ∃ v, vrel n xss = v := ⟨_, rfl⟩
    rw [hv] at V
    go_enter Try.func36, Try.ntmps36
    go_wp2_with fail
    refine V.out.mono ?_
    rintro e w3 ⟨rfl, hb⟩
    replace K2 := hid (K2.out.below hb)
    replace B3 := hid (B3.out.trans (hb.mono B3.out.size))
    clear hb c0 c1 z1 d0 d1 z2 V
    obtain ⟨d0, d1, z2, _, _⟩ := K2.out
    cases v with
    | false =>
      obtain rfl : false = ok := by rw [← hok]; simp [sameOk, hv]
      clear hok hv
      go_wp2
      go_ret
      exact ⟨rfl, B3.out⟩
    | true =>
      have V := hid (impl_valid n b yss.length cap' B' yss w3 rfl hlen' hx'.out (HY.out.below (B3.out.mono hB')) (by have := B3.out.size; omega))
      have hv2 : vrel n yss = ok := by rw [← hok]; simp [sameOk, hv]
      rw [hv2] at V
      clear hok hv hv2
      go_wp2_with fail
      refine V.out.mono ?_
      rintro e w4 ⟨rfl, hb⟩
      replace B3 := hid (B3.out.trans (hb.mono B3.out.size))
      clear hb
      go_wp2
      go_ret
      exact ⟨rfl, B3.out⟩
  · have heq : (n == m) = false := by simp [hnm]
    obtain rfl : false = ok := by rw [← hok]; simp [sameOk, hnm]
    clear hok hnm
    go_enter Try.func36, Try.ntmps36
    go_wp2
    go_ret
    exact ⟨rfl, B3.out⟩

set_option maxRecDepth 100000 in
set_option maxHeartbeats 4000000 in
theorem impl_uni (n m : Int) (p q : Addr) (cap cap' B B' : Nat) (xss yss : List (List Int)) (w : World) (ht : tot xss + tot yss ≤ 1048576) (h : GRd w B (some p) xss) (h' : GRd w B' (some q) yss) (hB : B ≤ w.heap.size) (hB' : B' ≤ w.heap.size) :
    Calls Try.prog 14 #[.agg #[.int .i64 n, .slice (some p) xss.length cap], .agg #[.int .i64 m, .slice (some q) yss.length cap']] w fun e w' => ∃ a' c' vs, e = .returned (.tuple #[.agg #[.int .i64 (uniN n m xss yss), .slice a' (uniR n m xss yss).length c'], .bool (uniOk n m xss yss)]) ∧ GOwn w' w.heap.size eR eI (.slice a' (uniR n m xss yss).length c') vs (uniR n m xss yss) ∧ Below w.heap.size w w' := by
  obtain ⟨zss, hzs⟩ : ∃ z, uniR n m xss yss = z := ⟨_, rfl⟩
  obtain ⟨nn, hnn⟩ : ∃ z, uniN n m xss yss = z := ⟨_, rfl⟩
  obtain ⟨ok, hok⟩ : ∃ z, uniOk n m xss yss = z := ⟨_, rfl⟩
  obtain ⟨sm, hsm⟩ : ∃ z, sameOk n m xss yss = z := ⟨_, rfl⟩
  rw [hzs, hnn, hok]
  have hlen : xss.length ≤ 1048576 := len_le (m := 1048576) (by omega)
  have hlen' : yss.length ≤ 1048576 := len_le (m := 1048576) (by omega)
  have K1 := hid (((has2_new w (.int .i64 n) (.slice (some p) xss.length cap) 30).alloc (.cells #[.int .i64 m, .slice (some q) yss.length cap'] 30)).alloc (.cells #[.int .i64 0, .slice none 0 0] 30))
  have K2 := hid ((has2_new (w.alloc (.cells #[.int .i64 n, .slice (some p) xss.length cap] 30)) (.int .i64 m) (.slice (some q) yss.length cap') 30).alloc (.cells #[.int .i64 0, .slice none 0 0] 30))
  have K3 := hid (has2_new ((w.alloc (.cells #[.int .i64 n, .slice (some p) xss.length cap] 30)).alloc (.cells #[.int .i64 m, .slice (some q) yss.length cap'] 30)) (.int .i64 0) (.slice none 0 0) 30)
  have B3 := hid ((((Below.refl w.heap.size w).alloc (Nat.le_refl _) (.cells #[.int .i64 n, .slice (some p) xss.length cap] 30)).alloc (by simp) (.cells #[.int .i64 m, .slice (some q) yss.length cap'] 30)).alloc (by simp; omega) (.cells #[.int .i64 0, .slice none 0 0] 30))
  simp only [World.size_alloc] at K1 K2 K3
  have B2 := hid (((Below.refl w.heap.size w).alloc (Nat.le_refl _) (.cells #[.int .i64 n, .slice (some p) xss.length cap] 30)).alloc (by simp) (.cells #[.int .i64 m, .slice (some q) yss.length cap'] 30))
  have KB0 := hid (((Below.refl ((w.alloc (.cells #[.int .i64 n, .slice (some p) xss.length cap] 30)).alloc (.cells #[.int .i64 m, .slice (some q) yss.length cap'] 30)).heap.size _).alloc (Nat.le_refl _) (.cells #[.int .i64 0, .slice none 0 0] 30)))
  have HG := hid h
  have HY := hid h'
  clear h h'
  have V := hid (impl_same n m (some p) (some q) cap cap' B B' xss yss _ (by omega) (by omega) (HG.out.below (B3.out.mono hB)) (HY.out.below (B3.out.mono hB')) (by have := B3.out.size; omega) (by have := B3.out.size; omega))
  rw [hsm] at V
  obtain ⟨c0, c1, z1, _, _⟩ := K1.out
  obtain ⟨d0, d1, z2, _, _⟩ := K2.out
  go_enter Try.func14, Try.ntmps14
  go_wp2_with fail
  refine V.out.mono ?_
  rintro e w3 ⟨rfl, hb⟩
  have hs3 := hb.size
  simp only [World.size_alloc] at hs3
  have KB := hid (KB0.out.trans (hb.mono (by simp)))
  replace K1 := hid (K1.out.below hb)
  replace K2 := hid (K2.out.below hb)
  replace K3 := hid (K3.out.below hb)
  replace B3 := hid (B3.out.trans (hb.mono B3.out.size))
  clear hb c0 c1 z1 d0 d1 z2 V KB0
  obtain ⟨c0, c1, z1, _, _⟩ := K1.out
  obtain ⟨d0, d1, z2, _, _⟩ := K2.out
  obtain ⟨e0, e1, z3, _, _⟩ := K3.out
  cases sm with
  | false =>
    obtain rfl : [] = zss := (uni_no hsm).1.symm.trans hzs
    obtain rfl : 0 = nn := (uni_no hsm).2.1.symm.trans hnn
    obtain rfl : false = ok := (uni_no hsm).2.2.symm.trans hok
    have hset := has2_set (u := .int .i64 0) (v := .slice none 0 0) K3.out
    clear hok hsm
    go_wp2
    exact bodyPost_ret (v := .tuple #[.agg #[.int .i64 0, .slice none 0 0], .bool false]) (by simp [results, Try.results14, go_sem, hset.1, hset.2.1]) rfl ⟨none, 0, [], rfl, GOwn.nil _ _ _ _, (B3.out.setCell (by simp; omega) _).setCell (by simp; omega) _⟩
  | true =>
    have hrr : newR n (xss ++ yss) = zss := (uni_yes hsm).1.symm.trans hzs
    have hrn : newN n (xss ++ yss) = nn := (uni_yes hsm).2.1.symm.trans hnn
    have hro : newOk n (xss ++ yss) = ok := (uni_yes hsm).2.2.symm.trans hok
    clear hok hzs hnn hsm
    have hww : ∀ W : World, Below w.heap.size w W → B ≤ W.heap.size ∧ B' ≤ W.heap.size := fun W hW => ⟨Nat.le_trans hB hW.size, Nat.le_trans hB' hW.size⟩
    obtain ⟨vs0, H0, S0⟩ := src_of (cap := cap) HG.out
    obtain ⟨vs1, H1, S1⟩ := src_of (cap := cap') HY.out
    have C := hid (fun W vb (K : HasL W vb [.slice (some p) xss.length cap, .slice (some q) yss.length cap']) (hW : Below w.heap.size w W) => show Calls Try.prog 38 #[.slice (some ⟨vb, 0, none⟩) 2 2] W (fun e w' => ∃ v, e = .returned v ∧ w'.ownsRow W.heap.size eR 1 v (xss.length + yss.length) (vs0 ++ vs1) ∧ Below W.heap.size W w') from by
      have := lib_concat vb 2 w.heap.size [⟨some p, xss.length, cap, vs0⟩, ⟨some q, yss.length, cap', vs1⟩] W (fun j hj => by
        match j, hj with
        | 0, _ => exact (K.2 0 (by simp)).1
        | 1, _ => exact (K.2 1 (by simp)).1) K.1 hW.size (fun j hj => by
        match j, hj with
        | 0, _ => exact S0.below hW
        | 1, _ => exact S1.below hW) (by simp) (by simp [sumN]; omega)
      simpa [sumN, flat] using this)
    have HH := hid (hs_append H0 H1 (C := w.heap.size) hB hB')
    have htt : tot (xss ++ yss) ≤ 1048576 := by rw [tot_append]; exact ht
    have N := hid (fun W (v : Value) lo (hr : W.ownsRow lo eR 1 v (xss.length + yss.length) (vs0 ++ vs1)) (hW : Below w.heap.size w W) => show Calls Try.prog 37 #[.int .i64 n, v] W (fun e w' => ∃ a' c' vs, e = .returned (.tuple #[.agg #[.int .i64 (newN n (xss ++ yss)), .slice a' (newR n (xss ++ yss)).length c'], .bool (newOk n (xss ++ yss))]) ∧ GOwn w' W.heap.size eR eI (.slice a' (newR n (xss ++ yss)).length c') vs (newR n (xss ++ yss)) ∧ Below W.heap.size W w') from by
      rcases hr.2 with ⟨hvn, hn0⟩ | ⟨g, c, cur, hvn, hg, hcur, hrr⟩
      · have ex : xss ++ yss = [] := List.eq_nil_of_length_eq_zero (by rw [List.length_append]; exact hn0)
        subst hvn
        rw [ex]
        exact impl_new0 n W
      · subst hvn
        have hgr := hs_grd (xss := xss ++ yss) (a := some ⟨g, 0, none⟩) (cap := c) (lo := lo) (by rw [List.length_append]; exact hr) (HH.out.below hW) hW.size
        have := impl_new n ⟨g, 0, none⟩ c W.heap.size (xss ++ yss) W htt hgr (Nat.le_refl _)
        rw [List.length_append] at this
        exact this)
    rw [hrn, hrr, hro] at N
    obtain ⟨wb, hwb⟩ : ∃ z, (w.alloc (.cells #[.int .i64 n, .slice (some p) xss.length cap] 30)).alloc (.cells #[.int .i64 m, .slice (some q) yss.length cap'] 30) = z := ⟨_, rfl⟩
    have hwbs : wb.heap.size = w.heap.size + 2 := by rw [← hwb]; simp
    rw [hwb] at B2 KB
    have hk : Kp wb 1 w3 := ⟨by omega, KB.out⟩
    clear S0 S1 H0 H1 HG HY HH htt hrn hrr hro hwb e0 e1 z3
    go_upto_region 3 with fail
    go_region_held3 (fun w' => w'.cell? ⟨w.heap.size, 0, none⟩ = some (.int .i64 n) ∧ w'.cell? ⟨w.heap.size, 1, none⟩ = some (.slice (some p) xss.length cap) ∧ w'.cell? ⟨w.heap.size + 1, 1, none⟩ = some (.slice (some q) yss.length cap') ∧ Kp wb 1 w')
      (first
        | (go_split_ands
           repeat' apply And.intro
           all_goals (first | (with_reducible assumption) | (with_reducible exact cell_drew (by assumption)) | (with_reducible exact Kp.drew (by assumption)) | (with_reducible exact Kp.cell (by assumption) hb1 (by omega) (by assumption)) | (with_reducible exact Kp.call (by assumption) hb1) | (with_reducible exact Kp.cell_alloc (by assumption) _ (by omega) (by assumption)) | (with_reducible exact Kp.alloc (by assumption) _) | (with_reducible exact Kp.cell_alloc_drew (by assumption) _ (by omega) (by assumption)) | (with_reducible exact Kp.alloc_drew (by assumption) _) | (with_reducible exact cell_set (by assumption) (by omega)) | (with_reducible exact Keep.Kp.set (by assumption) (by omega) _ _))))
      (first
        | (go_split_ands; go_at_call 38; (with_reducible refine (C.out _ _ (by first | (with_reducible exact hasl_new _ _ _) | (with_reducible exact (hasl_new _ _ _).drew)) (B2.out.trans ((Kp.bel (n := 1) (w := wb) (by with_reducible assumption)).mono B2.out.size))).mono ?_); rintro e wC ⟨vC, rfl, hown, hb1⟩; have HO := hid hown; have KC := hid (show Has2 wC (w.heap.size + 1 + 1) (.int .i64 0) (.slice none 0 0) from by first | exact (K3.out.drew.alloc _).below hb1 | exact (K3.out.alloc _).drew.below hb1); clear hown)
        | (go_split_ands; go_at_call 37; (with_reducible refine (N.out _ _ _ HO.out (B2.out.trans ((Kp.bel (n := 1) (w := wb) (by with_reducible assumption)).mono B2.out.size))).mono ?_); rintro e wN ⟨a6, c6, vs6, rfl, hown, hb1⟩; have HG := hid hown; have KN := hid (KC.out.below hb1); have hszC : w.heap.size + 3 ≤ wC.heap.size := (by have hkk : Kp wb 1 wC := (by with_reducible assumption); have := hkk.sz; omega); have HBN := hid (B2.out.trans (((Kp.bel (n := 1) (w := wb) (show Kp wb 1 wC by with_reducible assumption)).mono B2.out.size).trans (hb1.mono (by omega)))); obtain ⟨f0, f1, z4, _, _⟩ := KN.out; clear hown)
        | fail)
    all_goals
      go_split_ands
      have hset := has2_set (u := .int .i64 nn) (v := .slice a6 zss.length c6) KN.out
      go_wp2
      exact bodyPost_ret (v := .tuple #[.agg #[.int .i64 nn, .slice a6 zss.length c6], .bool ok]) (by simp [results, Try.results14, go_sem, hset.1, hset.2.1]) rfl ⟨a6, c6, vs6, rfl, gown_mono (gown_set (gown_set HG.out (by omega) _) (by omega) _) (by omega), (HBN.out.setCell (by simp; omega) _).setCell (by simp; omega) _⟩
end Go.Proofs.Ytffhfnkcbgbliaa.Uni
