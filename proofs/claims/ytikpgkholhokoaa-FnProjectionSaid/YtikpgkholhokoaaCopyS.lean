/- The model's copy of a relation (spec.l5Copy). -/
import Derived.Test.YtikpgkholhokoaaGridApp
import Derived.Deep.DeepCutAuto
namespace Go.Proofs.Ytikpgkholhokoaa.CopyS
open Go.RowKit
open Go.Proofs.Ytikpgkholhokoaa.Num Go.Proofs.Ytikpgkholhokoaa.IntRow Go.Proofs.Ytikpgkholhokoaa.IntLaw Go.Proofs.Ytikpgkholhokoaa.Grid Go.Proofs.Ytikpgkholhokoaa.GridMore Go.Proofs.Ytikpgkholhokoaa.GridLaw Go.Proofs.Ytikpgkholhokoaa.GridLaw2 Go.Proofs.Ytikpgkholhokoaa.Keep Go.Proofs.Ytikpgkholhokoaa.Kept Go.Proofs.Ytikpgkholhokoaa.Cells Go.Proofs.Ytikpgkholhokoaa.RelKit Go.Proofs.Ytikpgkholhokoaa.GridApp
set_option linter.unusedVariables false

set_option maxRecDepth 100000 in
set_option maxHeartbeats 4000000 in
theorem spec_copy' (n : Int) (a : Option Addr) (cap B : Nat) (xss : List (List Int)) (w : World) (hn : tot xss ≤ 1048576) (h : GRd w B a xss) (hB : B ≤ w.heap.size) :
    Calls Try.prog 48 #[.agg #[.int .i64 n, .slice a xss.length cap]] w fun e w' => ∃ a' cap' vs, e = .returned (.agg #[.int .i64 n, .slice a' xss.length cap']) ∧ GOwn w' w.heap.size eR eI (.slice a' xss.length cap') vs xss ∧ Below w.heap.size w w' ∧ (xss.length = 0 → a' = none ∧ cap' = 0) := by
  have hn1 : xss.length ≤ 1048576 := len_le hn
  obtain ⟨i0, hi, hz0, hz1, hz2⟩ := info_parts IntLaw.info
  obtain ⟨i1, hj, hy0, hy1, hy2⟩ := info_parts GridLaw.info
  have K1 := hid (((has2_new w (.int .i64 n) (.slice a xss.length cap) 26).alloc (.cells #[.int .i64 0, .slice none 0 0] 26)).alloc (.cells #[.int .i64 n, .slice none 0 0] 26))
  have K2 := hid ((has2_new (w.alloc (.cells #[.int .i64 n, .slice a xss.length cap] 26)) (.int .i64 0) (.slice none 0 0) 26).alloc (.cells #[.int .i64 n, .slice none 0 0] 26))
  have K3 := hid (has2_new ((w.alloc (.cells #[.int .i64 n, .slice a xss.length cap] 26)).alloc (.cells #[.int .i64 0, .slice none 0 0] 26)) (.int .i64 n) (.slice none 0 0) 26)
  have B3 := hid ((((Below.refl w.heap.size w).alloc (Nat.le_refl _) (.cells #[.int .i64 n, .slice a xss.length cap] 26)).alloc (by simp) (.cells #[.int .i64 0, .slice none 0 0] 26)).alloc (by simp; omega) (.cells #[.int .i64 n, .slice none 0 0] 26))
  simp only [World.size_alloc] at K1 K2 K3
  have HG := hid h
  clear h
  go_enter Try.func48, Try.ntmps48
  go_wp2
  go_loopw [4] (fun i wr => ∃ (k : Nat) (v : Value) (vs : List Value), k ≤ xss.length ∧ i = .int .i64 k ∧ Hid (Has2 wr w.heap.size (.int .i64 n) (.slice a xss.length cap)) ∧ Hid (Has2 wr (w.heap.size + 1) (.int .i64 0) (.slice none 0 0)) ∧ Hid (Has2 wr (w.heap.size + 1 + 1) (.int .i64 n) v) ∧ Hid (GOwn wr (w.heap.size + 3) eR eI v vs (xss.take k)) ∧ Hid (Below w.heap.size w wr) ∧ Hid (k = 0 → v = .slice none 0 0)) (fun i _ => xss.length - (intOf i).toNat)
  case atStart => exact ⟨0, _, [], Nat.zero_le _, rfl, K1, K2, K3, hid (by simpa using GOwn.nil _ _ _ _), B3, hid (fun _ => rfl)⟩
  case round =>
    obtain ⟨k, v, vs, hk, rfl, k1, k2, k3, hown, hb, hnil⟩ := hrel
    obtain ⟨c0, c1, z1, _, _⟩ := k1.out
    obtain ⟨d0, d1, z2, _, _⟩ := k2.out
    obtain ⟨e0, e1, z3, f0, f1⟩ := k3.out
    have hsz := hb.out.size
    clear K1 K2 K3 B3
    by_cases hlt : k < xss.length
    · obtain ⟨b, off, rfl, hbB, hc⟩ := (HG.out.below (hb.out.mono hB)) (by omega)
      obtain ⟨aj, capj, g, r⟩ := hc k hlt
      have hrow : xss[k].length ≤ 1048576 := each_le hn k hlt
      have hlt' : (k : Int) < (xss.length : Int) := by omega
      have h0' : (0 : Int) ≤ (k : Int) := by omega
      have hBr : B ≤ wr.heap.size := by omega
      have HR := hid r
      have hbo : b < wr.heap.size := by omega
      have htk : (xss.take k).length = k := by simp; omega
      have HV := hid hown.out.lt
      have HW := hid (fun u (hu : u ∈ vs) => (rws_of hown.out).lt hu)
      have hkl : (xss.take k).length ≤ 1048576 := by omega
      have hgl : (xss.take k ++ [xss[k]]).length = k + 1 := by simp; omega
      have hap : xss.take k ++ [xss[k]] = xss.take (k + 1) := (List.take_succ_eq_append_getElem hlt).symm
      clear hc r
      go_wp2_with fail
      go_region_law
        (first
          | (refine step_copy rfl _ _ 27 rfl 3 i0 Try.underlying27 hi hz0 hz1 hz2 wr.drew (by rfl) aj capj B xss[k] (by rfl) HR.out.drew hBr hrow ?_; intro u w1 hu hb1; obtain ⟨au, capu, rfl, _, _, _⟩ := hu.form; have hu' := hid hu; have hb1' := hid hb1; have hs1 := hb1.size; have H3 := hid (k3.out.drew.below hb1); obtain ⟨m0, m1, mz, mf0, mf1⟩ := H3.out; have q1 := (hb1.cell (p := ⟨w.heap.size, 1, none⟩) z1).trans c1; have q2 := (hb1.cell (p := ⟨b, off + k, none⟩) hbo).trans g; clear hu hb1)
          | (refine step_head rfl _ _ 24 rfl eR eI eRI i1 Try.underlying24 hj hy0 hy1 hy2 w1 (w.heap.size + 3) v (.slice au xss[k].length capu) vs (xss.take k) xss[k] (by rfl) (hown.out.drew.below' hb1'.out) (hu'.out.mono (by show _ ≤ wr.heap.size; omega)) (fun u' hu2 q hq hq2 => by have t1 := (hu'.out.lt q hq).1; have t2 := (HW.out u' hu2 q hq2).2; have t3 : wr.heap.size ≤ q := t1; omega) (by rfl) hkl (by have t3 : wr.heap.size ≤ w1.heap.size := hs1; omega) ?_; intro v' w2 hg2 hgr2 hs2; obtain ⟨av, capv, ev, _, _, _⟩ := hg2.form; rw [hgl] at ev; subst ev; have hg2' := hid hg2; have hgr2' := hid hgr2; have hvne : ∀ q, q < w.heap.size + 3 → v.ownBlock ≠ some q := (fun q hq e => by have t1 := (HV.out q e).1; omega); have H4 := hid (has2_grown H3.out hgr2 (hvne _ (by omega))); obtain ⟨n0, n1, nz, nf0, nf1⟩ := H4.out; have p1 := cell_grown q1 hgr2 (by have t3 : wr.heap.size ≤ w1.heap.size := hs1; omega) (hvne _ (by omega)); have p2 := cell_grown q2 hgr2 (by have t3 : wr.heap.size ≤ w1.heap.size := hs1; omega) (hvne _ (by omega)); clear hg2 hgr2))
      all_goals
        have r1 := hid (has2_far (has2_grown (k1.out.drew.below hb1'.out) hgr2'.out (hvne _ (by omega))) (c := w.heap.size + 1 + 1) (o := 1) (by omega) (Value.slice av (k + 1) capv))
        have r2 := hid (has2_far (has2_grown (k2.out.drew.below hb1'.out) hgr2'.out (hvne _ (by omega))) (c := w.heap.size + 1 + 1) (o := 1) (by omega) (Value.slice av (k + 1) capv))
        have r3 := hid (has2_put1 H4.out (Value.slice av (k + 1) capv))
        have r4 := hid (gown_set (b := w.heap.size + 1 + 1) (o := 1) hg2'.out (by omega) (Value.slice av (k + 1) capv))
        have r5 := hid (((hb.out.drew.trans (hb1'.out.mono hsz)).grown hgr2'.out (Nat.le_trans hsz hs1) (fun q hq => by have t1 := (HV.out q hq).1; omega)).setCell (p := ⟨w.heap.size + 1 + 1, 1, none⟩) (by show w.heap.size ≤ w.heap.size + 1 + 1; omega) (Value.slice av (k + 1) capv))
        rw [hap] at r4
        clear hg2' hgr2' hu' hb1' H3 H4 HW HV q1 q2 p1 p2 n0 n1 m0 m1 c0 c1 d0 d1 e0 e1 g
        go_wp2
        go_roundw
        case rel => exact ⟨k + 1, _, _, by omega, by go_num, r1, r2, r3, r4, r5, hid (fun h => by omega)⟩
        case measure => simp [intOf]; omega
    · have e : k = xss.length := by omega
      subst e
      have HO := hown.out
      rw [List.take_length] at HO
      obtain ⟨av, capv, rfl, _, _, _⟩ := HO.form
      have hnil2 := hid (show xss.length = 0 → av = none ∧ capv = 0 from fun h0 => by
        have e := hnil.out h0
        injection e with e1 _ e3
        exact ⟨e1, e3⟩)
      have HO2 := hid HO
      have hset := has2_set (u := .int .i64 n) (v := .slice av xss.length capv) k2.out
      clear HO hown
      go_wp2
      refine bodyPost_ret (v := .agg #[.int .i64 n, .slice av xss.length capv]) (by simp [results, Try.results48, go_sem, hset.1, hset.2.1]) rfl ⟨av, capv, vs, rfl, ?_, ?_⟩
      · exact gown_mono (gown_set (gown_set HO2.out (by omega) _) (by omega) _) (by omega)
      · exact ⟨(hb.out.setCell (by simp) _).setCell (by simp) _, hnil2.out⟩
theorem spec_copy (n : Int) (a : Option Addr) (cap B : Nat) (xss : List (List Int)) (w : World) (hn : tot xss ≤ 1048576) (h : GRd w B a xss) (hB : B ≤ w.heap.size) :
    Calls Try.prog 48 #[.agg #[.int .i64 n, .slice a xss.length cap]] w fun e w' => ∃ a' cap' vs, e = .returned (.agg #[.int .i64 n, .slice a' xss.length cap']) ∧ GOwn w' w.heap.size eR eI (.slice a' xss.length cap') vs xss ∧ Below w.heap.size w w' :=
  (spec_copy' n a cap B xss w hn h hB).mono fun e w' ⟨a', cap', vs, h1, h2, h3, _⟩ => ⟨a', cap', vs, h1, h2, h3⟩
end Go.Proofs.Ytikpgkholhokoaa.CopyS
