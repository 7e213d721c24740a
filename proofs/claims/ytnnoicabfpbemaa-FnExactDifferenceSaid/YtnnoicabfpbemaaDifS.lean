/- The model's difference of two relations (spec.Difference). -/
import Derived.Test.YtnnoicabfpbemaaGridAny
import Derived.Test.YtnnoicabfpbemaaRelValidS
import Derived.Test.YtnnoicabfpbemaaRelPlaceS
import Derived.Test.YtnnoicabfpbemaaDif
import Derived.Deep.RegionHeld3
import Derived.Deep.DeepCutAuto
namespace Go.Proofs.Ytnnoicabfpbemaa.DifS
open Go.RowKit
open Go.Proofs.Ytnnoicabfpbemaa.Num Go.Proofs.Ytnnoicabfpbemaa.IntRow Go.Proofs.Ytnnoicabfpbemaa.IntLaw Go.Proofs.Ytnnoicabfpbemaa.Grid Go.Proofs.Ytnnoicabfpbemaa.GridMore Go.Proofs.Ytnnoicabfpbemaa.GridLaw Go.Proofs.Ytnnoicabfpbemaa.GridLaw2 Go.Proofs.Ytnnoicabfpbemaa.Keep Go.Proofs.Ytnnoicabfpbemaa.Kept Go.Proofs.Ytnnoicabfpbemaa.Cells Go.Proofs.Ytnnoicabfpbemaa.RelKit Go.Proofs.Ytnnoicabfpbemaa.GridApp Go.Proofs.Ytnnoicabfpbemaa.GridAny Go.Proofs.Ytnnoicabfpbemaa.Asc Go.Proofs.Ytnnoicabfpbemaa.RelValidS Go.Proofs.Ytnnoicabfpbemaa.RelPlaceS Go.Proofs.Ytnnoicabfpbemaa.Dif
set_option linter.unusedVariables false

theorem place_q (q : Bool) (n : Int) (a ar : Option Addr) (cap capr B B' : Nat) (xss : List (List Int)) (r : List Int) (w : World) (hq : decide (r ∈ xss) = q) (hlen : xss.length ≤ 4000) (hx : ∀ j (h : j < xss.length), xss[j].length ≤ 1048576) (hr : r.length ≤ 1048576) (ha : Asc xss) (h : GRd w B a xss) (h' : Rd w B' ar r) (hB : B ≤ w.heap.size) (hB' : B' ≤ w.heap.size) :
    Calls Try.prog 61 #[.agg #[.int .i64 n, .slice a xss.length cap], .slice ar r.length capr] w fun e w' => ∃ p : Nat, e = .returned (.tuple #[.int .i64 (p : Nat), .bool q]) ∧ Below w.heap.size w w' :=
  (spec_place n a ar cap capr xss.length B B' xss r w rfl hlen hx hr ha h h' hB hB').mono fun e w' ⟨p, he, _, hb⟩ => ⟨p, hq ▸ he, hb⟩
set_option maxRecDepth 100000 in
set_option maxHeartbeats 4000000 in
theorem spec_diff (n m : Int) (a b : Option Addr) (cap cap' B B' : Nat) (xss yss : List (List Int)) (w : World) (ht : tot xss ≤ 1048576) (ht' : tot yss ≤ 1048576) (h : GRd w B a xss) (h' : GRd w B' b yss) (hB : B ≤ w.heap.size) (hB' : B' ≤ w.heap.size) :
    Calls Try.prog 52 #[.agg #[.int .i64 n, .slice a xss.length cap], .agg #[.int .i64 m, .slice b yss.length cap']] w fun e w' => ∃ a' c' vs, e = .returned (.tuple #[.agg #[.int .i64 (difN n m xss yss), .slice a' (difR n m xss yss).length c'], .bool (difOk n m xss yss)]) ∧ GOwn w' w.heap.size eR eI (.slice a' (difR n m xss yss).length c') vs (difR n m xss yss) ∧ Below w.heap.size w w' := by
  obtain ⟨zss, hzs⟩ : ∃ z, difR n m xss yss = z := ⟨_, rfl⟩
  obtain ⟨nn, hnn⟩ : ∃ z, difN n m xss yss = z := ⟨_, rfl⟩
  obtain ⟨ok, hok⟩ : ∃ z, difOk n m xss yss = z := ⟨_, rfl⟩
  rw [hzs, hnn, hok]
  have hlen : xss.length ≤ 1048576 := len_le ht
  have hlen' : yss.length ≤ 1048576 := len_le ht'
  have hx := each_le ht
  have hx' := each_le ht'
  obtain ⟨i0, hi, hz0, hz1, hz2⟩ := info_parts IntLaw.info
  obtain ⟨i1, hj, hy0, hy1, hy2⟩ := info_parts GridLaw.info
  have K1 := hid (((has2_new w (.int .i64 n) (.slice a xss.length cap) 26).alloc (.cells #[.int .i64 m, .slice b yss.length cap'] 26)).alloc (.cells #[.int .i64 0, .slice none 0 0] 26))
  have K2 := hid ((has2_new (w.alloc (.cells #[.int .i64 n, .slice a xss.length cap] 26)) (.int .i64 m) (.slice b yss.length cap') 26).alloc (.cells #[.int .i64 0, .slice none 0 0] 26))
  have K3 := hid (has2_new ((w.alloc (.cells #[.int .i64 n, .slice a xss.length cap] 26)).alloc (.cells #[.int .i64 m, .slice b yss.length cap'] 26)) (.int .i64 0) (.slice none 0 0) 26)
  have B3 := hid ((((Below.refl w.heap.size w).alloc (Nat.le_refl _) (.cells #[.int .i64 n, .slice a xss.length cap] 26)).alloc (by simp) (.cells #[.int .i64 m, .slice b yss.length cap'] 26)).alloc (by simp; omega) (.cells #[.int .i64 0, .slice none 0 0] 26))
  simp only [World.size_alloc] at K1 K2 K3
  have HG := hid h
  have HY := hid h'
  clear h h'
  have V := hid (spec_valid n a xss.length cap B xss _ rfl hlen hx (HG.out.below (B3.out.mono hB)) (by have := B3.out.size; omega))
  obtain ⟨v, hv⟩ : ∃ v, vrel n xss = v := ⟨_, rfl⟩
  rw [hv] at V
  obtain ⟨c0, c1, z1, _, _⟩ := K1.out
  go_enter Try.func52, Try.ntmps52
  go_wp2_with fail
  refine V.out.mono ?_
  rintro e w3 ⟨rfl, hb⟩
  have hs3 := hb.size
  simp only [World.size_alloc] at hs3
  replace K1 := hid (K1.out.below hb)
  replace K2 := hid (K2.out.below hb)
  replace K3 := hid (K3.out.below hb)
  replace B3 := hid (B3.out.trans (hb.mono B3.out.size))
  clear hb c0 c1 z1 V
  obtain ⟨c0, c1, z1, _, _⟩ := K1.out
  obtain ⟨d0, d1, z2, _, _⟩ := K2.out
  obtain ⟨e0, e1, z3, _, _⟩ := K3.out
  cases v with
  | false =>
    have hno : difOk n m xss yss = false := by simp [difOk, hv]
    obtain rfl : false = ok := hno.symm.trans hok
    obtain rfl : [] = zss := (dif_no hno).1.symm.trans hzs
    obtain rfl : 0 = nn := (dif_no hno).2.symm.trans hnn
    have hset := has2_set (u := .int .i64 0) (v := .slice none 0 0) K3.out
    go_wp2
    exact bodyPost_ret (v := .tuple #[.agg #[.int .i64 0, .slice none 0 0], .bool false]) (by simp [results, Try.results52, go_sem, hset.1, hset.2.1]) rfl ⟨none, 0, [], rfl, GOwn.nil _ _ _ _, (B3.out.setCell (by simp; omega) _).setCell (by simp; omega) _⟩
  | true =>
    have V := hid (spec_valid m b yss.length cap' B' yss w3 rfl hlen' hx' (HY.out.below (B3.out.mono hB')) (by have := B3.out.size; omega))
    obtain ⟨v, hv2⟩ : ∃ v, vrel m yss = v := ⟨_, rfl⟩
    rw [hv2] at V
    go_wp2_with fail
    refine V.out.mono ?_
    rintro e w4 ⟨rfl, hb⟩
    have hs4 := hb.size
    replace K1 := hid (K1.out.below hb)
    replace K2 := hid (K2.out.below hb)
    replace K3 := hid (K3.out.below hb)
    replace B3 := hid (B3.out.trans (hb.mono B3.out.size))
    clear hb c0 c1 z1 d0 d1 z2 e0 e1 z3 V
    obtain ⟨c0, c1, z1, _, _⟩ := K1.out
    obtain ⟨d0, d1, z2, _, _⟩ := K2.out
    obtain ⟨e0, e1, z3, _, _⟩ := K3.out
    cases v with
    | false =>
      have hno : difOk n m xss yss = false := by simp [difOk, hv2]
      obtain rfl : false = ok := hno.symm.trans hok
      obtain rfl : [] = zss := (dif_no hno).1.symm.trans hzs
      obtain rfl : 0 = nn := (dif_no hno).2.symm.trans hnn
      have hset := has2_set (u := .int .i64 0) (v := .slice none 0 0) K3.out
      go_wp2
      exact bodyPost_ret (v := .tuple #[.agg #[.int .i64 0, .slice none 0 0], .bool false]) (by simp [results, Try.results52, go_sem, hset.1, hset.2.1]) rfl ⟨none, 0, [], rfl, GOwn.nil _ _ _ _, (B3.out.setCell (by simp; omega) _).setCell (by simp; omega) _⟩
    | true =>
      by_cases hnm : n = m
      · subst hnm
        have hne : (n != n) = false := by simp
        have hyes : difOk n n xss yss = true := by simp [difOk, hv, hv2]
        obtain rfl : true = ok := hyes.symm.trans hok
        obtain rfl : difL yss xss = zss := (dif_yes hyes).1.symm.trans hzs
        obtain rfl : n = nn := (dif_yes hyes).2.symm.trans hnn
        obtain ⟨_, h4, _, hasc⟩ := vrel_parts hv2
        have HA := hid hasc
        have M1 := hid (K1.out.alloc (.cells #[.int .i64 n, .slice none 0 0] 26))
        have M2 := hid (K2.out.alloc (.cells #[.int .i64 n, .slice none 0 0] 26))
        have M3 := hid (K3.out.alloc (.cells #[.int .i64 n, .slice none 0 0] 26))
        have M4 := hid (has2_new w4 (.int .i64 n) (.slice none 0 0) 26)
        have B4 := hid (B3.out.alloc B3.out.size (.cells #[.int .i64 n, .slice none 0 0] 26))
        clear hok hzs hnn hv hv2 hyes hasc
        go_wp2
        go_loopw [7] (fun i wr => ∃ (k : Nat) (v : Value) (vs : List Value), k ≤ xss.length ∧ i = .int .i64 k ∧ Hid (Has2 wr w.heap.size (.int .i64 n) (.slice a xss.length cap)) ∧ Hid (Has2 wr (w.heap.size + 1) (.int .i64 n) (.slice b yss.length cap')) ∧ Hid (Has2 wr (w.heap.size + 1 + 1) (.int .i64 0) (.slice none 0 0)) ∧ Hid (Has2 wr w4.heap.size (.int .i64 n) v) ∧ Hid (GOwn wr (w4.heap.size + 1) eR eI v vs (difL yss (xss.take k))) ∧ Hid (Below w.heap.size w wr)) (fun i _ => xss.length - (intOf i).toNat)
        case atStart => exact ⟨0, _, [], Nat.zero_le _, rfl, M1, M2, M3, M4, hid (by simpa [difL] using GOwn.nil _ _ _ _), B4⟩
        case round =>
          obtain ⟨k, v, vs, hk, rfl, k1, k2, k3, k4, hown, hb⟩ := hrel
          clear c0 c1 z1 d0 d1 z2 e0 e1 z3 K1 K2 K3 M1 M2 M3 M4 B3 B4
          obtain ⟨c0, c1, z1, _, _⟩ := k1.out
          obtain ⟨d0, d1, z2, _, _⟩ := k2.out
          obtain ⟨f0, f1, z4, _, _⟩ := k4.out
          have hsz := hb.out.size
          by_cases hlt : k < xss.length
          · obtain ⟨b1, off, rfl, hbB, hc⟩ := (HG.out.below (hb.out.mono hB)) (by omega)
            obtain ⟨aj, capj, g, r⟩ := hc k hlt
            have hrow : xss[k].length ≤ 1048576 := each_le ht k hlt
            have hlt' : (k : Int) < (xss.length : Int) := by omega
            have h0' : (0 : Int) ≤ (k : Int) := by omega
            have hBr : B ≤ wr.heap.size := by omega
            have hBy : B' ≤ wr.heap.size := by omega
            have HR := hid r
            have HYr := hid (HY.out.below (hb.out.mono hB'))
            have hbo : b1 < wr.heap.size := by omega
            have HX := hid hx'
            have HGc := hid (fun (W : World) (hW : Below wr.heap.size wr W) => (hW.cell (p := ⟨b1, off + k, none⟩) hbo).trans g)
            have hbB2 : b1 < w4.heap.size + 1 := by omega
            obtain ⟨q, hq⟩ : ∃ q, decide (xss[k] ∈ yss) = q := ⟨_, rfl⟩
            have HQ := hid hq
            have hk0 := kp_refl wr
            clear hc r hx hx' hq
            go_wp2_with fail
            go_region_held3 (fun w' => w'.cell? ⟨w.heap.size, 1, none⟩ = some (.slice (some ⟨b1, off, none⟩) xss.length cap) ∧ w'.cell? ⟨w.heap.size + 1, 0, none⟩ = some (.int .i64 n) ∧ w'.cell? ⟨w.heap.size + 1, 1, none⟩ = some (.slice b yss.length cap') ∧ w'.cell? ⟨b1, off + k, none⟩ = some (.slice aj xss[k].length capj) ∧ Kp wr 0 w')
              (first
                | (go_split_ands
                   repeat' apply And.intro
                   all_goals (first | (with_reducible assumption) | (with_reducible exact cell_drew (by assumption)) | (with_reducible exact Kp.drew (by assumption)) | (with_reducible exact Kp.cell (by assumption) hb1 (by omega) (by assumption)) | (with_reducible exact Kp.call (by assumption) hb1))))
              (first
                | (go_split_ands; go_at_call 61; (with_reducible refine (place_q q n b aj cap' capj B' B yss xss[k] _ HQ.out h4 HX.out hrow HA.out (grd_kp HYr.out (by with_reducible assumption) hBy) (rd_kp HR.out (by with_reducible assumption) hBr) (kp_le (by with_reducible assumption) hBy) (kp_le (by with_reducible assumption) hBr)).mono ?_); rintro e w1 ⟨p, rfl, hb1⟩; have HB1 := hid (Kp.bel (w := wr) (n := 0) (Kp.call (by with_reducible assumption) hb1))))
            all_goals
              clear hk0
              have hs1 := HB1.out.size
              replace k1 := hid (k1.out.below HB1.out)
              replace k2 := hid (k2.out.below HB1.out)
              replace k3 := hid (k3.out.below HB1.out)
              replace k4 := hid (k4.out.below HB1.out)
              replace hown := hid (hown.out.below' HB1.out)
              replace hb := hid (hb.out.trans (HB1.out.mono hsz))
              clear c0 c1 z1 d0 d1 z2 f0 f1 z4 g
              obtain ⟨c0, c1, z1, _, _⟩ := k1.out
              obtain ⟨f0, f1, z4, f2, f3⟩ := k4.out
              have g := HGc.out w1 HB1.out
              cases q with
              | true =>
                go_wp2
                go_roundw
                case rel => exact ⟨k + 1, v, vs, by omega, by go_num, k1, k2, k3, k4, by rw [difL_mem k hlt HQ.out]; exact hown, hb⟩
                case measure => simp [intOf]; omega
              | false =>
                obtain ⟨d, hd⟩ : ∃ d, (difL yss (xss.take k)).length = d := ⟨_, rfl⟩
                have hdk : (difL yss (xss.take k)).length ≤ 1048576 := by have h1 := difL_len yss (xss.take k); have h2 : (xss.take k).length ≤ k := List.length_take_le _ _; omega
                have hap := hid (difL_new k hlt HQ.out)
                have hgl := hid (show (difL yss (xss.take k) ++ [xss[k]]).length = d + 1 by simp [hd])
                have HR1 := hid (HR.out.below (HB1.out.mono hBr))
                have hB1 : B ≤ w1.heap.size := by omega
                have hbo1 : b1 < w1.heap.size := by omega
                have HV := hid hown.out.lt
                have HW := hid (fun u (hu : u ∈ vs) => (rws_of hown.out).lt hu)
                clear hd
                go_wp2_with fail
                go_region_law
                  (first
                    | (refine step_copy rfl _ _ 27 rfl 3 i0 Try.underlying27 hi hz0 hz1 hz2 w1.drew (by rfl) aj capj B xss[k] (by rfl) HR1.out.drew hB1 hrow ?_; intro u w2 hu hb2; obtain ⟨au, capu, rfl, _, _, _⟩ := hu.form; have hu' := hid hu; have hb2' := hid hb2; have hs2 : w1.heap.size ≤ w2.heap.size := hb2.size; have H4 := hid (k4.out.drew.below hb2); obtain ⟨m0, m1, mz, mf0, mf1⟩ := H4.out; have q1 := (hb2.cell (p := ⟨w.heap.size, 1, none⟩) z1).trans c1; have q2 := (hb2.cell (p := ⟨b1, off + k, none⟩) (by show b1 < w1.heap.size; omega)).trans g; clear hu hb2)
                    | (refine step_head rfl _ _ 24 rfl eR eI eRI i1 Try.underlying24 hj hy0 hy1 hy2 w2 (w4.heap.size + 1) v (.slice au xss[k].length capu) vs (difL yss (xss.take k)) xss[k] (by rfl) (hown.out.drew.below' hb2'.out) (hu'.out.mono (by show _ ≤ w1.heap.size; omega)) (fun u' hu2 q hq hq2 => by have t1 := (hu'.out.lt q hq).1; have t2 := (HW.out u' hu2 q hq2).2; have t3 : w1.heap.size ≤ q := t1; omega) (by rfl) hdk (by omega) ?_; intro v' w5 hg2 hgr2 hs5; obtain ⟨av, capv, ev, _, _, _⟩ := hg2.form; rw [hgl.out] at ev; subst ev; have hg2' := hid hg2; have hgr2' := hid hgr2; have hvne : ∀ q, q < w4.heap.size + 1 → v.ownBlock ≠ some q := (fun q hq e => by have t1 := (HV.out q e).1; omega); have H5 := hid (has2_grown H4.out hgr2 (hvne _ (by omega))); obtain ⟨n0, n1, nz, nf0, nf1⟩ := H5.out; have p1 := cell_grown q1 hgr2 (by omega) (hvne _ (by omega)); have p2 := cell_grown q2 hgr2 (by omega) (hvne _ hbB2); clear hg2 hgr2))
                all_goals
                  have r1 := hid (has2_far (has2_grown (k1.out.drew.below hb2'.out) hgr2'.out (hvne _ (by omega))) (c := w4.heap.size) (o := 1) (by omega) (Value.slice av (d + 1) capv))
                  have r2 := hid (has2_far (has2_grown (k2.out.drew.below hb2'.out) hgr2'.out (hvne _ (by omega))) (c := w4.heap.size) (o := 1) (by omega) (Value.slice av (d + 1) capv))
                  have r3 := hid (has2_far (has2_grown (k3.out.drew.below hb2'.out) hgr2'.out (hvne _ (by omega))) (c := w4.heap.size) (o := 1) (by omega) (Value.slice av (d + 1) capv))
                  have r4 := hid (has2_put1 H5.out (Value.slice av (d + 1) capv))
                  have r5 := hid (gown_set (b := w4.heap.size) (o := 1) hg2'.out (by omega) (Value.slice av (d + 1) capv))
                  have r6 := hid (((hb.out.drew.trans (hb2'.out.mono (by show w.heap.size ≤ w1.heap.size; omega))).grown hgr2'.out (by omega) (fun q hq => by have t1 := (HV.out q hq).1; omega)).setCell (p := ⟨w4.heap.size, 1, none⟩) (by show w.heap.size ≤ w4.heap.size; omega) (Value.slice av (d + 1) capv))
                  rw [hap.out] at r5
                  clear hg2' hgr2' hu' hb2' H4 H5 HW HV q1 q2 p1 p2 n0 n1 m0 m1 c0 c1 f0 f1 g
                  go_wp2
                  go_roundw
                  case rel => exact ⟨k + 1, _, _, by omega, by go_num, r1, r2, r3, r4, r5, r6⟩
                  case measure => simp [intOf]; omega
          · have e : k = xss.length := by omega
            subst e
            have HO := hown.out
            rw [List.take_length] at HO
            obtain ⟨av, capv, rfl, _, _, _⟩ := HO.form
            have HO2 := hid HO
            obtain ⟨e0, e1, z3, _, _⟩ := k3.out
            have hset := has2_set (u := .int .i64 n) (v := .slice av (difL yss xss).length capv) k3.out
            clear HO hown
            go_wp2
            refine bodyPost_ret (v := .tuple #[.agg #[.int .i64 n, .slice av (difL yss xss).length capv], .bool true]) (by simp [results, Try.results52, go_sem, hset.1, hset.2.1]) rfl ⟨av, capv, vs, rfl, ?_, ?_⟩
            · exact gown_mono (gown_set (gown_set HO2.out (by omega) _) (by omega) _) (by omega)
            · exact (hb.out.setCell (by simp; omega) _).setCell (by simp; omega) _
      · have htl : (n != m) = true := by simp [hnm]
        have hno : difOk n m xss yss = false := by simp [difOk, hnm]
        obtain rfl : false = ok := hno.symm.trans hok
        obtain rfl : [] = zss := (dif_no hno).1.symm.trans hzs
        obtain rfl : 0 = nn := (dif_no hno).2.symm.trans hnn
        clear hnm
        have hset := has2_set (u := .int .i64 0) (v := .slice none 0 0) K3.out
        go_wp2
        exact bodyPost_ret (v := .tuple #[.agg #[.int .i64 0, .slice none 0 0], .bool false]) (by simp [results, Try.results52, go_sem, hset.1, hset.2.1]) rfl ⟨none, 0, [], rfl, GOwn.nil _ _ _ _, (B3.out.setCell (by simp; omega) _).setCell (by simp; omega) _⟩
end Go.Proofs.Ytnnoicabfpbemaa.DifS
