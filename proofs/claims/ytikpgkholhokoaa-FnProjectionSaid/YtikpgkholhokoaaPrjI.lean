/- The program's projection (impl.Project). -/
import Derived.Test.YtikpgkholhokoaaPck
import Derived.Test.YtikpgkholhokoaaNewRI
import Derived.Test.YtikpgkholhokoaaClones
namespace Go.Proofs.Ytikpgkholhokoaa.PrjI
open Go.RowKit
open Go.Proofs.Ytikpgkholhokoaa.Num Go.Proofs.Ytikpgkholhokoaa.IntRow Go.Proofs.Ytikpgkholhokoaa.IntLaw Go.Proofs.Ytikpgkholhokoaa.Grid Go.Proofs.Ytikpgkholhokoaa.GridMore Go.Proofs.Ytikpgkholhokoaa.GridLaw Go.Proofs.Ytikpgkholhokoaa.GridLaw2 Go.Proofs.Ytikpgkholhokoaa.Keep Go.Proofs.Ytikpgkholhokoaa.Kept Go.Proofs.Ytikpgkholhokoaa.Cells Go.Proofs.Ytikpgkholhokoaa.RelKit Go.Proofs.Ytikpgkholhokoaa.Asc Go.Proofs.Ytikpgkholhokoaa.RelValidI Go.Proofs.Ytikpgkholhokoaa.Clones Go.Proofs.Ytikpgkholhokoaa.SrtD Go.Proofs.Ytikpgkholhokoaa.NewRI Go.Proofs.Ytikpgkholhokoaa.Pck
set_option linter.unusedVariables false

theorem row_len {n : Int} {xss : List (List Int)} (h : vrel n xss = true) (k : Nat) (hk : k < xss.length) : n = (xss[k].length : Int) := by
  obtain ⟨_, _, h3, _⟩ := vrel_parts h
  exact (h3 _ (List.getElem_mem hk)).1.symm
set_option maxRecDepth 100000 in
set_option maxHeartbeats 4000000 in
theorem impl_prj (n : Int) (a b : Option Addr) (cap capb B B' : Nat) (xss : List (List Int)) (cs : List Int) (w : World) (ht : tot xss ≤ 1048576) (hm : cs.length ≤ 1048576) (h : GRd w B a xss) (h' : Rd w B' b cs) (hB : B ≤ w.heap.size) (hB' : B' ≤ w.heap.size) :
    Calls Try.prog 7 #[.agg #[.int .i64 n, .slice a xss.length cap], .slice b cs.length capb] w fun e w' => ∃ a' c' vs, e = .returned (.tuple #[.agg #[.int .i64 (prjN n xss cs), .slice a' (prjR n xss cs).length c'], .bool (prjOk n xss cs)]) ∧ GOwn w' w.heap.size eR eI (.slice a' (prjR n xss cs).length c') vs (prjR n xss cs) ∧ Below w.heap.size w w' := by
  obtain ⟨zss, hzs⟩ : ∃ z, prjR n xss cs = z := ⟨_, rfl⟩
  obtain ⟨nn, hnn⟩ : ∃ z, prjN n xss cs = z := ⟨_, rfl⟩
  obtain ⟨ok, hok⟩ : ∃ z, prjOk n xss cs = z := ⟨_, rfl⟩
  rw [hzs, hnn, hok]
  have HZ := hid hzs
  have HN := hid hnn
  have HO := hid hok
  clear hzs hnn hok
  have hlen : xss.length ≤ 1048576 := len_le ht
  have hx := hid (each_le ht)
  have K1 := hid ((has2_new w (.int .i64 n) (.slice a xss.length cap) 26).alloc (.cells #[.int .i64 0, .slice none 0 0] 26))
  have K3 := hid (has2_new (w.alloc (.cells #[.int .i64 n, .slice a xss.length cap] 26)) (.int .i64 0) (.slice none 0 0) 26)
  have B3 := hid (((Below.refl w.heap.size w).alloc (Nat.le_refl _) (.cells #[.int .i64 n, .slice a xss.length cap] 26)).alloc (by simp) (.cells #[.int .i64 0, .slice none 0 0] 26))
  simp only [World.size_alloc] at K3
  have HG := hid h
  have HY := hid h'
  clear h h'
  have V := hid (impl_valid n a xss.length cap B xss _ rfl hlen hx.out (HG.out.below (B3.out.mono hB)) (by have := B3.out.size; omega))
  obtain ⟨v, hv⟩ : ∃ v, vrel n xss = v := ⟨_, rfl⟩
  rw [hv] at V
  have HV := hid hv
  clear hv
  obtain ⟨c0, c1, z1, _, _⟩ := K1.out
  go_enter Try.func7, Try.ntmps7
  go_wp2_with fail
  with_reducible refine V.out.mono ?_
  rintro e w3 ⟨rfl, hb⟩
  have hs3 := hb.size
  simp only [World.size_alloc] at hs3
  replace K1 := hid (K1.out.below hb)
  replace K3 := hid (K3.out.below hb)
  replace B3 := hid (B3.out.trans (hb.mono B3.out.size))
  clear hb c0 c1 z1 V
  obtain ⟨c0, c1, z1, _, _⟩ := K1.out
  obtain ⟨e0, e1, z3, _, _⟩ := K3.out
  cases v with
  | false =>
    have hp := prj_no (show prj0 n xss cs = false by simp [prj0, HV.out])
    obtain rfl : false = ok := hp.1.symm.trans HO.out
    obtain rfl : [] = zss := hp.2.1.symm.trans HZ.out
    obtain rfl : 0 = nn := hp.2.2.symm.trans HN.out
    have hset := has2_set (u := .int .i64 0) (v := .slice none 0 0) K3.out
    clear hp
    go_wp2
    exact bodyPost_ret (v := .tuple #[.agg #[.int .i64 0, .slice none 0 0], .bool false]) (by simp [results, Try.results7, go_sem, hset.1, hset.2.1]) rfl ⟨none, 0, [], rfl, GOwn.nil _ _ _ _, (B3.out.setCell (by simp) _).setCell (by simp) _⟩
  | true =>
    have C := hid (impl_cols b capb B' cs n w3 hm (HY.out.below (B3.out.mono hB')))
    obtain ⟨q, hq⟩ : ∃ q, (decide (cs.length ≤ 5) && colsOk n cs) = q := ⟨_, rfl⟩
    rw [hq] at C
    have HQ := hid hq
    clear hq
    go_wp2_with fail
    with_reducible refine C.out.mono ?_
    rintro e w4 ⟨rfl, rfl⟩
    clear C
    cases q with
    | false =>
      have hp := prj_no (show prj0 n xss cs = false by simp [prj0, HQ.out])
      obtain rfl : false = ok := hp.1.symm.trans HO.out
      obtain rfl : [] = zss := hp.2.1.symm.trans HZ.out
      obtain rfl : 0 = nn := hp.2.2.symm.trans HN.out
      have hset := has2_set (u := .int .i64 0) (v := .slice none 0 0) K3.out
      clear hp
      go_wp2
      exact bodyPost_ret (v := .tuple #[.agg #[.int .i64 0, .slice none 0 0], .bool false]) (by simp [results, Try.results7, go_sem, hset.1, hset.2.1]) rfl ⟨none, 0, [], rfl, GOwn.nil _ _ _ _, (B3.out.setCell (by simp) _).setCell (by simp) _⟩
    | true =>
      have hp0 := show prj0 n xss cs = true by simp only [prj0, HV.out, HQ.out, Bool.and_self]
      have hp := prj_yes hp0
      obtain ⟨_, hp5, hpc⟩ := prj_parts hp0
      have HPC := hid hpc
      have HT := hid (tot_prjM HV.out hp5)
      obtain rfl : newOk (cs.length : Int) (prjM xss cs) = ok := hp.1.symm.trans HO.out
      obtain rfl : newR (cs.length : Int) (prjM xss cs) = zss := hp.2.1.symm.trans HZ.out
      obtain rfl : newN (cs.length : Int) (prjM xss cs) = nn := hp.2.2.symm.trans HN.out
      have hml : (prjM xss cs).length = xss.length := by simp [prjM]
      have HML := hid hml
      have HMK := hid (fun k (hk : k < xss.length) (hk2 : k < (prjM xss cs).length) => show (prjM xss cs)[k] = pick xss[k] cs by simp [prjM])
      clear hp hp0 hpc hml
      obtain ⟨i0, hi, hz0, hz1, hz2⟩ := info_parts GridLaw.info
      have hmk := make_rows (P := Try.prog) w3 24 27 i0 Try.underlying24 hi hz0 hz1 hz2 xss.length (by omega)
      have hat0 := hid (rows_made w3 27 3 xss.length (by omega))
      have K1a := hid (K1.out.alloc (.cells (Array.replicate xss.length (.slice none 0 0)) eR))
      have K3a := hid (K3.out.alloc (.cells (Array.replicate xss.length (.slice none 0 0)) eR))
      have B3a := hid (B3.out.alloc B3.out.size (.cells (Array.replicate xss.length (.slice none 0 0)) eR))
      go_wp2
      clear c0 c1 z1 e0 e1 z3
      go_loopw [7, 8, 27] (fun _ _ i wr => ∃ (k : Nat) (vs : List Value), k ≤ xss.length ∧ i = .int .i64 k ∧ Hid (GOwn wr w3.heap.size eR eI (.slice (some ⟨w3.heap.size, 0, none⟩) xss.length xss.length) vs (filledS (prjM xss cs) k)) ∧ Hid (Has2 wr (w.heap.size + 1) (.int .i64 0) (.slice none 0 0)) ∧ Hid (Below w.heap.size w wr) ∧ w3.heap.size ≤ wr.heap.size) (fun _ _ i _ => xss.length - (intOf i).toNat)
      case atStart => exact ⟨0, _, Nat.zero_le _, rfl, hid (by rw [filledS_zero, HML.out]; exact hat0.out), K3a, B3a, by simp⟩
      case round =>
        obtain ⟨k, vs, hk, rfl, hown, k3, hb, hs0⟩ := hrel
        have hfl := filledS_length (prjM xss cs) k (by rw [HML.out]; exact hk)
        rw [HML.out] at hfl
        clear hmk K1a K3a B3a hat0
        by_cases hlt : k < xss.length
        · obtain ⟨b1, off, rfl, hbB, hc⟩ := (HG.out.below (hb.out.mono hB)) (by omega)
          obtain ⟨aj, capj, g, r⟩ := hc k hlt
          have hrow : xss[k].length ≤ 1048576 := hx.out k hlt
          have hsz := hb.out.size
          have T := hid (impl_pick aj b capj capb B B' xss[k] cs wr hrow hm (cols_of HPC.out (row_len HV.out k hlt)) r (HY.out.below (hb.out.mono hB')) (by omega) (by omega))
          have hlt' : (k : Int) < (xss.length : Int) := by omega
          have h0' : (0 : Int) ≤ (k : Int) := by omega
          have hkm : k < (prjM xss cs).length := by rw [HML.out]; exact hlt
          have hek := hid (HMK.out k hlt hkm)
          clear hc r
          go_wp2_with fail
          with_reducible refine T.out.mono ?_
          rintro e w1 ⟨rfl, hat, hb1⟩
          have O1 := hown.out.below' hb1
          have U := hat.own (Nat.le_refl _)
          rw [← hek.out] at U
          have hpl : cs.length = (prjM xss cs)[k].length := by rw [hek.out, pick_len]
          have hst := hid (gown_store O1 hfl.symm eRI k (by omega) (U.mono (by omega)) (fun i u' m hne hu hm2 hm3 => by
            have h1 := (hown.out.lt_row hu m hm3).2
            simp [Value.ownBlock] at hm2
            omega))
          rw [filledS_step (prjM xss cs) k hkm, ← hpl] at hst
          obtain ⟨u0, c1⟩ : ∃ u, w1.cell? ⟨w3.heap.size, k, none⟩ = some u := by
            have hjv : k < vs.length := by rw [hown.out.len, filledS_length (prjM xss cs) k (by omega)]; exact hkm
            have hca := O1.cellAt k (by rw [filledS_length (prjM xss cs) k (by omega)]; exact hkm)
            rw [Nat.zero_add, List.getElem?_eq_getElem hjv] at hca
            exact ⟨_, hca⟩
          have c2 := O1.free k
          rw [Nat.zero_add] at c2
          have HB := hid ((hb.out.trans (hb1.mono hsz)).setCell (p := ⟨w3.heap.size, k, none⟩) (by show w.heap.size ≤ w3.heap.size; omega) (.slice (some ⟨wr.heap.size, 0, none⟩) cs.length cs.length))
          have k3b := hid (has2_far (k3.out.below hb1) (c := w3.heap.size) (o := k) (by omega) (.slice (some ⟨wr.heap.size, 0, none⟩) cs.length cs.length))
          have hs9 : w3.heap.size ≤ w1.heap.size := by have := hb1.size; omega
          clear O1 U hat hb1 hfl hpl
          go_wp2_with fail
          go_roundw
          case rel => exact ⟨k + 1, _, by omega, by go_num, hst, k3b, HB, by simpa using hs9⟩
          case measure => simp [intOf]; omega
        · have e : k = xss.length := by omega
          subst e
          have HO := hown.out
          rw [← HML.out, filledS_all, HML.out] at HO
          have HO2 := hid HO
          have N := hid (impl_new (cs.length : Int) ⟨w3.heap.size, 0, none⟩ (prjM xss cs).length wr.heap.size (prjM xss cs) wr (by have := HT.out; omega) (gown_rd' HO HML.out) (Nat.le_refl _))
          rw [HML.out] at N
          have hk' : ¬ (xss.length : Int) < (xss.length : Int) := by omega
          clear HO hfl hown
          go_wp2_with fail
          with_reducible refine N.out.mono ?_
          rintro e w5 ⟨a5, c5, vs5, rfl, hown, hb5⟩
          have hs5 := hb5.size
          have hlw := k3.out.2.2.1
          replace k3 := hid (k3.out.below hb5)
          replace hb := hid (hb.out.trans (hb5.mono hb.out.size))
          have hset := has2_set (u := .int .i64 (newN (cs.length : Int) (prjM xss cs))) (v := .slice a5 (newR (cs.length : Int) (prjM xss cs)).length c5) k3.out
          have HO5 := hid hown
          obtain ⟨e0, e1, z3, _, _⟩ := k3.out
          clear hown hb5 N
          go_wp2
          refine bodyPost_ret (v := .tuple #[.agg #[.int .i64 (newN (cs.length : Int) (prjM xss cs)), .slice a5 (newR (cs.length : Int) (prjM xss cs)).length c5], .bool (newOk (cs.length : Int) (prjM xss cs))]) (by simp [results, Try.results7, go_sem, hset.1, hset.2.1]) rfl ⟨a5, c5, vs5, rfl, ?_, ?_⟩
          · exact gown_mono (gown_set (gown_set HO5.out (by omega) _) (by omega) _) (by have := hb.out.size; omega)
          · exact (hb.out.setCell (by simp) _).setCell (by simp) _
end Go.Proofs.Ytikpgkholhokoaa.PrjI
