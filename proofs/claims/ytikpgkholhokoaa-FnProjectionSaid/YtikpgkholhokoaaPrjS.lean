/- The model's projection (spec.Project). -/
import Derived.Test.YtikpgkholhokoaaPck
import Derived.Test.YtikpgkholhokoaaNewRS
import Derived.Test.YtikpgkholhokoaaGridHead
import Derived.IntWalk
import Derived.BigQuiet
import Derived.Deep.QuietTactic
namespace Go.Proofs.Ytikpgkholhokoaa.PrjS
open Go.RowKit
open Go.Proofs.Ytikpgkholhokoaa.Num Go.Proofs.Ytikpgkholhokoaa.IntRow Go.Proofs.Ytikpgkholhokoaa.IntLaw Go.Proofs.Ytikpgkholhokoaa.Grid Go.Proofs.Ytikpgkholhokoaa.GridMore Go.Proofs.Ytikpgkholhokoaa.GridLaw Go.Proofs.Ytikpgkholhokoaa.GridLaw2 Go.Proofs.Ytikpgkholhokoaa.Keep Go.Proofs.Ytikpgkholhokoaa.Kept Go.Proofs.Ytikpgkholhokoaa.Cells Go.Proofs.Ytikpgkholhokoaa.RelKit Go.Proofs.Ytikpgkholhokoaa.Asc Go.Proofs.Ytikpgkholhokoaa.GridApp Go.Proofs.Ytikpgkholhokoaa.GridHead Go.Proofs.Ytikpgkholhokoaa.RelValidS Go.Proofs.Ytikpgkholhokoaa.SrtD Go.Proofs.Ytikpgkholhokoaa.NewRS Go.Proofs.Ytikpgkholhokoaa.Pck Go.Proofs.Ytikpgkholhokoaa.HasL Go.Proofs.Ytikpgkholhokoaa.VarName
set_option linter.unusedVariables false

theorem gown_lit (w : World) (lo : Nat) (h : lo ≤ w.heap.size) : GOwn (w.alloc (.cells #[] eR)) lo eR eI (.slice (some ⟨w.heap.size, 0, none⟩) 0 0) [] [] :=
  ⟨rfl, World.ownsRow_made w #[] 0 h (by decide) (by decide), fun j h => by simp at h, fun i j u u' k _ h => by simp at h⟩
theorem prjM_take {xss : List (List Int)} {cs : List Int} (k : Nat) (h : k < xss.length) : prjM (xss.take (k + 1)) cs = prjM (xss.take k) cs ++ [pick xss[k] cs] := by
  rw [List.take_succ_eq_append_getElem h]; unfold prjM; rw [List.map_append]; rfl
theorem put2N {w : World} {b : Nat} {x y : Value} (h : Has2 w b x y) (u v : Value) (n : Nat) : (((w.drewN n).setCell ⟨b, 0, none⟩ u).setCell ⟨b, 1, none⟩ v).cell? ⟨b, 0, none⟩ = some u ∧ (((w.drewN n).setCell ⟨b, 0, none⟩ u).setCell ⟨b, 1, none⟩ v).cell? ⟨b, 1, none⟩ = some v := by
  have := has2_set (u := u) (v := v) (show Has2 (w.drewN n) b x y from ⟨h.1, h.2.1, h.2.2.1, h.2.2.2.1, h.2.2.2.2⟩)
  exact ⟨this.1, this.2.1⟩
theorem belowN {B n : Nat} {a w : World} (h : Below B a w) : Below B a (w.drewN n) := ⟨h.os, h.tape, h.output, h.size, h.block⟩
theorem row_lenS {n : Int} {xss : List (List Int)} (h : vrel n xss = true) (k : Nat) (hk : k < xss.length) : n = (xss[k].length : Int) := by
  obtain ⟨_, _, h3, _⟩ := vrel_parts h
  exact (h3 _ (List.getElem_mem hk)).1.symm

set_option maxRecDepth 100000 in
set_option maxHeartbeats 4000000 in
theorem spec_prj (n : Int) (a b : Option Addr) (cap capb B B' : Nat) (xss : List (List Int)) (cs : List Int) (w : World) (ht : tot xss ≤ 1048576) (hm : cs.length ≤ 1048576) (h : GRd w B a xss) (h' : Rd w B' b cs) (hB : B ≤ w.heap.size) (hB' : B' ≤ w.heap.size) :
    Calls Try.prog 8 #[.agg #[.int .i64 n, .slice a xss.length cap], .slice b cs.length capb] w fun e w' => ∃ a' c' vs, e = .returned (.tuple #[.agg #[.int .i64 (prjN n xss cs), .slice a' (prjR n xss cs).length c'], .bool (prjOk n xss cs)]) ∧ GOwn w' w.heap.size eR eI (.slice a' (prjR n xss cs).length c') vs (prjR n xss cs) ∧ Below w.heap.size w w' := by
  obtain ⟨zss, hzs⟩ : ∃ z, prjR n xss cs = z := ⟨_, rfl⟩
  obtain ⟨nn, hnn⟩ : ∃ z, prjN n xss cs = z := ⟨_, rfl⟩
  obtain ⟨ok, hok⟩ : ∃ z, prjOk n xss cs = z := ⟨_, rfl⟩
  rw [hzs, hnn, hok]
  have HZ := hid hzs
  have HN := hid hnn
  have HO := hid hok
  clear hzs hnn hok
  have hlen : xss.length ≤ 1048576 := len_le ht
  have hx := hid (each_le ht)
  obtain ⟨i1, hj, hy0, hy1, hy2⟩ := info_parts GridLaw.info
  obtain ⟨q, hq⟩ : ∃ q, IntKind.i64.wrap (n - 1) = q := ⟨_, rfl⟩
  have HQ := hid (show vrel n xss = true → q = n - 1 from fun e => by
    obtain ⟨h1, _⟩ := vrel_parts e
    rw [← hq]
    exact IntWalk.i64_in (n - 1) (by omega))
  have K1 := hid ((has2_new w (.int .i64 n) (.slice a xss.length cap) 26).alloc (.cells #[.int .i64 0, .slice none 0 0] 26))
  have K3 := hid (has2_new (w.alloc (.cells #[.int .i64 n, .slice a xss.length cap] 26)) (.int .i64 0) (.slice none 0 0) 26)
  have B3 := hid (((Below.refl w.heap.size w).alloc (Nat.le_refl _) (.cells #[.int .i64 n, .slice a xss.length cap] 26)).alloc (by simp) (.cells #[.int .i64 0, .slice none 0 0] 26))
  simp only [World.size_alloc] at K3
  have HG := hid h
  have HY := hid h'
  clear h h'
  go_enter Try.func8, Try.ntmps8
  go_wp2
  go_loopw [6] (fun i wr => ∃ k : Nat, k ≤ cs.length ∧ i = .int .i64 k ∧ Hid (∀ j (h : j < cs.length), j < k → inR cs[j] 0 q = true) ∧ Hid (Has2 wr w.heap.size (.int .i64 n) (.slice a xss.length cap)) ∧ Hid (Has2 wr (w.heap.size + 1) (.int .i64 0) (.slice none 0 0)) ∧ Hid (Below w.heap.size w wr)) (fun i _ => cs.length - (intOf i).toNat)
  case atStart => exact ⟨0, Nat.zero_le _, rfl, hid (fun j _ h => by omega), K1, K3, B3⟩
  case round =>
    obtain ⟨k, hk, rfl, hall, k1, k3, hb⟩ := hrel
    obtain ⟨c0, c1, z1, _, _⟩ := k1.out
    obtain ⟨e0, e1, z3, _, _⟩ := k3.out
    clear K1 K3 B3
    by_cases hlt : k < cs.length
    · obtain ⟨bc, offc, rfl, hbB, hc1⟩ := (HY.out.below (hb.out.mono hB')) (by omega)
      have g1 := hc1 k hlt
      have hk' : (k : Int) < (cs.length : Int) := by omega
      have hk0 : (0 : Int) ≤ (k : Int) := by omega
      obtain ⟨iv, hiv⟩ : ∃ z, inR cs[k] 0 q = z := ⟨_, rfl⟩
      have IV := hid (fun W => in_is' cs[k] 0 q iv W hiv)
      have HIV := hid hiv
      clear hc1 hiv
      cases iv with
      | false =>
        have hp := prj_no (show prj0 n xss cs = false by
          cases hv : vrel n xss with
          | false => simp [prj0, hv]
          | true =>
            have h1 := HQ.out hv
            have h2 := HIV.out
            have h3 : colsOk n cs = false := cols_no k hlt (by
              simp only [inR, Bool.and_eq_false_iff, decide_eq_false_iff_not, Int.not_le] at h2
              omega)
            simp [prj0, h3])
        obtain rfl : false = ok := hp.1.symm.trans HO.out
        obtain rfl : [] = zss := hp.2.1.symm.trans HZ.out
        obtain rfl : 0 = nn := hp.2.2.symm.trans HN.out
        have r0 := fun m => (put2N k3.out (.int .i64 0) (.slice none 0 0) m).1
        have r1 := fun m => (put2N k3.out (.int .i64 0) (.slice none 0 0) m).2
        clear hp
        go_wp2
        go_quiet ((go_at_call 27; exact Calls.quiet_of_same (IV.out _)))
        clear hq
        go_wp2
        exact bodyPost_ret (v := .tuple #[.agg #[.int .i64 0, .slice none 0 0], .bool false]) (by simp [results, Try.results8, go_sem, r0, r1]) rfl ⟨none, 0, [], rfl, GOwn.nil _ _ _ _, ((belowN hb.out).setCell (by simp) _).setCell (by simp) _⟩
      | true =>
        have HA := hid (show ∀ j (h : j < cs.length), j < k + 1 → inR cs[j] 0 q = true from fun j hj hjk => by
          by_cases e : j = k
          · subst e; exact HIV.out
          · exact hall.out j hj (by omega))
        go_wp2
        go_quiet ((go_at_call 27; exact Calls.quiet_of_same (IV.out _)))
        clear hq
        go_wp2
        go_roundw
        case rel => exact ⟨k + 1, by omega, by go_num, HA, hid ⟨k1.out.1, k1.out.2.1, k1.out.2.2.1, k1.out.2.2.2.1, k1.out.2.2.2.2⟩, hid ⟨k3.out.1, k3.out.2.1, k3.out.2.2.1, k3.out.2.2.2.1, k3.out.2.2.2.2⟩, hid (belowN hb.out)⟩
        case measure => simp [intOf]; omega
    · have hk' : ¬ (k : Int) < (cs.length : Int) := by omega
      have HALL := hid (show vrel n xss = true → colsOk n cs = true from fun hv => cols_yes (fun j hj => by
        have h1 := HQ.out hv
        have h2 := hall.out j hj (by omega)
        simp only [inR, Bool.and_eq_true, decide_eq_true_eq] at h2
        omega))
      have V := hid (spec_valid n a xss.length cap B xss _ rfl hlen hx.out (HG.out.below (hb.out.mono hB)) (by have := hb.out.size; omega))
      obtain ⟨v, hv⟩ : ∃ v, vrel n xss = v := ⟨_, rfl⟩
      rw [hv] at V
      have HV := hid hv
      clear hv hq hall
      go_wp2_with fail
      with_reducible refine V.out.mono ?_
      rintro e w3 ⟨rfl, hb2⟩
      have hs3 := hb2.size
      replace k1 := hid (k1.out.below hb2)
      replace k3 := hid (k3.out.below hb2)
      replace hb := hid (hb.out.trans (hb2.mono hb.out.size))
      clear hb2 c0 c1 z1 e0 e1 z3 V
      obtain ⟨c0, c1, z1, _, _⟩ := k1.out
      obtain ⟨e0, e1, z3, _, _⟩ := k3.out
      cases v with
      | false =>
        have hp := prj_no (show prj0 n xss cs = false by simp [prj0, HV.out])
        obtain rfl : false = ok := hp.1.symm.trans HO.out
        obtain rfl : [] = zss := hp.2.1.symm.trans HZ.out
        obtain rfl : 0 = nn := hp.2.2.symm.trans HN.out
        have hset := has2_set (u := .int .i64 0) (v := .slice none 0 0) k3.out
        clear hp
        go_wp2
        exact bodyPost_ret (v := .tuple #[.agg #[.int .i64 0, .slice none 0 0], .bool false]) (by simp [results, Try.results8, go_sem, hset.1, hset.2.1]) rfl ⟨none, 0, [], rfl, GOwn.nil _ _ _ _, (hb.out.setCell (by simp) _).setCell (by simp) _⟩
      | true =>
        by_cases h5 : cs.length ≤ 5
        · have h5' : ¬ (5 : Int) < (cs.length : Int) := by omega
          have hpc := HALL.out HV.out
          have hp0 := show prj0 n xss cs = true by simp only [prj0, HV.out, hpc, Bool.and_true, Bool.true_and]; simpa using h5
          have hp := prj_yes hp0
          have HPC := hid hpc
          have HT := hid (tot_prjM HV.out h5)
          obtain rfl : newOk (cs.length : Int) (prjM xss cs) = ok := hp.1.symm.trans HO.out
          obtain rfl : newR (cs.length : Int) (prjM xss cs) = zss := hp.2.1.symm.trans HZ.out
          obtain rfl : newN (cs.length : Int) (prjM xss cs) = nn := hp.2.2.symm.trans HN.out
          have O0 := hid (gown_lit w3 w3.heap.size (Nat.le_refl _))
          have hlo3 : w.heap.size + 2 ≤ w3.heap.size := by have := k3.out.2.2.1; omega
          have K1a := hid (k1.out.alloc (.cells #[] eR))
          have K3a := hid (k3.out.alloc (.cells #[] eR))
          have B3a := hid (hb.out.alloc hb.out.size (.cells #[] eR))
          clear hp hp0 hpc
          go_wp2
          clear c0 c1 z1 e0 e1 z3
          go_loopw [7, 8] (fun s7 i wr2 => ∃ (k : Nat) (v : Value) (vs : List Value), k ≤ xss.length ∧ i = .int .i64 k ∧ v = s7 ∧ Hid (Has2 wr2 w.heap.size (.int .i64 n) (.slice a xss.length cap)) ∧ Hid (Has2 wr2 (w.heap.size + 1) (.int .i64 0) (.slice none 0 0)) ∧ Hid (GOwn wr2 w3.heap.size eR eI v vs (prjM (xss.take k) cs)) ∧ Hid (Below w.heap.size w wr2) ∧ w3.heap.size ≤ wr2.heap.size) (fun _ i _ => xss.length - (intOf i).toNat)
          case atStart => exact ⟨0, _, [], Nat.zero_le _, rfl, rfl, K1a, K3a, hid (by simpa [prjM] using O0.out), B3a, by simp⟩
          case round =>
            obtain ⟨j, v, vs, hjl, rfl, rfl, k1, k3, hown, hb, hs0⟩ := hrel
            clear K1a K3a B3a O0
            obtain ⟨c0, c1, z1, _, _⟩ := k1.out
            have hsz := hb.out.size
            by_cases hlt : j < xss.length
            · obtain ⟨b1, off, rfl, hbB, hc⟩ := (HG.out.below (hb.out.mono hB)) (by omega)
              obtain ⟨aj, capj, g, r⟩ := hc j hlt
              have hrow : xss[j].length ≤ 1048576 := hx.out j hlt
              have hlt' : (j : Int) < (xss.length : Int) := by omega
              have h0' : (0 : Int) ≤ (j : Int) := by omega
              have C := hid (spec_pick aj b capj capb B B' xss[j] cs wr hrow hm (cols_of HPC.out (row_lenS HV.out j hlt)) r (HY.out.below (hb.out.mono hB')) (by omega) (by omega))
              have hdk : (prjM (xss.take j) cs).length ≤ 1048576 := by simp [prjM]; omega
              have hap := hid (prjM_take (cs := cs) j hlt)
              clear hc r
              go_wp2_with fail
              with_reducible refine C.out.mono ?_
              rintro e w5 ⟨au, capu, rfl, hu, hb2⟩
              have hs2 := hb2.size
              have HU := hid hu
              have HB2 := hid hb2
              have hO2 := hid (hown.out.below' hb2)
              have HW := hid (fun u (hu : u ∈ vs) => (rws_of hown.out).lt hu)
              have hfar := hid (show ∀ u' ∈ vs, Far (.slice au cs.length capu) u' from fun u' hu2 q hq hq2 => by have t1 := (HU.out.lt q hq).1; have t2 := (HW.out u' hu2 q hq2).2; omega)
              have HU2 := hid (show Own w5 w3.heap.size eI (.slice au cs.length capu) (pick xss[j] cs) from HU.out.mono (by omega))
              clear hu hb2 C
              go_wp2_with (at_builtin; refine wpList_head rfl _ _ 24 rfl eR eI eRI i1 Try.underlying24 hj hy0 hy1 hy2 w5 w3.heap.size v (.slice au cs.length capu) vs (prjM (xss.take j) cs) (pick xss[j] cs) rfl hO2.out HU2.out hfar.out rfl hdk (by omega) ?_; intro v' w6 hg2 hgr2 hs6; have hg2' := hid hg2; have hgr2' := hid hgr2; clear hg2 hgr2)
              have HVL := hid hown.out.lt
              have r1 := hid (has2_grown (k1.out.below HB2.out) hgr2'.out (fun e => by have t1 := (HVL.out _ e).1; omega))
              have r3 := hid (has2_grown (k3.out.below HB2.out) hgr2'.out (fun e => by have t1 := (HVL.out _ e).1; omega))
              have r6 := hid ((hb.out.trans (HB2.out.mono (by omega))).grown hgr2'.out (by omega) (fun q hq => by have t1 := (HVL.out q hq).1; omega))
              have r5 := hg2'.out
              rw [← hap.out] at r5
              have r5' := hid r5
              clear r5 hg2' hgr2' hO2 HU HU2 HW HVL c0 c1 z1
              go_roundw
              case rel => exact ⟨j + 1, _, _, by omega, by go_num, rfl, r1, r3, r5', r6, by omega⟩
              case measure => simp [intOf]; omega
            · have e : j = xss.length := by omega
              subst e
              have hlt' : ¬ (xss.length : Int) < (xss.length : Int) := by omega
              have HO := hown.out
              rw [List.take_length] at HO
              obtain ⟨av, capv, rfl, hcv, _, _⟩ := HO.form
              have N := hid (spec_new (cs.length : Int) av capv wr.heap.size (prjM xss cs) wr (by have := HT.out; omega) hcv (gown_rd HO) (Nat.le_refl _))
              clear HO hown
              go_wp2_with fail
              with_reducible refine N.out.mono ?_
              rintro e w5 ⟨a5, c5, vs5, rfl, hown, hb5⟩
              have hs5 := hb5.size
              have hlw := k3.out.2.2.1
              replace k3 := hid ((k3.out.below hb5).alloc (.cells #[.int .i64 (newN (cs.length : Int) (prjM xss cs)), .slice a5 (newR (cs.length : Int) (prjM xss cs)).length c5] 26))
              have k7 := hid (has2_new w5 (.int .i64 (newN (cs.length : Int) (prjM xss cs))) (.slice a5 (newR (cs.length : Int) (prjM xss cs)).length c5) 26)
              replace hb := hid ((hb.out.trans (hb5.mono hb.out.size)).alloc (by omega) (.cells #[.int .i64 (newN (cs.length : Int) (prjM xss cs)), .slice a5 (newR (cs.length : Int) (prjM xss cs)).length c5] 26))
              have hset := has2_set (u := .int .i64 (newN (cs.length : Int) (prjM xss cs))) (v := .slice a5 (newR (cs.length : Int) (prjM xss cs)).length c5) k3.out
              have HO5 := hid (hown.alloc (.cells #[.int .i64 (newN (cs.length : Int) (prjM xss cs)), .slice a5 (newR (cs.length : Int) (prjM xss cs)).length c5] 26))
              obtain ⟨e0, e1, z3, _, _⟩ := k3.out
              obtain ⟨m0, m1, z7, _, _⟩ := k7.out
              clear hown hb5 N
              go_wp2
              refine bodyPost_ret (v := .tuple #[.agg #[.int .i64 (newN (cs.length : Int) (prjM xss cs)), .slice a5 (newR (cs.length : Int) (prjM xss cs)).length c5], .bool (newOk (cs.length : Int) (prjM xss cs))]) (by simp [results, Try.results8, go_sem, hset.1, hset.2.1]) rfl ⟨a5, c5, vs5, rfl, ?_, ?_⟩
              · exact gown_mono (gown_set (gown_set HO5.out (by omega) _) (by omega) _) (by omega)
              · exact (hb.out.setCell (by simp) _).setCell (by simp) _
        · have h5' : (5 : Int) < (cs.length : Int) := by omega
          have hp := prj_no (show prj0 n xss cs = false by
            have : decide (cs.length ≤ 5) = false := by simpa using h5
            simp [prj0, this])
          obtain rfl : false = ok := hp.1.symm.trans HO.out
          obtain rfl : [] = zss := hp.2.1.symm.trans HZ.out
          obtain rfl : 0 = nn := hp.2.2.symm.trans HN.out
          have hset := has2_set (u := .int .i64 0) (v := .slice none 0 0) k3.out
          clear hp
          go_wp2
          exact bodyPost_ret (v := .tuple #[.agg #[.int .i64 0, .slice none 0 0], .bool false]) (by simp [results, Try.results8, go_sem, hset.1, hset.2.1]) rfl ⟨none, 0, [], rfl, GOwn.nil _ _ _ _, (hb.out.setCell (by simp) _).setCell (by simp) _⟩
end Go.Proofs.Ytikpgkholhokoaa.PrjS
