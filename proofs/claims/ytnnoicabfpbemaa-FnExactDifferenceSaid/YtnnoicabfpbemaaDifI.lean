/- The program's difference of two relations (impl.Difference). -/
import Derived.Test.YtnnoicabfpbemaaClones
import Derived.Test.YtnnoicabfpbemaaGridHead
import Derived.Test.YtnnoicabfpbemaaRelPlaceI
import Derived.Test.YtnnoicabfpbemaaDif
namespace Go.Proofs.Ytnnoicabfpbemaa.DifI
open Go.RowKit
open Go.Proofs.Ytnnoicabfpbemaa.Num Go.Proofs.Ytnnoicabfpbemaa.IntRow Go.Proofs.Ytnnoicabfpbemaa.IntLaw Go.Proofs.Ytnnoicabfpbemaa.Grid Go.Proofs.Ytnnoicabfpbemaa.GridMore Go.Proofs.Ytnnoicabfpbemaa.GridLaw Go.Proofs.Ytnnoicabfpbemaa.GridLaw2 Go.Proofs.Ytnnoicabfpbemaa.Keep Go.Proofs.Ytnnoicabfpbemaa.Kept Go.Proofs.Ytnnoicabfpbemaa.Cells Go.Proofs.Ytnnoicabfpbemaa.RelKit Go.Proofs.Ytnnoicabfpbemaa.GridApp Go.Proofs.Ytnnoicabfpbemaa.GridHead Go.Proofs.Ytnnoicabfpbemaa.Clones Go.Proofs.Ytnnoicabfpbemaa.Asc Go.Proofs.Ytnnoicabfpbemaa.RelValidS Go.Proofs.Ytnnoicabfpbemaa.RelValidI Go.Proofs.Ytnnoicabfpbemaa.RelPlaceS Go.Proofs.Ytnnoicabfpbemaa.RelPlaceI Go.Proofs.Ytnnoicabfpbemaa.Dif
set_option linter.unusedVariables false

set_option maxRecDepth 100000 in
set_option maxHeartbeats 2000000 in
theorem impl_same (n m : Int) (a b : Option Addr) (cap cap' B B' : Nat) (xss yss : List (List Int)) (w : World) (ht : tot xss ≤ 1048576) (ht' : tot yss ≤ 1048576) (h : GRd w B a xss) (h' : GRd w B' b yss) (hB : B ≤ w.heap.size) (hB' : B' ≤ w.heap.size) :
    Calls Try.prog 70 #[.agg #[.int .i64 n, .slice a xss.length cap], .agg #[.int .i64 m, .slice b yss.length cap']] w fun e w' => e = .returned (.bool (difOk n m xss yss)) ∧ Below w.heap.size w w' := by
  obtain ⟨ok, hok⟩ : ∃ z, difOk n m xss yss = z := ⟨_, rfl⟩
  rw [hok]
  have hlen : xss.length ≤ 1048576 := len_le ht
  have hlen' : yss.length ≤ 1048576 := len_le ht'
  have hx := hid (each_le ht)
  have hx' := hid (each_le ht')
  have K1 := hid ((has2_new w (.int .i64 n) (.slice a xss.length cap) 26).alloc (.cells #[.int .i64 m, .slice b yss.length cap'] 26))
  have K2 := hid (has2_new (w.alloc (.cells #[.int .i64 n, .slice a xss.length cap] 26)) (.int .i64 m) (.slice b yss.length cap') 26)
  have B3 := hid (((Below.refl w.heap.size w).alloc (Nat.le_refl _) (.cells #[.int .i64 n, .slice a xss.length cap] 26)).alloc (by simp) (.cells #[.int .i64 m, .slice b yss.length cap'] 26))
  simp only [World.size_alloc] at K1 K2
  have HG := hid h
  have HY := hid h'
  clear h h'
  obtain ⟨c0, c1, z1, _, _⟩ := K1.out
  obtain ⟨d0, d1, z2, _, _⟩ := K2.out
  by_cases hnm : n = m
  · subst hnm
    have heq : (n == n) = true := by simp
    have V := hid (impl_valid n a xss.length cap B xss _ rfl hlen hx.out (HG.out.below (B3.out.mono hB)) (by have := B3.out.size; omega))
    obtain ⟨v, hv⟩ : ∃ v, vrel n xss = v := ⟨_, rfl⟩
    rw [hv] at V
    go_enter Try.func70, Try.ntmps70
    go_wp2_with fail
    refine V.out.mono ?_
    rintro e w3 ⟨rfl, hb⟩
    replace K2 := hid (K2.out.below hb)
    replace B3 := hid (B3.out.trans (hb.mono B3.out.size))
    clear hb c0 c1 z1 d0 d1 z2 V
    obtain ⟨d0, d1, z2, _, _⟩ := K2.out
    cases v with
    | false =>
      obtain rfl : false = ok := by rw [← hok]; simp [difOk, hv]
      clear hok hv
      go_wp2
      go_ret
      exact ⟨rfl, B3.out⟩
    | true =>
      have V := hid (impl_valid n b yss.length cap' B' yss w3 rfl hlen' hx'.out (HY.out.below (B3.out.mono hB')) (by have := B3.out.size; omega))
      have hv2 : vrel n yss = ok := by rw [← hok]; simp [difOk, hv]
      rw [hv2] at V
      clear hok hv hv2
      go_wp2_with fail
      refine V.out.mono ?_
      rintro e w4 ⟨rfl, hb⟩
      replace B3 := hid (B3.out.trans (hb.mono B3.out.size))
      clear hb
      go_wp2
      go_ret
      exact ⟨rfl, B3.out⟩
  · have heq : (n == m) = false := by simp [hnm]
    obtain rfl : false = ok := by rw [← hok]; simp [difOk, hnm]
    clear hok hnm
    go_enter Try.func70, Try.ntmps70
    go_wp2
    go_ret
    exact ⟨rfl, B3.out⟩

set_option maxRecDepth 100000 in
set_option maxHeartbeats 4000000 in
theorem impl_diff (n m : Int) (a b : Option Addr) (cap cap' B B' : Nat) (xss yss : List (List Int)) (w : World) (ht : tot xss ≤ 1048576) (ht' : tot yss ≤ 1048576) (h : GRd w B a xss) (h' : GRd w B' b yss) (hB : B ≤ w.heap.size) (hB' : B' ≤ w.heap.size) :
    Calls Try.prog 25 #[.agg #[.int .i64 n, .slice a xss.length cap], .agg #[.int .i64 m, .slice b yss.length cap']] w fun e w' => ∃ a' c' vs, e = .returned (.tuple #[.agg #[.int .i64 (difN n m xss yss), .slice a' (difR n m xss yss).length c'], .bool (difOk n m xss yss)]) ∧ GOwn w' w.heap.size eR eI (.slice a' (difR n m xss yss).length c') vs (difR n m xss yss) ∧ Below w.heap.size w w' := by
  obtain ⟨zss, hzs⟩ : ∃ z, difR n m xss yss = z := ⟨_, rfl⟩
  obtain ⟨nn, hnn⟩ : ∃ z, difN n m xss yss = z := ⟨_, rfl⟩
  obtain ⟨ok, hok⟩ : ∃ z, difOk n m xss yss = z := ⟨_, rfl⟩
  rw [hzs, hnn, hok]
  have hlen : xss.length ≤ 1048576 := len_le ht
  have hlen' : yss.length ≤ 1048576 := len_le ht'
  have hx' := hid (each_le ht')
  obtain ⟨i1, hj, hy0, hy1, hy2⟩ := info_parts GridLaw.info
  have K1 := hid (((has2_new w (.int .i64 n) (.slice a xss.length cap) 26).alloc (.cells #[.int .i64 m, .slice b yss.length cap'] 26)).alloc (.cells #[.int .i64 0, .slice none 0 0] 26))
  have K2 := hid ((has2_new (w.alloc (.cells #[.int .i64 n, .slice a xss.length cap] 26)) (.int .i64 m) (.slice b yss.length cap') 26).alloc (.cells #[.int .i64 0, .slice none 0 0] 26))
  have K3 := hid (has2_new ((w.alloc (.cells #[.int .i64 n, .slice a xss.length cap] 26)).alloc (.cells #[.int .i64 m, .slice b yss.length cap'] 26)) (.int .i64 0) (.slice none 0 0) 26)
  have B3 := hid ((((Below.refl w.heap.size w).alloc (Nat.le_refl _) (.cells #[.int .i64 n, .slice a xss.length cap] 26)).alloc (by simp) (.cells #[.int .i64 m, .slice b yss.length cap'] 26)).alloc (by simp; omega) (.cells #[.int .i64 0, .slice none 0 0] 26))
  simp only [World.size_alloc] at K1 K2 K3
  have HG := hid h
  have HY := hid h'
  clear h h'
  have V := hid (impl_same n m a b cap cap' B B' xss yss _ ht ht' (HG.out.below (B3.out.mono hB)) (HY.out.below (B3.out.mono hB')) (by have := B3.out.size; omega) (by have := B3.out.size; omega))
  rw [hok] at V
  obtain ⟨c0, c1, z1, _, _⟩ := K1.out
  obtain ⟨d0, d1, z2, _, _⟩ := K2.out
  go_enter Try.func25, Try.ntmps25
  go_wp2_with fail
  refine V.out.mono ?_
  rintro e w3 ⟨rfl, hb⟩
  have hs3 := hb.size
  simp only [World.size_alloc] at hs3
  replace K1 := hid (K1.out.below hb)
  replace K2 := hid (K2.out.below hb)
  replace K3 := hid (K3.out.below hb)
  replace B3 := hid (B3.out.trans (hb.mono B3.out.size))
  clear hb c0 c1 z1 d0 d1 z2 V
  obtain ⟨c0, c1, z1, _, _⟩ := K1.out
  obtain ⟨d0, d1, z2, _, _⟩ := K2.out
  obtain ⟨e0, e1, z3, _, _⟩ := K3.out
  cases ok with
  | false =>
    obtain rfl : [] = zss := (dif_no hok).1.symm.trans hzs
    obtain rfl : 0 = nn := (dif_no hok).2.symm.trans hnn
    have hset := has2_set (u := .int .i64 0) (v := .slice none 0 0) K3.out
    clear hok
    go_wp2
    exact bodyPost_ret (v := .tuple #[.agg #[.int .i64 0, .slice none 0 0], .bool false]) (by simp [results, Try.results25, go_sem, hset.1, hset.2.1]) rfl ⟨none, 0, [], rfl, GOwn.nil _ _ _ _, (B3.out.setCell (by simp; omega) _).setCell (by simp; omega) _⟩
  | true =>
    obtain rfl : difL yss xss = zss := (dif_yes hok).1.symm.trans hzs
    obtain rfl : n = nn := (dif_yes hok).2.symm.trans hnn
    have hv2 : vrel m yss = true := by
      simp only [difOk, Bool.and_eq_true] at hok
      exact hok.2
    obtain ⟨_, _, _, hasc⟩ := vrel_parts hv2
    have HA := hid hasc
    clear hok hzs hnn hv2 hasc
    go_wp2
    go_loopw [6, 8, 9, 10, 19] (fun s6 _ _ _ i wr => ∃ (k : Nat) (v : Value) (vs : List Value), k ≤ xss.length ∧ i = .int .i64 k ∧ v = s6 ∧ Hid (Has2 wr w.heap.size (.int .i64 n) (.slice a xss.length cap)) ∧ Hid (Has2 wr (w.heap.size + 1) (.int .i64 m) (.slice b yss.length cap')) ∧ Hid (Has2 wr (w.heap.size + 1 + 1) (.int .i64 0) (.slice none 0 0)) ∧ Hid (GOwn wr w3.heap.size eR eI v vs (difL yss (xss.take k))) ∧ Hid (Below w.heap.size w wr) ∧ w3.heap.size ≤ wr.heap.size) (fun _ _ _ _ i _ => xss.length - (intOf i).toNat)
    case atStart => exact ⟨0, _, [], Nat.zero_le _, rfl, rfl, K1, K2, K3, hid (by simpa [difL] using GOwn.nil _ _ _ _), B3, Nat.le_refl _⟩
    case round =>
      obtain ⟨k, v, vs, hk, rfl, rfl, k1, k2, k3, hown, hb, hs0⟩ := hrel
      clear c0 c1 z1 d0 d1 z2 e0 e1 z3 K1 K2 K3 B3
      obtain ⟨d0, d1, z2, _, _⟩ := k2.out
      have hsz := hb.out.size
      by_cases hlt : k < xss.length
      · obtain ⟨b1, off, rfl, hbB, hc⟩ := (HG.out.below (hb.out.mono hB)) (by omega)
        obtain ⟨aj, capj, g, r⟩ := hc k hlt
        have hrow : xss[k].length ≤ 1048576 := each_le ht k hlt
        have hlt' : (k : Int) < (xss.length : Int) := by omega
        have h0' : (0 : Int) ≤ (k : Int) := by omega
        have hBr : B ≤ wr.heap.size := by omega
        have hBy : B' ≤ wr.heap.size := by omega
        have HR := hid r
        have F := hid (impl_find m b aj cap' capj yss.length B' B yss xss[k] wr rfl hlen' hx'.out hrow (HY.out.below (hb.out.mono hB')) r hBy hBr)
        clear hc r
        go_wp2_with fail
        refine F.out.mono ?_
        rintro e w1 ⟨p, q, rfl, hfnd, hb1⟩
        have hs1 := hb1.size
        have HQ := hid ((hfnd.mem HA.out).symm)
        replace k1 := hid (k1.out.below hb1)
        replace k2 := hid (k2.out.below hb1)
        replace k3 := hid (k3.out.below hb1)
        replace hown := hid (hown.out.below' hb1)
        replace hb := hid (hb.out.trans (hb1.mono hsz))
        have HR1 := hid (HR.out.below (hb1.mono hBr))
        clear hfnd hb1 d0 d1 z2 F g
        cases q with
        | true =>
          go_wp2
          go_roundw
          case rel => exact ⟨k + 1, v, vs, by omega, by go_num, rfl, k1, k2, k3, by rw [difL_mem k hlt HQ.out]; exact hown, hb, by omega⟩
          case measure => simp [intOf]; omega
        | false =>
          have hdk : (difL yss (xss.take k)).length ≤ 1048576 := by have h1 := difL_len yss (xss.take k); have h2 : (xss.take k).length ≤ k := List.length_take_le _ _; omega
          have hap := hid (difL_new k hlt HQ.out)
          have hB1 : B ≤ w1.heap.size := by omega
          have HW := hid (fun u (hu : u ∈ vs) => (rws_of hown.out).lt hu)
          have C := hid (lib_clone aj capj B xss[k] w1 hrow HR1.out hB1)
          go_wp2_with fail
          refine C.out.mono ?_
          rintro e w2 ⟨u, rfl, hu, hb2⟩
          have hs2 := hb2.size
          obtain ⟨au, capu, rfl, _, _, _⟩ := hu.form
          have HU := hid hu
          have HB2 := hid hb2
          have hO2 := hid (hown.out.below' hb2)
          have hfar := hid (show ∀ u' ∈ vs, Far (.slice au xss[k].length capu) u' from fun u' hu2 q hq hq2 => by have t1 := (HU.out.lt q hq).1; have t2 := (HW.out u' hu2 q hq2).2; omega)
          clear hu hb2 C
          go_wp2_with (at_builtin; refine wpList_head rfl _ _ 24 rfl eR eI eRI i1 Try.underlying24 hj hy0 hy1 hy2 w2 w3.heap.size v (.slice au xss[k].length capu) vs (difL yss (xss.take k)) xss[k] rfl hO2.out (HU.out.mono (by omega)) hfar.out rfl hdk (by omega) ?_; intro v' w5 hg2 hgr2 hs5; have hg2' := hid hg2; have hgr2' := hid hgr2; clear hg2 hgr2)
          have HV := hid hown.out.lt
          have r1 := hid (has2_grown (k1.out.below HB2.out) hgr2'.out (fun e => by have t1 := (HV.out _ e).1; omega))
          have r2 := hid (has2_grown (k2.out.below HB2.out) hgr2'.out (fun e => by have t1 := (HV.out _ e).1; omega))
          have r3 := hid (has2_grown (k3.out.below HB2.out) hgr2'.out (fun e => by have t1 := (HV.out _ e).1; omega))
          have r6 := hid ((hb.out.trans (HB2.out.mono (by omega))).grown hgr2'.out (by omega) (fun q hq => by have t1 := (HV.out q hq).1; omega))
          have r5 := hg2'.out
          rw [hap.out] at r5
          have r5' := hid r5
          clear r5 hg2' hgr2' hO2 HU HW HV
          go_roundw
          case rel => exact ⟨k + 1, _, _, by omega, by go_num, rfl, r1, r2, r3, r5', r6, by omega⟩
          case measure => simp [intOf]; omega
      · have e : k = xss.length := by omega
        subst e
        have HO := hown.out
        rw [List.take_length] at HO
        obtain ⟨av, capv, rfl, _, _, _⟩ := HO.form
        have HO2 := hid HO
        obtain ⟨c0, c1, z1, _, _⟩ := k1.out
        obtain ⟨e0, e1, z3, _, _⟩ := k3.out
        have hset := has2_set (u := .int .i64 n) (v := .slice av (difL yss xss).length capv) k3.out
        clear HO hown
        go_wp2
        refine bodyPost_ret (v := .tuple #[.agg #[.int .i64 n, .slice av (difL yss xss).length capv], .bool true]) (by simp [results, Try.results25, go_sem, hset.1, hset.2.1]) rfl ⟨av, capv, vs, rfl, ?_, ?_⟩
        · exact gown_mono (gown_set (gown_set HO2.out (by omega) _) (by omega) _) (by omega)
        · exact (hb.out.setCell (by simp; omega) _).setCell (by simp; omega) _
end Go.Proofs.Ytnnoicabfpbemaa.DifI
