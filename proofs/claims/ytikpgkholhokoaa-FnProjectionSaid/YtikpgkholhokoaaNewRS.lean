/- The model's making of a relation (spec.NewRelation). -/
import Derived.Test.YtikpgkholhokoaaSortS
import Derived.Test.YtikpgkholhokoaaSrtD
import Derived.Test.YtikpgkholhokoaaCopyS
import Derived.Test.YtikpgkholhokoaaRelValidS
namespace Go.Proofs.Ytikpgkholhokoaa.NewRS
open Go.RowKit
open Go.Proofs.Ytikpgkholhokoaa.Num Go.Proofs.Ytikpgkholhokoaa.IntRow Go.Proofs.Ytikpgkholhokoaa.IntLaw Go.Proofs.Ytikpgkholhokoaa.Grid Go.Proofs.Ytikpgkholhokoaa.GridMore Go.Proofs.Ytikpgkholhokoaa.GridLaw Go.Proofs.Ytikpgkholhokoaa.GridLaw2 Go.Proofs.Ytikpgkholhokoaa.Keep Go.Proofs.Ytikpgkholhokoaa.Kept Go.Proofs.Ytikpgkholhokoaa.Cells Go.Proofs.Ytikpgkholhokoaa.RelKit Go.Proofs.Ytikpgkholhokoaa.Vals Go.Proofs.Ytikpgkholhokoaa.GridApp Go.Proofs.Ytikpgkholhokoaa.CopyS Go.Proofs.Ytikpgkholhokoaa.Asc Go.Proofs.Ytikpgkholhokoaa.RelValidS Go.Proofs.Ytikpgkholhokoaa.Mrg Go.Proofs.Ytikpgkholhokoaa.SortS Go.Proofs.Ytikpgkholhokoaa.SrtD
set_option linter.unusedVariables false

set_option maxRecDepth 100000 in
set_option maxHeartbeats 4000000 in
theorem spec_new (n : Int) (a : Option Addr) (cap B : Nat) (xss : List (List Int)) (w : World) (ht : tot xss ≤ 1048576) (hcap : xss.length ≤ cap) (h : GRd w B a xss) (hB : B ≤ w.heap.size) :
    Calls Try.prog 30 #[.int .i64 n, .slice a xss.length cap] w fun e w' => ∃ a' c' vs, e = .returned (.tuple #[.agg #[.int .i64 (newN n xss), .slice a' (newR n xss).length c'], .bool (newOk n xss)]) ∧ GOwn w' w.heap.size eR eI (.slice a' (newR n xss).length c') vs (newR n xss) ∧ Below w.heap.size w w' := by
  obtain ⟨zss, hzs⟩ : ∃ z, newR n xss = z := ⟨_, rfl⟩
  obtain ⟨nn, hnn⟩ : ∃ z, newN n xss = z := ⟨_, rfl⟩
  obtain ⟨ok, hok⟩ : ∃ z, newOk n xss = z := ⟨_, rfl⟩
  rw [hzs, hnn, hok]
  have HZ := hid hzs
  have HN := hid hnn
  have HO := hid hok
  have hlen : xss.length ≤ 1048576 := len_le ht
  have hx := hid (each_le ht)
  have K3 := hid (has2_new w (.int .i64 0) (.slice none 0 0) 26)
  have B3 := hid ((Below.refl w.heap.size w).alloc (Nat.le_refl _) (.cells #[.int .i64 0, .slice none 0 0] 26))
  have HG := hid (h.below (B3.out.mono hB))
  have hB' : B ≤ (w.alloc (.cells #[.int .i64 0, .slice none 0 0] 26)).heap.size := by rw [World.size_alloc]; omega
  clear h hzs hnn hok
  go_enter Try.func30, Try.ntmps30
  go_wp2
  go_loop [6] (fun i => ∃ k : Nat, k ≤ xss.length ∧ i = .int .i64 k) (fun i => xss.length - (intOf i).toNat)
  case atStart => exact ⟨0, Nat.zero_le _, rfl⟩
  case round =>
    obtain ⟨k, hk, rfl⟩ := hrel
    by_cases hlt : k < xss.length
    · obtain ⟨b1, off, rfl, hbB, hc⟩ := HG.out (by omega)
      obtain ⟨aj, capj, g, r⟩ := hc k hlt
      have hrow := hx.out k hlt
      have hlt' : (k : Int) < (xss.length : Int) := by omega
      have h0' : (0 : Int) ≤ (k : Int) := by omega
      have RO := hid (spec_are aj capj B xss[k] _ hrow r)
      obtain ⟨q, hq⟩ : ∃ q, vals xss[k] = q := ⟨_, rfl⟩
      rw [hq] at RO
      clear hc r
      by_cases hal : (xss[k].length : Int) = n
      · have htl : ((xss[k].length : Int) != n) = false := by simp [hal]
        have hrk := hid (show rowOk n xss[k] = q by simp [rowOk, hal, hq])
        clear hal hq
        go_wp2_with fail
        refine RO.out.mono ?_
        rintro e w5 ⟨rfl, rfl⟩
        cases q with
        | true =>
          go_wp2
          go_round
          case rel => exact ⟨k + 1, by omega, by go_num⟩
          case measure => simp [intOf]; omega
        | false =>
          obtain rfl : false = ok := (new_row k hlt hrk.out).symm.trans HO.out
          obtain rfl : [] = zss := (new_no HO.out).1.symm.trans HZ.out
          obtain rfl : 0 = nn := (new_no HO.out).2.symm.trans HN.out
          go_wp2
          exact bodyPost_ret (v := .tuple #[.agg #[.int .i64 0, .slice none 0 0], .bool false]) (by simp [results, Try.results30, go_sem]) rfl (by first | exact ⟨none, 0, [], rfl, GOwn.nil _ _ _ _, B3.out⟩ | exact ⟨none, 0, rfl, ⟨[], GOwn.nil _ _ _ _⟩, B3.out⟩)
      · have htl : ((xss[k].length : Int) != n) = true := by simp [hal]
        obtain rfl : false = ok := (new_row k hlt (by simp [rowOk, hal])).symm.trans HO.out
        obtain rfl : [] = zss := (new_no HO.out).1.symm.trans HZ.out
        obtain rfl : 0 = nn := (new_no HO.out).2.symm.trans HN.out
        clear hal RO
        go_wp2
        exact bodyPost_ret (v := .tuple #[.agg #[.int .i64 0, .slice none 0 0], .bool false]) (by simp [results, Try.results30, go_sem]) rfl (by first | exact ⟨none, 0, [], rfl, GOwn.nil _ _ _ _, B3.out⟩ | exact ⟨none, 0, rfl, ⟨[], GOwn.nil _ _ _ _⟩, B3.out⟩)
    · have e : k = xss.length := by omega
      subst e
      have S := hid (spec_sort xss.length xss a cap B _ (Nat.le_refl _) hlen (fun x hm => by obtain ⟨j, hj, rfl⟩ := List.getElem_of_mem hm; exact hx.out j hj) hcap HG.out hB')
      go_wp2_with fail
      refine S.out.mono ?_
      rintro e w3 ⟨a1, c1, ys, rfl, hc1, hS, hg, hb⟩
      have HE := hid (srt_eq hS)
      have hty : tot ys ≤ 1048576 := Nat.le_trans (tot_srt hS) ht
      have HGy := hid hg
      have hs3 := hb.size
      simp only [World.size_alloc] at hs3
      replace K3 := hid (K3.out.below hb)
      replace B3 := hid (B3.out.trans (hb.mono B3.out.size))
      have hly : ys.length ≤ 1048576 := len_le hty
      have C := hid (spec_copy n a1 c1 w3.heap.size ys w3 hty HGy.out (Nat.le_refl _))
      clear hS hg hb S
      go_wp2_with fail
      refine C.out.mono ?_
      rintro e w4 ⟨a2, c2, vs, rfl, hown, hb⟩
      have hs4 := hb.size
      replace K3 := hid ((K3.out.below hb).alloc (.cells #[.int .i64 n, .slice a2 ys.length c2] 26))
      have K7 := hid (has2_new w4 (.int .i64 n) (.slice a2 ys.length c2) 26)
      replace B3 := hid ((B3.out.trans (hb.mono B3.out.size)).alloc (by omega) (.cells #[.int .i64 n, .slice a2 ys.length c2] 26))
      have HX := hid (hown.alloc (.cells #[.int .i64 n, .slice a2 ys.length c2] 26))
      have V := hid (spec_valid n a2 ys.length c2 _ ys _ rfl hly (each_le hty) (gown_rd HX.out) (Nat.le_refl _))
      have hv2 : vrel n ys = ok := by rw [HE.out]; exact HO.out
      rw [hv2] at V
      clear hown hb C hv2
      go_wp2_with fail
      refine V.out.mono ?_
      rintro e w5 ⟨rfl, hb⟩
      have hs5 := hb.size
      simp only [World.size_alloc] at hs5
      replace K3 := hid (K3.out.below hb)
      replace K7 := hid (K7.out.below hb)
      replace HX := hid (HX.out.below' hb)
      replace B3 := hid (B3.out.trans (hb.mono B3.out.size))
      clear hb V
      obtain ⟨d0, d1, z2, _, _⟩ := K7.out
      obtain ⟨e0, e1, z3, _, _⟩ := K3.out
      cases ok with
      | false =>
        obtain rfl : [] = zss := (new_no HO.out).1.symm.trans HZ.out
        obtain rfl : 0 = nn := (new_no HO.out).2.symm.trans HN.out
        have hset := has2_set (u := .int .i64 0) (v := .slice none 0 0) K3.out
        go_wp2
        exact bodyPost_ret (v := .tuple #[.agg #[.int .i64 0, .slice none 0 0], .bool false]) (by simp [results, Try.results30, go_sem, hset.1, hset.2.1]) rfl ⟨none, 0, [], rfl, GOwn.nil _ _ _ _, (B3.out.setCell (by simp) _).setCell (by simp) _⟩
      | true =>
        obtain rfl : ys = zss := (HE.out.trans (new_yes HO.out).1.symm).trans HZ.out
        obtain rfl : n = nn := (new_yes HO.out).2.symm.trans HN.out
        have hset := has2_set (u := .int .i64 n) (v := .slice a2 ys.length c2) K3.out
        go_wp2
        refine bodyPost_ret (v := .tuple #[.agg #[.int .i64 n, .slice a2 ys.length c2], .bool true]) (by simp [results, Try.results30, go_sem, hset.1, hset.2.1]) rfl ⟨a2, c2, vs, rfl, ?_, ?_⟩
        · exact gown_mono (gown_set (gown_set HX.out (by omega) _) (by omega) _) (by omega)
        · exact (B3.out.setCell (by simp) _).setCell (by simp) _
end Go.Proofs.Ytikpgkholhokoaa.NewRS
