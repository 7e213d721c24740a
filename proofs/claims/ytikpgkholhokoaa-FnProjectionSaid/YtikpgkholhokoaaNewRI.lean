/- The program's making of a relation (impl.NewRelation). -/
import Derived.Test.YtikpgkholhokoaaLibRows
import Derived.Test.YtikpgkholhokoaaCompact
import Derived.Test.YtikpgkholhokoaaSrtD
import Derived.Test.YtikpgkholhokoaaClones
import Derived.Test.YtikpgkholhokoaaRelValidI
namespace Go.Proofs.Ytikpgkholhokoaa.NewRI
open Go.RowKit
open Go.Proofs.Ytikpgkholhokoaa.Num Go.Proofs.Ytikpgkholhokoaa.IntRow Go.Proofs.Ytikpgkholhokoaa.IntLaw Go.Proofs.Ytikpgkholhokoaa.Grid Go.Proofs.Ytikpgkholhokoaa.GridMore Go.Proofs.Ytikpgkholhokoaa.GridLaw Go.Proofs.Ytikpgkholhokoaa.GridLaw2 Go.Proofs.Ytikpgkholhokoaa.Keep Go.Proofs.Ytikpgkholhokoaa.Kept Go.Proofs.Ytikpgkholhokoaa.Cells Go.Proofs.Ytikpgkholhokoaa.RelKit Go.Proofs.Ytikpgkholhokoaa.Vals Go.Proofs.Ytikpgkholhokoaa.GridApp Go.Proofs.Ytikpgkholhokoaa.Asc Go.Proofs.Ytikpgkholhokoaa.RelValidI Go.Proofs.Ytikpgkholhokoaa.Clones Go.Proofs.Ytikpgkholhokoaa.Hds Go.Proofs.Ytikpgkholhokoaa.Mrg Go.Proofs.Ytikpgkholhokoaa.SortS Go.Proofs.Ytikpgkholhokoaa.SrtD Go.Proofs.Ytikpgkholhokoaa.Dd Go.Proofs.Ytikpgkholhokoaa.LibRows Go.Proofs.Ytikpgkholhokoaa.Compact
set_option linter.unusedVariables false

set_option maxRecDepth 100000 in
set_option maxHeartbeats 4000000 in
theorem impl_new (n : Int) (p : Addr) (cap B : Nat) (xss : List (List Int)) (w : World) (ht : tot xss ≤ 1048576) (h : GRd w B (some p) xss) (hB : B ≤ w.heap.size) :
    Calls Try.prog 26 #[.int .i64 n, .slice (some p) xss.length cap] w fun e w' => ∃ a' c' vs, e = .returned (.tuple #[.agg #[.int .i64 (newN n xss), .slice a' (newR n xss).length c'], .bool (newOk n xss)]) ∧ GOwn w' w.heap.size eR eI (.slice a' (newR n xss).length c') vs (newR n xss) ∧ Below w.heap.size w w' := by
  obtain ⟨zss, hzs⟩ : ∃ z, newR n xss = z := ⟨_, rfl⟩
  obtain ⟨nn, hnn⟩ : ∃ z, newN n xss = z := ⟨_, rfl⟩
  obtain ⟨ok, hok⟩ : ∃ z, newOk n xss = z := ⟨_, rfl⟩
  rw [hzs, hnn, hok]
  have HZ := hid hzs
  have HN := hid hnn
  have HO := hid hok
  have hlen : xss.length ≤ 1048576 := len_le ht
  have HX := hid (show ∀ x ∈ xss, x.length ≤ 1048576 from fun x hm => by obtain ⟨j, hj, rfl⟩ := List.getElem_of_mem hm; exact each_le ht j hj)
  have K3 := hid (has2_new w (.int .i64 0) (.slice none 0 0) 26)
  have B3 := hid ((Below.refl w.heap.size w).alloc (Nat.le_refl _) (.cells #[.int .i64 0, .slice none 0 0] 26))
  have C := hid (lib_cloneR p cap B xss _ hlen (h.below (B3.out.mono hB)) (by have := B3.out.size; omega))
  clear h hzs hnn hok
  go_enter Try.func26, Try.ntmps26
  go_wp2_with fail
  refine C.out.mono ?_
  rintro e w1 ⟨g, c, vs, rfl, hown, hhs, hb⟩
  have hs1 := hb.size
  simp only [World.size_alloc] at hs1 hown
  have hgl := (World.ownsRow.lt hown g rfl)
  have hBg : B ≤ g := by omega
  have S := hid (lib_sort g c (w.heap.size + 1) B vs xss w1 hlen HX.out hown hhs hBg)
  have hc : xss.length ≤ c := by
    obtain ⟨_, _, e, h2⟩ := form_row hown
    injection e with _ _ e
    omega
  have hg1 : w.heap.size + 1 ≤ g := hgl.1
  have hg2 : g < w1.heap.size := hgl.2
  replace K3 := hid (K3.out.below hb)
  replace B3 := hid (B3.out.trans (hb.mono B3.out.size))
  clear hb hown hhs C hgl
  go_wp2_with fail
  refine S.out.mono ?_
  rintro e w2 ⟨vs2, ys, rfl, hown, hhs, hperm, hwk, hgr⟩
  have hs2 := hgr.size
  have hyl : ys.length = xss.length := hperm.length_eq
  have HE := hid (srt_eq (srt_dd hperm hwk))
  have HD := hid (tot_srt (srt_dd hperm hwk))
  have T := hid (lib_compact g c (w.heap.size + 1) B vs2 ys w2 (by omega) (fun x hm => HX.out x (hperm.mem_iff.1 hm)) (by rw [hyl]; exact hown) hhs hBg (by omega))
  rw [hyl] at T
  replace K3 := hid (has2_grown K3.out hgr (fun e => by have := Option.some.inj e; omega))
  replace B3 := hid (B3.out.grown hgr (by omega) (fun k hk => by have := Option.some.inj hk; omega))
  clear hgr hown hhs hperm hwk S hyl
  go_wp2_with fail
  refine T.out.mono ?_
  rintro e w3 ⟨vs3, rfl, hown, hhs, hgr⟩
  obtain ⟨zs, hz⟩ : ∃ z, dd ys = z := ⟨_, rfl⟩
  rw [hz] at HE HD hown hhs
  have hs3 := hgr.size
  have htz : tot zs ≤ 1048576 := Nat.le_trans HD.out ht
  have hlz : zs.length ≤ 1048576 := len_le htz
  replace K3 := hid (has2_grown K3.out hgr (fun e => by have := Option.some.inj e; omega))
  replace B3 := hid (B3.out.grown hgr (by omega) (fun k hk => by have := Option.some.inj hk; omega))
  have HG := hid (hs_grd hown hhs (by omega))
  have HZZ := hid hz
  clear hgr hown hhs T
  rw [HZZ.out]
  clear hz
  replace K3 := hid (K3.out.alloc (.cells #[.int .i64 n, .slice (some ⟨g, 0, none⟩) zs.length c] 26))
  have K7 := hid (has2_new w3 (.int .i64 n) (.slice (some ⟨g, 0, none⟩) zs.length c) 26)
  replace B3 := hid (B3.out.alloc (by omega) (.cells #[.int .i64 n, .slice (some ⟨g, 0, none⟩) zs.length c] 26))
  have HG2 := hid (HG.out.alloc (Nat.le_refl _) (.cells #[.int .i64 n, .slice (some ⟨g, 0, none⟩) zs.length c] 26))
  have V := hid (impl_valid n (some ⟨g, 0, none⟩) zs.length c w3.heap.size zs _ rfl hlz (each_le htz) HG2.out (by rw [World.size_alloc]; omega))
  have hv2 : vrel n zs = ok := by rw [HE.out]; exact HO.out
  rw [hv2] at V
  clear hv2 HG
  go_wp2_with fail
  refine V.out.mono ?_
  rintro e w5 ⟨rfl, hb⟩
  have hs5 := hb.size
  simp only [World.size_alloc] at hs5
  replace K3 := hid (K3.out.below hb)
  replace K7 := hid (K7.out.below hb)
  have HG5 := hid (HG2.out.below (hb.mono (by rw [World.size_alloc]; omega)))
  replace B3 := hid (B3.out.trans (hb.mono B3.out.size))
  clear hb V HG2
  obtain ⟨d0, d1, z2, _, _⟩ := K7.out
  obtain ⟨e0, e1, z3, _, _⟩ := K3.out
  cases ok with
  | false =>
    obtain rfl : [] = zss := (new_no HO.out).1.symm.trans HZ.out
    obtain rfl : 0 = nn := (new_no HO.out).2.symm.trans HN.out
    have hset := has2_set (u := .int .i64 0) (v := .slice none 0 0) K3.out
    go_wp2
    exact bodyPost_ret (v := .tuple #[.agg #[.int .i64 0, .slice none 0 0], .bool false]) (by simp [results, Try.results26, go_sem, hset.1, hset.2.1]) rfl ⟨none, 0, [], rfl, GOwn.nil _ _ _ _, (B3.out.setCell (by simp) _).setCell (by simp) _⟩
  | true =>
    obtain rfl : zs = zss := (HE.out.trans (new_yes HO.out).1.symm).trans HZ.out
    obtain rfl : n = nn := (new_yes HO.out).2.symm.trans HN.out
    have D := hid (impl_clone n (some ⟨g, 0, none⟩) c w3.heap.size zs w5 htz HG5.out (by omega))
    go_wp2_with fail
    refine D.out.mono ?_
    rintro e w6 ⟨g6, vs6, rfl, hg6, hown, hb⟩
    have hs6 := hb.size
    replace K3 := hid (K3.out.below hb)
    replace B3 := hid (B3.out.trans (hb.mono B3.out.size))
    have HO6 := hid hown
    clear hb hown D d0 d1 z2 e0 e1 z3
    obtain ⟨e0, e1, z3, _, _⟩ := K3.out
    have hset := has2_set (u := .int .i64 n) (v := .slice (some ⟨g6, 0, none⟩) zs.length zs.length) K3.out
    go_wp2
    refine bodyPost_ret (v := .tuple #[.agg #[.int .i64 n, .slice (some ⟨g6, 0, none⟩) zs.length zs.length], .bool true]) (by simp [results, Try.results26, go_sem, hset.1, hset.2.1]) rfl ⟨some ⟨g6, 0, none⟩, zs.length, vs6, rfl, ?_, ?_⟩
    · exact gown_mono (gown_set (gown_set HO6.out (by omega) _) (by omega) _) (by omega)
    · exact (B3.out.setCell (by simp) _).setCell (by simp) _
end Go.Proofs.Ytikpgkholhokoaa.NewRI
