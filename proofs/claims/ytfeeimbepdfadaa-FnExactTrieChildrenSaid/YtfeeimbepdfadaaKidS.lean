/- The values behind a prefix, the model's (spec.TrieChildren). -/
import Derived.Test.YtfeeimbepdfadaaTriS
import Derived.Test.YtfeeimbepdfadaaKidP
namespace Go.Proofs.Ytfeeimbepdfadaa.KidS
open Go.RowKit
open Go.Proofs.Ytfeeimbepdfadaa.Num Go.Proofs.Ytfeeimbepdfadaa.IntRow Go.Proofs.Ytfeeimbepdfadaa.Vals Go.Proofs.Ytfeeimbepdfadaa.Grid Go.Proofs.Ytfeeimbepdfadaa.CmpL Go.Proofs.Ytfeeimbepdfadaa.Asc Go.Proofs.Ytfeeimbepdfadaa.IntLaw Go.Proofs.Ytfeeimbepdfadaa.GridMore Go.Proofs.Ytfeeimbepdfadaa.GridLaw Go.Proofs.Ytfeeimbepdfadaa.GridLaw2 Go.Proofs.Ytfeeimbepdfadaa.Keep Go.Proofs.Ytfeeimbepdfadaa.Kept Go.Proofs.Ytfeeimbepdfadaa.Cells Go.Proofs.Ytfeeimbepdfadaa.RelKit Go.Proofs.Ytfeeimbepdfadaa.GridCap Go.Proofs.Ytfeeimbepdfadaa.TriP Go.Proofs.Ytfeeimbepdfadaa.TriS Go.Proofs.Ytfeeimbepdfadaa.KidP
set_option linter.unusedVariables false

theorem push_nil (v : Int) : pushK [] v = [v] := rfl
theorem push_last {zs : List Int} {v : Int} (h : 0 < zs.length) (hv : zs[zs.length - 1] = v) : pushK zs v = zs := by
  unfold pushK
  rw [if_pos (by rw [List.getLast?_eq_getElem?, List.getElem?_eq_getElem (by omega), hv])]
theorem push_new {zs : List Int} {v : Int} (h : 0 < zs.length) (hv : ¬ zs[zs.length - 1] = v) : pushK zs v = zs ++ [v] := by
  unfold pushK
  rw [if_neg (by rw [List.getLast?_eq_getElem?, List.getElem?_eq_getElem (by omega)]; simpa using hv)]
theorem fold_step {xss : List (List Int)} {q lo k : Nat} (h : lo + k < xss.length) (hq : q < xss[lo + k].length) : (kvals xss q lo (k + 1)).foldl pushK [] = pushK ((kvals xss q lo k).foldl pushK []) xss[lo + k][q] := by
  rw [kvals_step h hq, foldK_append]
  rfl
theorem fold_len {xss : List (List Int)} {q lo k : Nat} (h : lo + k ≤ xss.length) : ((kvals xss q lo k).foldl pushK []).length ≤ xss.length := by
  have h1 := foldK_len (kvals xss q lo k) []
  have h2 := kvals_len (xss := xss) (q := q) (lo := lo) (k := k) h
  simp at h1
  omega
theorem own_empty' (w : World) (M : Nat) (e : TypeId) (hM : M ≤ w.heap.size) : Own (w.alloc (.cells #[] e)) M e (.slice (some ⟨w.heap.size, 0, none⟩) 0 0) [] :=
  World.ownsRow_made w #[] 0 hM (by decide) (by decide)

set_option maxRecDepth 100000 in
set_option maxHeartbeats 4000000 in
theorem spec_kid (n : Int) (a b : Option Addr) (cap capb B B' : Nat) (xss : List (List Int)) (p : List Int) (w : World) (hlen : xss.length ≤ 1048576) (hx : ∀ j (h : j < xss.length), xss[j].length ≤ 1048576) (hp : p.length ≤ 1048576) (h : GRc w B a xss) (h' : Rd w B' b p) (hB : B ≤ w.heap.size) (hB' : B' ≤ w.heap.size) :
    Calls Try.prog 38 #[.agg #[.int .i64 n, .slice a xss.length cap], .slice b p.length capb] w fun e w' => ∃ a' c', e = .returned (.slice a' (kids n xss p).length c') ∧ Own w' w.heap.size eI (.slice a' (kids n xss p).length c') (kids n xss p) ∧ Below w.heap.size w w' := by
  obtain ⟨zs, hzs⟩ : ∃ z, kids n xss p = z := ⟨_, rfl⟩
  rw [hzs]
  have HZ := hid hzs
  clear hzs
  have K1 := hid ((has2_new w (.int .i64 n) (.slice a xss.length cap) 30).alloc (.cells #[] 3))
  have B2 := hid (((Below.refl w.heap.size w).alloc (Nat.le_refl _) (.cells #[.int .i64 n, .slice a xss.length cap] 30)).alloc (by simp) (.cells #[] 3))
  have O0 := own_empty' (w.alloc (.cells #[.int .i64 n, .slice a xss.length cap] 30)) (w.heap.size + 1) 3 (by simp)
  simp only [World.size_alloc] at O0
  have O := hid O0
  clear O0
  have HG := hid h
  have HY := hid h'
  clear h h'
  have R := hid (spec_trg n a b cap capb B B' xss p _ hlen hx hp (HG.out.below (B2.out.mono hB)) (HY.out.below (B2.out.mono hB')) (by have := B2.out.size; omega) (by have := B2.out.size; omega))
  have h1 := rlo_rhi n xss p
  have h2 := rhi_le n xss p
  obtain ⟨lo, hlo⟩ : ∃ z, rlo n xss p = z := ⟨_, rfl⟩
  obtain ⟨hi, hhi⟩ : ∃ z, rhi n xss p = z := ⟨_, rfl⟩
  rw [hlo, hhi] at R h1
  rw [hhi] at h2
  have HLO := hid hlo
  have HHI := hid hhi
  have HX := hid hx
  clear hlo hhi hx
  have hs0 : ((w.alloc (.cells #[.int .i64 n, .slice a xss.length cap] 30)).alloc (.cells #[] 3)).heap.size = w.heap.size + 2 := by simp
  obtain ⟨M, hM⟩ : ∃ M, w.heap.size + 1 = M := ⟨_, rfl⟩
  rw [hM] at O
  have HMM := hid hM
  clear hM
  obtain ⟨c0, c1, z1, _, _⟩ := K1.out
  by_cases hn : (p.length : Int) < n
  · obtain ⟨m, hm⟩ : ∃ m, hi - lo = m := ⟨_, rfl⟩
    have HM := hid hm
    have hzz := kids_vals (n := n) (xss := xss) (p := p) hn
    rw [HLO.out, HHI.out, hm] at hzz
    have HZZ := hid (HZ.out.symm.trans hzz)
    have hrow := hid (fun (k : Nat) (hk : k < m) => show ∃ h : lo + k < xss.length, p.length < xss[lo + k].length by
      have hlk : lo + k < xss.length := by omega
      refine ⟨hlk, ?_⟩
      have hok : rgOk n xss p = true := by
        cases hr : rgOk n xss p with
        | true => rfl
        | false => have := (rg_no' hr).2; rw [HHI.out] at this; omega
      simp only [rgOk, Bool.and_eq_true] at hok
      obtain ⟨_, _, hr, _⟩ := vrel_parts hok.1
      have := (hr _ (List.getElem_mem hlk)).1
      omega)
    have HN := hid hn
    clear hm hzz hn
    obtain ⟨i0, hi0, hz0, hz1, hz2⟩ := info_parts IntLaw.info
    go_enter Try.func38, Try.ntmps38
    go_wp2_with fail
    with_reducible refine R.out.mono ?_
    rintro e w3 ⟨rfl, hb⟩
    have hs3 := hb.size
    rw [hs0] at hs3
    replace K1 := hid (K1.out.below hb)
    replace O := hid (O.out.below' hb)
    replace B2 := hid (B2.out.trans (hb.mono B2.out.size))
    clear hb c0 c1 z1 R hs0
    have CC := hid (And.intro K1.out.1 K1.out.2.1)
    have hs4 : M ≤ w3.heap.size := by have := HMM.out; omega
    clear K1 hs3
    go_wp2
    go_loopw [5, 8, 9] (fun v i _ wr => ∃ k : Nat, k ≤ m ∧ i = .int .i64 ((lo + k : Nat) : Int) ∧ Hid (Own wr M eI v ((kvals xss p.length lo k).foldl pushK [])) ∧ Hid (wr.cell? ⟨w.heap.size, 0, none⟩ = some (.int .i64 n) ∧ wr.cell? ⟨w.heap.size, 1, none⟩ = some (.slice a xss.length cap)) ∧ Hid (Below w.heap.size w wr) ∧ M ≤ wr.heap.size) (fun _ i _ _ => lo + m - (intOf i).toNat)
    case atStart => exact ⟨0, Nat.zero_le _, rfl, hid (by rw [kvals_zero]; have h := O.out; have e := HMM.out; subst e; exact h), CC, B2, hs4⟩
    case round =>
      obtain ⟨k, hk, rfl, hown, hcc, hb, hsz⟩ := hrel
      clear O CC B2 hs4
      have hlm : lo + m = hi := by have := HM.out; omega
      have hfl := fold_len (xss := xss) (q := p.length) (lo := lo) (k := k) (by omega)
      obtain ⟨cur, hcur⟩ : ∃ z, (kvals xss p.length lo k).foldl pushK [] = z := ⟨_, rfl⟩
      rw [hcur] at hown hfl
      have HCUR := hid hcur
      clear hcur
      obtain ⟨a5, cap5, rfl, hle5, _, hrd⟩ := hown.out.form
      have HRD := hid hrd
      have d0 := hcc.out.1
      have d1 := hcc.out.2
      clear hrd
      by_cases hlt : k < m
      · obtain ⟨hlk, hpl⟩ := hrow.out k hlt
        obtain ⟨b0, off, hab, hbB, hc⟩ := (HG.out.below (hb.out.mono hB)) (by omega)
        obtain ⟨aj, capj, g, _, r⟩ := hc (lo + k) hlk
        obtain ⟨br, offr, rfl, hbr, hcr⟩ := r (by omega)
        have gp := hcr p.length hpl
        rw [hab] at d1
        have hxl := HX.out (lo + k) hlk
        have hfs := fold_step hlk hpl
        rw [HCUR.out] at hfs
        have HFS := hid hfs
        obtain ⟨j, hj⟩ : ∃ j, lo + k = j := ⟨_, rfl⟩
        have HX5 := hid (fun (h1 : lo + k < xss.length) => show xss[lo + k].length ≤ 1048576 from hxl)
        obtain ⟨x5, hx5⟩ : ∃ x, xss[lo + k] = x := ⟨_, rfl⟩
        simp only [hx5] at g gp hpl hxl HFS
        rw [hj] at g
        have HLK := hid hlk
        rw [hj] at hlk
        have HJ := hid hj
        have hn := HN.out
        have hlt' : (j : Int) < (hi : Int) := by omega
        have h0' : (0 : Int) ≤ (j : Int) := by omega
        have hjx : (j : Int) < (xss.length : Int) := by omega
        have hp0 : (0 : Int) ≤ (p.length : Int) := by omega
        have hpl' : (p.length : Int) < (x5.length : Int) := by omega
        have hwj : IntKind.i64.wrap ((j : Int) + 1) = (j : Int) + 1 := IntWalk.i64_in _ (by omega)
        have hj1 : ((j : Int) + 1) = ((lo + (k + 1) : Nat) : Int) := by omega
        have HJ1 := hid hj1
        obtain ⟨vv, hvv⟩ : ∃ v, x5[p.length] = v := ⟨_, rfl⟩
        rw [hvv] at gp HFS
        clear hc hcr hfs hx5 hab hj hj1 hvv
        by_cases h50 : cur.length = 0
        · obtain rfl : cur = [] := List.eq_nil_of_length_eq_zero h50
          have hst := hid (HFS.out.trans (push_nil vv))
          have ht : (((([] : List Int).length : Nat) : Int) == 0) = true := rfl
          clear h50
          simp only [HJ.out]
          go_wp2_with (at_builtin; refine append_int rfl _ _ 27 rfl M 3 i0 Try.underlying27 hi0 hz0 hz1 hz2 wr wr _ [] vv hown.out (by rfl) (Below.refl _ _) hsz _ ?c1 (by rfl) (by simp) ?_)
          case c1 => rfl
          intro v1 w1 hown1 hbel1 hsz1 hgr
          (try rw [List.nil_append] at hown1)
          rw [← hst.out] at hown1
          have HO := hid hown1
          have HCC := hid (And.intro ((hbel1.cell (p := ⟨w.heap.size, 0, none⟩) (by have := HMM.out; show w.heap.size < M; omega)).trans hcc.out.1) ((hbel1.cell (p := ⟨w.heap.size, 1, none⟩) (by have := HMM.out; show w.heap.size < M; omega)).trans hcc.out.2))
          have HB := hid (hb.out.trans (hbel1.mono (by have := HMM.out; omega)))
          clear hown hcc hb hown1 hbel1 hgr d0 d1 g gp
          go_wp2
          go_roundw
          case rel => exact ⟨k + 1, by omega, by rw [← HJ1.out], HO, HCC, HB, hsz1⟩
          case measure => have := HJ.out; simp [intOf]; omega
        · have hl0 : 0 < cur.length := by omega
          obtain ⟨b5, off5, rfl, hb5, hc5⟩ := HRD.out hl0
          have g5 := hc5 (cur.length - 1) (by omega)
          obtain ⟨u, hu⟩ : ∃ u, cur[cur.length - 1] = u := ⟨_, rfl⟩
          rw [hu] at g5
          have HU := hid hu
          obtain ⟨L, hL⟩ : ∃ L, cur.length = L := ⟨_, rfl⟩
          have hl5 : 0 < L := by omega
          rw [hL] at g5
          have ht : ((L : Int) == 0) = false := by simp; omega
          clear h50
          have hw1 : IntKind.i64.wrap ((L : Int) - 1) = (L : Int) - 1 := IntWalk.i64_in _ (by omega)
          have hk1' : (0 : Int) ≤ (L : Int) - 1 := by omega
          have hk2' : (L : Int) - 1 < (L : Int) := by omega
          have et : ((L : Int) - 1).toNat = L - 1 := by omega
          have HLL := hid hL
          have hfl' : L ≤ 1048576 := by omega
          simp only [HJ.out]
          have hown' := hown.out
          by_cases hne : u = vv
          · have hst := hid (HFS.out.trans (push_last hl0 (HU.out.trans hne)))
            have htn : (u == vv) = true := by simp [hne]
            have htn2 : (u != vv) = false := by simp [hne]
            have HO := hid (show Own wr M eI (.slice (some ⟨b5, off5, none⟩) L cap5) ((kvals xss p.length lo (k + 1)).foldl pushK []) by rw [hst.out, ← HLL.out]; exact hown')
            clear hc5 hu hL hown' hne
            simp only [HLL.out]
            go_wp2
            go_roundw
            case rel => exact ⟨k + 1, by omega, by rw [← HJ1.out], HO, hcc, hb, hsz⟩
            case measure => have := HJ.out; simp [intOf]; omega
          · have hst := hid (HFS.out.trans (push_new hl0 (fun e => hne (HU.out.symm.trans e))))
            have htn : (u == vv) = false := by simp [hne]
            have htn2 : (u != vv) = true := by simp [hne]
            have HO5 := hid (show Own wr M eI (.slice (some ⟨b5, off5, none⟩) L cap5) cur by rw [← HLL.out]; exact hown')
            clear hc5 hu hL hown' hne
            simp only [HLL.out]
            go_wp2_with (at_builtin; refine append_int rfl _ _ 27 rfl M 3 i0 Try.underlying27 hi0 hz0 hz1 hz2 wr wr _ cur vv HO5.out (by rfl) (Below.refl _ _) hsz _ ?c1 (by rfl) (by have := HLL.out; omega) ?_)
            case c1 => rfl
            intro v1 w1 hown1 hbel1 hsz1 hgr
            rw [← hst.out] at hown1
            have HO := hid hown1
            have HCC := hid (And.intro ((hbel1.cell (p := ⟨w.heap.size, 0, none⟩) (by have := HMM.out; show w.heap.size < M; omega)).trans hcc.out.1) ((hbel1.cell (p := ⟨w.heap.size, 1, none⟩) (by have := HMM.out; show w.heap.size < M; omega)).trans hcc.out.2))
            have HB := hid (hb.out.trans (hbel1.mono (by have := HMM.out; omega)))
            clear hown hcc hb hown1 hbel1 hgr d0 d1 g gp g5
            go_wp2
            go_roundw
            case rel => exact ⟨k + 1, by omega, by rw [← HJ1.out], HO, HCC, HB, hsz1⟩
            case measure => have := HJ.out; simp [intOf]; omega
      · obtain rfl : k = m := by omega
        have hnlt : ¬ (((lo + k : Nat) : Int)) < (hi : Int) := by omega
        obtain ⟨j, hj⟩ : ∃ j, lo + k = j := ⟨_, rfl⟩
        simp only [hj] at hnlt ⊢
        have HE := hid (HCUR.out.symm.trans HZZ.out.symm)
        obtain rfl : cur = zs := HE.out
        go_wp2
        go_ret
        exact ⟨a5, cap5, rfl, hown.out.mono (by have := HMM.out; omega), hb.out⟩
  · have hk := kids_no (n := n) (xss := xss) (p := p) hn
    obtain rfl : [] = zs := hk.symm.trans HZ.out
    have HN := hid hn
    have eM := HMM.out
    subst eM
    clear hk hn
    go_enter Try.func38, Try.ntmps38
    go_wp2_with fail
    with_reducible refine R.out.mono ?_
    rintro e w3 ⟨rfl, hb⟩
    replace K1 := hid (K1.out.below hb)
    replace O := hid (O.out.below' hb)
    replace B2 := hid (B2.out.trans (hb.mono B2.out.size))
    clear hb c0 c1 z1 R hs0
    go_wp2
    go_loopw [5, 8, 9] (fun v i _ wr => v = .slice (some ⟨w.heap.size + 1, 0, none⟩) 0 0 ∧ i = .int .i64 (lo : Int) ∧ wr = w3) (fun _ _ _ _ => 0)
    case atStart => exact ⟨rfl, rfl, rfl⟩
    case round =>
      obtain ⟨rfl, rfl, rfl⟩ := hrel
      obtain ⟨c0, c1, z1, _, _⟩ := K1.out
      have hn : ¬ (p.length : Int) < n := by have := HN.out; omega
      have HO := hid (O.out.mono (show w.heap.size ≤ w.heap.size + 1 by omega))
      by_cases hlt : (lo : Int) < (hi : Int)
      · go_wp2
        go_ret
        exact ⟨_, _, rfl, HO.out, B2.out⟩
      · go_wp2
        go_ret
        exact ⟨_, _, rfl, HO.out, B2.out⟩
end Go.Proofs.Ytfeeimbepdfadaa.KidS
