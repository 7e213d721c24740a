/- The values behind a prefix, the program's (impl.TrieChildren over slices.Compact). -/
import Derived.Test.YtfeeimbepdfadaaTriI
import Derived.Test.YtfeeimbepdfadaaKidP
import Derived.Test.YtfeeimbepdfadaaCmpct
import Derived.Shelf.SlicesG.CompactI
import Derived.Lib.SlKeysI
namespace Go.Proofs.Ytfeeimbepdfadaa.KidI
open Go.RowKit Go.Sort
open Go.Proofs.Ytfeeimbepdfadaa.Num Go.Proofs.Ytfeeimbepdfadaa.IntRow Go.Proofs.Ytfeeimbepdfadaa.Vals Go.Proofs.Ytfeeimbepdfadaa.Grid Go.Proofs.Ytfeeimbepdfadaa.CmpL Go.Proofs.Ytfeeimbepdfadaa.Asc Go.Proofs.Ytfeeimbepdfadaa.IntLaw Go.Proofs.Ytfeeimbepdfadaa.GridMore Go.Proofs.Ytfeeimbepdfadaa.GridLaw Go.Proofs.Ytfeeimbepdfadaa.GridLaw2 Go.Proofs.Ytfeeimbepdfadaa.Keep Go.Proofs.Ytfeeimbepdfadaa.Kept Go.Proofs.Ytfeeimbepdfadaa.Cells Go.Proofs.Ytfeeimbepdfadaa.RelKit Go.Proofs.Ytfeeimbepdfadaa.GridCap Go.Proofs.Ytfeeimbepdfadaa.TriP Go.Proofs.Ytfeeimbepdfadaa.TriI Go.Proofs.Ytfeeimbepdfadaa.KidP
set_option linter.unusedVariables false

theorem own_cut {w : World} {lo g cap : Nat} {xs ys : List Int} {e : TypeId} (h : Own w lo e (.slice (some ⟨g, 0, none⟩) (xs ++ ys).length cap) (xs ++ ys)) : Own w lo e (.slice (some ⟨g, 0, none⟩) xs.length cap) xs := by
  rcases h.2 with ⟨e, _⟩ | ⟨g', c, cur, e, hb, hg, hn, hc, hs, ht⟩
  · cases e
  · injection e with e1 e2 e3
    injection e1 with e1
    injection e1 with e1
    subst e1 e3
    refine ⟨by simp [ic], .inr ⟨g, cap, cur, rfl, hb, hg, by simp at hn; omega, hc, hs, ?_⟩⟩
    have h2 : (cur.toList.take ((xs ++ ys).length * 1)).take (xs.length * 1) = (ic (xs ++ ys)).take (xs.length * 1) := by rw [ht]
    rw [List.take_take, Nat.min_eq_left (by simp)] at h2
    rw [h2, ic_append, List.take_append_of_le_length (by simp [ic])]
    exact List.take_of_length_le (by simp [ic])

set_option maxHeartbeats 1000000 in
theorem lib_compact (lo : Nat) (v : Value) (zs : List Int) (w : World) (h : Own w lo eI v zs) (hz : zs.length ≤ 1048576) :
    Calls Try.prog 63 #[v] w fun e w' => ∃ a c, e = .returned (.slice a (Lib.compact zs).length c) ∧ Own w' lo eI (.slice a (Lib.compact zs).length c) (Lib.compact zs) ∧ w.grownBy w' v.ownBlock := by
  rcases h.2 with ⟨rfl, h0⟩ | ⟨g, cap, cur, rfl, hb, hg, hn, hc, hs, ht⟩
  · obtain rfl : zs = [] := List.eq_nil_of_length_eq_zero h0
    have := AnyG.slices_Compact_int_empty Try.compactF none 0 w
    change Calls Try.prog 63 _ _ _ at this
    refine this.mono ?_
    rintro e w' ⟨rfl, rfl⟩
    exact ⟨none, 0, rfl, Own.nil _ _ _, World.grownBy.refl _ _⟩
  · have hH : Holds (Value.int .i64) w g 0 zs.toArray := holds_of_block_i hg (by simpa [ic] using ht)
    have := AnyG.slices_Compact_int Try.compactF g 0 cap zs w hH (by omega) hn
    change Calls Try.prog 63 _ _ _ at this
    refine this.mono ?_
    rintro e w' ⟨rfl, q, rfl⟩
    have hle := compact_le zs
    have hg0 : putRow (Value.int .i64) (Sort.ahead w q) g 0 (Lib.compact zs ++ List.replicate (zs.length - (Lib.compact zs).length) 0).toArray = grow (putRow encZ (Sort.ahead w q) g 0 (Lib.compact zs ++ List.replicate (zs.length - (Lib.compact zs).length) 0).toArray) #[] := (grow_empty _).symm
    rw [hg0]
    refine ⟨_, _, rfl, ?_, grownBy_sorted_i _⟩
    refine own_cut (ys := List.replicate (zs.length - (Lib.compact zs).length) 0) ?_
    have hl : (Lib.compact zs ++ List.replicate (zs.length - (Lib.compact zs).length) (0 : Int)).length = zs.length := by simp; omega
    unfold Own
    rw [hl]
    exact ownsRow_sorted_i hl hb hg hn hc hs

section
variable {P : Program}
theorem run_part {t e : TypeId} {i : TypeInfo} (ht : P.underlying t = some (.slice e)) (hi : P.info? e = some i) (hsize : i.size = 1) (a : Option Addr) (n cap p q : Nat) (hp : p ≤ q) (hq : q ≤ cap) :
    ∀ W : World, (Instr.sliceAt t (.slice a n cap) (some (.int .i64 (p : Int))) (some (.int .i64 (q : Int))) none).run P W = .ok (.slice (if cap = p then a else a.map (·.add p)) (q - p) (cap - p)) W := fun W => by
  have he : P.elem t = e := by simp [Program.elem, ht]
  rw [run_sliceAt_slice (h := by rw [he]; exact ht), run_slice_lh (ht := by rw [he]; exact ht) (h0 := by omega) (h1 := by omega) (h2 := by omega)]
  simp [he, sizeOf, typeInfo, hi, hsize, sliced]
end

set_option maxRecDepth 100000 in
set_option maxHeartbeats 4000000 in
theorem impl_kid (n : Int) (a b : Option Addr) (cap capb B B' : Nat) (xss : List (List Int)) (p : List Int) (w : World) (hlen : xss.length ≤ 1048576) (hx : ∀ j (h : j < xss.length), xss[j].length ≤ 1048576) (hp : p.length ≤ 1048576) (hcap : xss.length ≤ cap) (h : GRc w B a xss) (h' : Rd w B' b p) (hB : B ≤ w.heap.size) (hB' : B' ≤ w.heap.size) :
    Calls Try.prog 19 #[.agg #[.int .i64 n, .slice a xss.length cap], .slice b p.length capb] w fun e w' => ∃ a' c', e = .returned (.slice a' (kids n xss p).length c') ∧ Own w' w.heap.size eI (.slice a' (kids n xss p).length c') (kids n xss p) ∧ Below w.heap.size w w' := by
  obtain ⟨zs, hzs⟩ : ∃ z, kids n xss p = z := ⟨_, rfl⟩
  rw [hzs]
  have HZ := hid hzs
  clear hzs
  have K1 := hid (has2_new w (.int .i64 n) (.slice a xss.length cap) 30)
  have B2 := hid ((Below.refl w.heap.size w).alloc (Nat.le_refl _) (.cells #[.int .i64 n, .slice a xss.length cap] 30))
  have HG := hid h
  have HY := hid h'
  clear h h'
  have R := hid (impl_trg n a b cap capb B B' xss p _ hlen hx hp (HG.out.below (B2.out.mono hB)) (HY.out.below (B2.out.mono hB')) (by have := B2.out.size; omega) (by have := B2.out.size; omega))
  have h1 := rlo_rhi n xss p
  have h2 := rhi_le n xss p
  obtain ⟨lo, hlo⟩ : ∃ z, rlo n xss p = z := ⟨_, rfl⟩
  obtain ⟨hi, hhi⟩ : ∃ z, rhi n xss p = z := ⟨_, rfl⟩
  rw [hlo, hhi] at R h1
  rw [hhi] at h2
  have HLO := hid hlo
  have HHI := hid hhi
  have HX := hid hx
  clear hlo hhi hx
  obtain ⟨c0, c1, z1, _, _⟩ := K1.out
  by_cases hn : (p.length : Int) < n
  · obtain ⟨i1, hi1, hj0, hj1, hj2⟩ := info_parts GridLaw.info
    have hrun := run_part (P := Try.prog) Try.underlying24 hi1 hj1 a xss.length cap lo hi h1 (by omega)
    obtain ⟨q, hq⟩ : ∃ q, (if cap = lo then a else a.map (·.add lo)) = q := ⟨_, rfl⟩
    obtain ⟨c2, hc2⟩ : ∃ c, cap - lo = c := ⟨_, rfl⟩
    obtain ⟨m, hm⟩ : ∃ m, hi - lo = m := ⟨_, rfl⟩
    rw [hq, hc2, hm] at hrun
    have HQ := hid hq
    have HM := hid hm
    have hzz := kids_vals (n := n) (xss := xss) (p := p) hn
    rw [HLO.out, HHI.out, hm] at hzz
    have HZZ := hid (HZ.out.symm.trans hzz)
    have hrow := hid (fun (k : Nat) (hk : k < m) => show ∃ h : lo + k < xss.length, p.length < xss[lo + k].length by
      have hlk : lo + k < xss.length := by omega
      refine ⟨hlk, ?_⟩
      have hok : rgOk n xss p = true := by
        cases hr : rgOk n xss p with
        | true => rfl
        | false => have := (rg_no hr).2; rw [HHI.out] at this; omega
      simp only [rgOk, Bool.and_eq_true] at hok
      obtain ⟨_, _, hr, _⟩ := vrel_parts hok.1
      have := (hr _ (List.getElem_mem hlk)).1
      omega)
    have hnge : ¬ n ≤ (p.length : Int) := by omega
    clear hq hm hc2 hzz
    obtain ⟨i0, hi0, hz0, hz1, hz2⟩ := info_parts IntLaw.info
    go_enter Try.func19, Try.ntmps19
    go_wp2_with fail
    with_reducible refine R.out.mono ?_
    rintro e w3 ⟨rfl, hb⟩
    replace K1 := hid (K1.out.below hb)
    replace B2 := hid (B2.out.trans (hb.mono B2.out.size))
    clear hb c0 c1 z1 R
    obtain ⟨c0, c1, z1, _, _⟩ := K1.out
    have hs3 := B2.out.size
    go_wp2
    clear c0 c1 z1 hrun hn hnge
    go_loopw [7, 9, 27] (fun v _ i wr => ∃ k : Nat, k ≤ m ∧ i = .int .i64 k ∧ Hid (Own wr w.heap.size eI v (kvals xss p.length lo k)) ∧ Hid (Below w.heap.size w wr) ∧ w.heap.size ≤ wr.heap.size) (fun _ _ i _ => m - (intOf i).toNat)
    case atStart => exact ⟨0, Nat.zero_le _, rfl, hid (by rw [kvals_zero]; exact Own.nil _ _ _), B2, hs3⟩
    case round =>
      obtain ⟨k, hk, rfl, hown, hb, hsz⟩ := hrel
      clear K1 B2
      have hkl := kvals_len (xss := xss) (q := p.length) (lo := lo) (k := k) (by have := HM.out; omega)
      by_cases hlt : k < m
      · obtain ⟨hlk, hpl⟩ := hrow.out k hlt
        obtain ⟨b0, off, hab, hbB, hc⟩ := (HG.out.below (hb.out.mono hB)) (by omega)
        obtain ⟨aj, capj, g, _, r⟩ := hc (lo + k) hlk
        obtain ⟨br, offr, rfl, hbr, hcr⟩ := r (by omega)
        have gp := hcr p.length hpl
        have hqe : q = some ⟨b0, off + lo, none⟩ := by
          rw [← HQ.out, hab, if_neg (by have := HM.out; omega)]
          simp [Addr.add_lit]
        subst hqe
        clear hab
        rw [← Nat.add_assoc] at g
        have hst := hid (kvals_step hlk hpl)
        have hxl := HX.out (lo + k) hlk
        have hlt' : (k : Int) < (m : Int) := by omega
        have h0' : (0 : Int) ≤ (k : Int) := by omega
        have hp0 : (0 : Int) ≤ (p.length : Int) := by omega
        have hpl' : (p.length : Int) < (xss[lo + k].length : Int) := by omega
        have hlm : m ≤ xss.length := by have := HM.out; omega
        clear hc hcr
        go_wp2_with (at_builtin; refine append_int rfl _ _ 27 rfl w.heap.size 3 i0 Try.underlying27 hi0 hz0 hz1 hz2 w wr _ (kvals xss p.length lo k) (xss[lo + k][p.length]) hown.out (by rfl) hb.out hsz _ ?c1 (by rfl) (by omega) ?_)
        case c1 => rfl
        intro v1 w1 hown1 hbel1 hsz1 hgr
        rw [← hst.out] at hown1
        have HO := hid hown1
        have HB := hid hbel1
        clear hown hb hown1 hbel1 hgr
        go_wp2
        go_roundw
        case rel => exact ⟨k + 1, by omega, by go_num, HO, HB, hsz1⟩
        case measure => simp [intOf]; omega
      · obtain rfl : k = m := by omega
        have hnlt : ¬ (k : Int) < (k : Int) := by omega
        have C := hid (lib_compact w.heap.size _ _ wr hown.out (by have := HM.out; omega))
        rw [compact_fold, ← HZZ.out] at C
        go_wp2_with fail
        with_reducible refine C.out.mono ?_
        rintro e w5 ⟨a5, c5, rfl, hown5, hgr⟩
        have HB5 := hid (hb.out.grown hgr hsz (fun j hj => (hown.out.lt j hj).1))
        have HO5 := hid hown5
        clear hown5 hgr C
        go_wp2
        go_ret
        exact ⟨a5, c5, rfl, HO5.out, HB5.out⟩
  · have hk := kids_no (n := n) (xss := xss) (p := p) hn
    obtain rfl : [] = zs := hk.symm.trans HZ.out
    have hge : n ≤ (p.length : Int) := by omega
    clear hk
    go_enter Try.func19, Try.ntmps19
    go_wp2
    go_ret
    exact ⟨none, 0, rfl, Own.nil _ _ _, B2.out⟩
end Go.Proofs.Ytfeeimbepdfadaa.KidI
