/- The range of the rows with a prefix, the program's (impl.TriePrefixRange over sort.Search). -/
import Derived.Test.YtfeeimbepdfadaaTriV
import Derived.Test.YtfeeimbepdfadaaGridCap
import Derived.Test.YtfeeimbepdfadaaSrch
import Derived.Shelf.SlSorted.Search
import Derived.Deep.QuietTactic
namespace Go.Proofs.Ytfeeimbepdfadaa.TriI
open Go.RowKit Go.Sort
open Go.Proofs.Ytfeeimbepdfadaa.Num Go.Proofs.Ytfeeimbepdfadaa.IntRow Go.Proofs.Ytfeeimbepdfadaa.Vals Go.Proofs.Ytfeeimbepdfadaa.Grid Go.Proofs.Ytfeeimbepdfadaa.CmpL Go.Proofs.Ytfeeimbepdfadaa.RowCmp Go.Proofs.Ytfeeimbepdfadaa.RowCmpS Go.Proofs.Ytfeeimbepdfadaa.Asc Go.Proofs.Ytfeeimbepdfadaa.IntLaw Go.Proofs.Ytfeeimbepdfadaa.GridMore Go.Proofs.Ytfeeimbepdfadaa.GridLaw Go.Proofs.Ytfeeimbepdfadaa.GridLaw2 Go.Proofs.Ytfeeimbepdfadaa.Keep Go.Proofs.Ytfeeimbepdfadaa.Kept Go.Proofs.Ytfeeimbepdfadaa.Cells Go.Proofs.Ytfeeimbepdfadaa.RelKit Go.Proofs.Ytfeeimbepdfadaa.GridCap Go.Proofs.Ytfeeimbepdfadaa.RelValidS Go.Proofs.Ytfeeimbepdfadaa.RelValidI Go.Proofs.Ytfeeimbepdfadaa.TriP Go.Proofs.Ytfeeimbepdfadaa.TriV
set_option linter.unusedVariables false

theorem rd_take {w : World} {B : Nat} {a : Option Addr} {xs : List Int} (h : Rd w B a xs) (k : Nat) : Rd w B a (xs.take k) := fun hp => by
  have hp' : 0 < xs.length := by simp at hp; omega
  obtain ⟨b, off, e, hb, hc⟩ := h hp'
  refine ⟨b, off, e, hb, fun j hj => ?_⟩
  have hj' : j < xs.length := by simp at hj; omega
  rw [hc j hj', List.getElem_take]

set_option maxHeartbeats 1000000 in
/-- The inner closure: is row i, cut to the prefix's length, no less than the order asks? -/
theorem closure (bt bp bo : Nat) (n o : Int) (a b : Option Addr) (cap capb B B' : Nat) (xss : List (List Int)) (p : List Int) (i : Nat) (W : World) (hi : i < xss.length) (hlen : xss.length ≤ 1048576) (hp : p.length ≤ 1048576) (hx : ∀ j (h : j < xss.length), p.length ≤ xss[j].length ∧ xss[j].length ≤ 1048576)
    (ct : W.cell? ⟨bt, 1, none⟩ = some (.slice a xss.length cap)) (cp : W.cell? ⟨bp, 0, none⟩ = some (.slice b p.length capb)) (co : W.cell? ⟨bo, 0, none⟩ = some (.int .i64 o)) (h : GRc W B a xss) (h' : Rd W B' b p) :
    Calls Try.prog 75 (#[.int .i64 i] ++ #[.pointer (some ⟨bt, 0, none⟩), .pointer (some ⟨bp, 0, none⟩), .pointer (some ⟨bo, 0, none⟩)]) W fun e w' => e = .returned (.bool (decide (o ≤ pc p xss[i]))) ∧ ∃ q, w' = W.drewN q := by
  obtain ⟨b0, off, rfl, hbB, hc⟩ := h (by omega)
  obtain ⟨aj, capj, g, hcap, r⟩ := hc i hi
  obtain ⟨hpl, hxl⟩ := hx i hi
  have hiz : (i : Int) < (xss.length : Int) := by omega
  have hi0 : (0 : Int) ≤ (i : Int) := by omega
  have hl : (xss[i].take p.length).length = p.length := by simp; omega
  obtain ⟨c, hcc⟩ : ∃ c, pc p xss[i] = c := ⟨_, rfl⟩
  have C : Hid (∀ w, Below 0 W w → True) := fun _ _ => trivial
  have E := hid (fun (m : Nat) => show Calls Try.prog 76 #[.slice aj p.length capj, .slice b p.length capb] (W.drewN m) fun e w' => e = .returned (.int .i64 c) ∧ w' = W.drewN m by
    have := impl_cmp aj b capj capb B B' (xss[i].take p.length) p (W.drewN m) (by omega) hp (rd_take (show Rd (W.drewN m) B aj xss[i] from r) _) (show Rd (W.drewN m) B' b p from h')
    rw [hl, show cmpL (xss[i].take p.length) p = c from hcc] at this
    exact this.mono fun _ _ ⟨x, y⟩ => ⟨x, y.symm⟩)
  have hpc : (p.length : Int) ≤ (capj : Int) := by omega
  have hp0 : (0 : Int) ≤ (p.length : Int) := by omega
  rw [hcc]
  clear hcc hc r h h' C hx
  go_enter Try.func75, Try.ntmps75
  go_wp2_with fail
  go_quiet ((go_at_call 76; exact Calls.quiet_of_same (E.out _)))
  go_wp2
  go_ret
  exact ⟨rfl, _, rfl⟩

theorem drop_box {w : World} {v : Value} {t : TypeId} : (w.alloc (.cells #[v] t)).cell? ⟨w.heap.size, 0, none⟩ = some v := cell_new_sl w v t

set_option maxHeartbeats 2000000 in
/-- The outer closure: the first row that is no less than the order asks. -/
theorem firstRow (bt bp : Nat) (n o : Int) (a b : Option Addr) (cap capb B B' : Nat) (xss : List (List Int)) (p : List Int) (W : World) (hv : vrel n xss = true) (hpn : (p.length : Int) ≤ n) (hp : p.length ≤ 1048576)
    (ct : W.cell? ⟨bt, 1, none⟩ = some (.slice a xss.length cap)) (cp : W.cell? ⟨bp, 0, none⟩ = some (.slice b p.length capb)) (h : GRc W B a xss) (h' : Rd W B' b p) (hB : B ≤ W.heap.size) (hB' : B' ≤ W.heap.size) :
    Calls Try.prog 73 (#[.int .i64 o] ++ #[.pointer (some ⟨bt, 0, none⟩), .pointer (some ⟨bp, 0, none⟩)]) W fun e w' => e = .returned (.int .i64 (xss.countP (fun r => decide (pc p r < o)) : Nat)) ∧ Below W.heap.size W w' := by
  obtain ⟨hn05, hlen, hrow, hasc⟩ := vrel_parts hv
  obtain ⟨W1, hW1⟩ : ∃ W1, W1 = W.alloc (.cells #[.int .i64 o] 3) := ⟨_, rfl⟩
  have hb1 : Below W.heap.size W W1 := by rw [hW1]; exact (Below.refl _ W).alloc (Nat.le_refl _) _
  have hs1 : W1.heap.size = W.heap.size + 1 := by rw [hW1]; simp
  have ltt := World.block_lt_of_cell? _ _ ct
  have ltp := World.block_lt_of_cell? _ _ cp
  have ct1 : W1.cell? ⟨bt, 1, none⟩ = some (.slice a xss.length cap) := (hb1.cell (p := ⟨bt, 1, none⟩) ltt).trans ct
  have cp1 : W1.cell? ⟨bp, 0, none⟩ = some (.slice b p.length capb) := (hb1.cell (p := ⟨bp, 0, none⟩) ltp).trans cp
  have co1 : W1.cell? ⟨W.heap.size, 0, none⟩ = some (.int .i64 o) := by rw [hW1]; exact drop_box
  have eg : ∀ args w, (callFunc 75 args).run Try.prog w = .ok (.enter 75 args) w := enters_of Try.func75 (by kernel_rfl) rfl
  have hS := Any.sort_Search Try.search 75 #[.pointer (some ⟨bt, 0, none⟩), .pointer (some ⟨bp, 0, none⟩), .pointer (some ⟨W.heap.size, 0, none⟩)] xss.length (fun i => decide (o ≤ pc p (xss[i]?.getD []))) W1 eg (by omega)
    (fun m os i hi => by
      have hbg : Below W1.heap.size W1 (grow (W1.drewN m) os) := below_grown_sl _ W1 m os (Nat.le_refl _)
      have := closure bt bp W.heap.size n o a b cap capb B B' xss p i (grow (W1.drewN m) os) hi (by omega) hp (fun j hj => by have := (hrow _ (List.getElem_mem hj)).1; omega)
        ((hbg.cell (p := ⟨bt, 1, none⟩) (by show bt < _; simp at ltt; omega)).trans ct1) ((hbg.cell (p := ⟨bp, 0, none⟩) (by show bp < _; simp at ltp; omega)).trans cp1) ((hbg.cell (p := ⟨W.heap.size, 0, none⟩) (by show W.heap.size < _; omega)).trans co1)
        ((h.below (hb1.mono hB)).below (hbg.mono (by omega))) ((h'.below (hb1.mono hB')).below (hbg.mono (by omega)))
      rw [List.getElem?_eq_getElem hi]
      exact this.mono fun _ _ ⟨he, q, hq⟩ => ⟨he, q, #[], by rw [hq, grow_empty]⟩)
    (fun i j hij hj hi => by
      rw [List.getElem?_eq_getElem hj]
      rw [List.getElem?_eq_getElem (by omega)] at hi
      have := pc_mono hasc p (i := i) (j := j) (by omega) hj hij
      simp only [Option.getD_some, decide_eq_true_eq] at hi ⊢
      omega)
  rw [cnt_range (fun i => !decide (o ≤ pc p (xss[i]?.getD []))) (fun r => decide (pc p r < o)) xss (fun i hi => by rw [List.getElem?_eq_getElem hi]; by_cases hc : o ≤ pc p xss[i] <;> simp [hc]; omega)] at hS
  change Calls Try.prog 74 _ _ _ at hS
  generalize xss.countP (fun r => decide (pc p r < o)) = r at hS ⊢
  have HS := hid hS
  have HB := hid hb1
  have H1 := hid hW1
  clear hS hb1 hW1 h h' ct1 cp1 co1 eg hrow hasc
  go_enter Try.func73, Try.ntmps73
  go_wp2_with fail
  rw [← H1.out]
  with_reducible refine HS.out.mono ?_
  rintro e w' ⟨rfl, q, os, rfl⟩
  have HB2 := hid (HB.out.trans (below_grown_sl W.heap.size W1 q os (by omega)))
  go_wp2
  go_ret
  exact ⟨rfl, HB2.out⟩

theorem rg_no {n : Int} {xss : List (List Int)} {p : List Int} (h : rgOk n xss p = false) : rlo n xss p = 0 ∧ rhi n xss p = 0 := by simp [rlo, rhi, h]
theorem rg_yes {n : Int} {xss : List (List Int)} {p : List Int} (h : rgOk n xss p = true) : rlo n xss p = lowN xss p ∧ rhi n xss p = highN xss p := by simp [rlo, rhi, h]

set_option maxRecDepth 100000 in
set_option maxHeartbeats 4000000 in
theorem impl_trg (n : Int) (a b : Option Addr) (cap capb B B' : Nat) (xss : List (List Int)) (p : List Int) (w : World) (hlen : xss.length ≤ 1048576) (hx : ∀ j (h : j < xss.length), xss[j].length ≤ 1048576) (hp : p.length ≤ 1048576) (h : GRc w B a xss) (h' : Rd w B' b p) (hB : B ≤ w.heap.size) (hB' : B' ≤ w.heap.size) :
    Calls Try.prog 42 #[.agg #[.int .i64 n, .slice a xss.length cap], .slice b p.length capb] w fun e w' => e = .returned (.tuple #[.int .i64 (rlo n xss p : Nat), .int .i64 (rhi n xss p : Nat)]) ∧ Below w.heap.size w w' := by
  obtain ⟨lo, hlo⟩ : ∃ z, rlo n xss p = z := ⟨_, rfl⟩
  obtain ⟨hi, hhi⟩ : ∃ z, rhi n xss p = z := ⟨_, rfl⟩
  rw [hlo, hhi]
  have HLO := hid hlo
  have HHI := hid hhi
  clear hlo hhi
  have K1 := hid ((has2_new w (.int .i64 n) (.slice a xss.length cap) 30).alloc (.cells #[.slice b p.length capb] 27))
  have cb := cell_new_sl (w.alloc (.cells #[.int .i64 n, .slice a xss.length cap] 30)) (.slice b p.length capb) 27
  simp only [World.size_alloc] at cb
  have CB := hid cb
  clear cb
  have B2 := hid (((Below.refl w.heap.size w).alloc (Nat.le_refl _) (.cells #[.int .i64 n, .slice a xss.length cap] 30)).alloc (by simp) (.cells #[.slice b p.length capb] 27))
  have HG := hid h
  have HY := hid h'
  clear h h'
  have V := hid (impl_vtr n a xss.length cap B xss _ rfl hlen hx (HG.out.rd.below (B2.out.mono hB)) (by have := B2.out.size; omega))
  have hs0 : ((w.alloc (.cells #[.int .i64 n, .slice a xss.length cap] 30)).alloc (.cells #[.slice b p.length capb] 27)).heap.size = w.heap.size + 2 := by simp
  obtain ⟨v, hv⟩ : ∃ v, vrel n xss = v := ⟨_, rfl⟩
  rw [hv] at V
  have HV := hid hv
  clear hv hx
  obtain ⟨c0, c1, z1, _, _⟩ := K1.out
  go_enter Try.func42, Try.ntmps42
  go_wp2_with fail
  with_reducible refine V.out.mono ?_
  rintro e w3 ⟨rfl, hb⟩
  have hs3 := hb.size
  rw [hs0] at hs3
  replace K1 := hid (K1.out.below hb)
  replace CB := hid ((hb.cell (p := ⟨w.heap.size + 1, 0, none⟩) (by rw [hs0]; show w.heap.size + 1 < _; omega)).trans CB.out)
  replace B2 := hid (B2.out.trans (hb.mono B2.out.size))
  clear hb c0 c1 z1 V hs0
  obtain ⟨c0, c1, z1, _, _⟩ := K1.out
  have cb := CB.out
  cases v with
  | false =>
    have h0 := rg_no (n := n) (xss := xss) (p := p) (by simp [rgOk, HV.out])
    obtain rfl : 0 = lo := h0.1.symm.trans HLO.out
    obtain rfl : 0 = hi := h0.2.symm.trans HHI.out
    clear h0
    go_wp2
    go_ret2
    exact ⟨rfl, B2.out⟩
  | true =>
    by_cases hpn : (p.length : Int) ≤ n
    · have h0 := rg_yes (n := n) (xss := xss) (p := p) (by simp [rgOk, HV.out, hpn])
      have HL1 := hid (h0.1.symm.trans HLO.out)
      have HL2 := hid (h0.2.symm.trans HHI.out)
      clear h0
      have ht : ¬ (n < (p.length : Int)) := by omega
      have F0 := hid (firstRow w.heap.size (w.heap.size + 1) n 0 a b cap capb B B' xss p w3 HV.out hpn hp c1 cb (HG.out.below (B2.out.mono hB)) (HY.out.below (B2.out.mono hB')) (by omega) (by omega))
      rw [show xss.countP (fun r => decide (pc p r < 0)) = lo from HL1.out] at F0
      change Calls Try.prog 73 #[.int .i64 0, .pointer (some ⟨w.heap.size, 0, none⟩), .pointer (some ⟨w.heap.size + 1, 0, none⟩)] _ _ at F0
      go_wp2_with fail
      refine Calls.mono F0 ?_
      rintro e w4 ⟨rfl, hb⟩
      have hs4 := hb.size
      have F1 := hid (firstRow w.heap.size (w.heap.size + 1) n 1 a b cap capb B B' xss p w4 HV.out hpn hp ((hb.cell (p := ⟨w.heap.size, 1, none⟩) (by show w.heap.size < _; omega)).trans c1) ((hb.cell (p := ⟨w.heap.size + 1, 0, none⟩) (by show w.heap.size + 1 < _; omega)).trans cb) ((HG.out.below (B2.out.mono hB)).below (hb.mono (by omega))) ((HY.out.below (B2.out.mono hB')).below (hb.mono (by omega))) (by omega) (by omega))
      rw [show xss.countP (fun r => decide (pc p r < 1)) = hi from HL2.out] at F1
      change Calls Try.prog 73 #[.int .i64 1, .pointer (some ⟨w.heap.size, 0, none⟩), .pointer (some ⟨w.heap.size + 1, 0, none⟩)] _ _ at F1
      replace B2 := hid (B2.out.trans (hb.mono (by omega)))
      clear hb F0 c0 c1 z1 cb
      go_wp2_with fail
      refine Calls.mono F1 ?_
      rintro e w5 ⟨rfl, hb⟩
      replace B2 := hid (B2.out.trans (hb.mono (by omega)))
      clear hb F1
      go_wp2
      go_ret2
      exact ⟨rfl, B2.out⟩
    · have h0 := rg_no (n := n) (xss := xss) (p := p) (by simp [rgOk, hpn])
      obtain rfl : 0 = lo := h0.1.symm.trans HLO.out
      obtain rfl : 0 = hi := h0.2.symm.trans HHI.out
      clear h0
      have ht : n < (p.length : Int) := by omega
      go_wp2
      go_ret2
      exact ⟨rfl, B2.out⟩
end Go.Proofs.Ytfeeimbepdfadaa.TriI
