/- Iterators of tries, the program's: the key of a level, the search in it, its range, its validity; the iterator's validity. -/
import Derived.Test.YtliomgoakiidfaaItLaw
import Derived.Test.YtliomgoakiidfaaItP
import Derived.Test.YtliomgoakiidfaaTriV
import Derived.Test.YtliomgoakiidfaaSrch
import Derived.Deep.QuietTactic
import Derived.Deep.RegionHeld3
import Derived.Deep.DeepCutAuto
import Derived.Lib.SliceRun
namespace Go.Proofs.Ytliomgoakiidfaa.ItI
open Go.RowKit Go.Sort
open Go.Proofs.Ytliomgoakiidfaa.Num Go.Proofs.Ytliomgoakiidfaa.IntRow Go.Proofs.Ytliomgoakiidfaa.Vals Go.Proofs.Ytliomgoakiidfaa.Grid Go.Proofs.Ytliomgoakiidfaa.CmpL Go.Proofs.Ytliomgoakiidfaa.RowCmp Go.Proofs.Ytliomgoakiidfaa.RowCmpS Go.Proofs.Ytliomgoakiidfaa.Asc Go.Proofs.Ytliomgoakiidfaa.IntLaw Go.Proofs.Ytliomgoakiidfaa.GridMore Go.Proofs.Ytliomgoakiidfaa.GridLaw Go.Proofs.Ytliomgoakiidfaa.GridLaw2 Go.Proofs.Ytliomgoakiidfaa.Keep Go.Proofs.Ytliomgoakiidfaa.Kept Go.Proofs.Ytliomgoakiidfaa.Cells Go.Proofs.Ytliomgoakiidfaa.RelKit Go.Proofs.Ytliomgoakiidfaa.HasL Go.Proofs.Ytliomgoakiidfaa.ItLaw Go.Proofs.Ytliomgoakiidfaa.ItP Go.Proofs.Ytliomgoakiidfaa.TriV
set_option linter.unusedVariables false
set_option linter.unusedSimpArgs false

section
variable {P : Program}
theorem run_part {t e : TypeId} {i : TypeInfo} (ht : P.underlying t = some (.slice e)) (hi : P.info? e = some i) (hsize : i.size = 1) (a : Option Addr) (n cap p q : Nat) (hp : p ≤ q) (hq : q ≤ cap) :
    ∀ W : World, (Instr.sliceAt t (.slice a n cap) (some (.int .i64 (p : Int))) (some (.int .i64 (q : Int))) none).run P W = .ok (.slice (if cap = p then a else a.map (·.add p)) (q - p) (cap - p)) W := fun W => by
  have he : P.elem t = e := by simp [Program.elem, ht]
  rw [run_sliceAt_slice (h := by rw [he]; exact ht), run_slice_lh (ht := by rw [he]; exact ht) (h0 := by omega) (h1 := by omega) (h2 := by omega)]
  simp [he, sizeOf, typeInfo, hi, hsize, sliced]
end
theorem bel_drewN {n : Nat} {w w' : World} (h : Below n w w') (hn : n ≤ w'.heap.size) (q : Nat) : Below n w (w'.drewN q) := h.trans (by have := below_grown_sl n w' q #[] hn; rwa [grow_empty] at this)
theorem grd_part {w : World} {B cap : Nat} {a : Option Addr} {xss : List (List Int)} (h : GRd w B a xss) (s m : Nat) (hsm : s + m ≤ xss.length) (hcap : xss.length ≤ cap) : GRd w B (if cap = s then a else a.map (·.add s)) ((xss.drop s).take m) := fun h0 => by
  have hl : ((xss.drop s).take m).length = m := by simp; omega
  obtain ⟨b, off, rfl, hb, hc⟩ := h (by omega)
  rw [if_neg (by omega)]
  refine ⟨b, off + s, by simp [Addr.add_lit], hb, fun j hj => ?_⟩
  obtain ⟨aj, capj, h1, h2⟩ := hc (s + j) (by omega)
  refine ⟨aj, capj, ?_, ?_⟩
  · rw [Nat.add_assoc, h1, List.getElem_take, List.getElem_drop]
  · rw [List.getElem_take, List.getElem_drop]
    exact h2

set_option maxHeartbeats 1000000 in
theorem impl_key (n : Int) (a l h p : Option Addr) (cap capl caph capp : Nat) (xss : List (List Int)) (L H P : List Int) (B : Nat) (k pp : Nat) (w : World) (hs : szI xss L H P ≤ 1048576) (r : ItRd w B a l h p cap capl caph capp xss L H P) (hB : B ≤ w.heap.size) (hk : k < P.length) (hp : at0 P k = (pp : Int)) (hpl : pp < xss.length) (hkr : k < xss[pp].length) :
    Calls Try.prog 69 #[.agg #[.int .i64 n, .slice a xss.length cap, .slice l L.length capl, .slice h H.length caph, .slice p P.length capp], .int .i64 (k : Int)] w fun e w' => e = .returned (.int .i64 (key xss k pp)) ∧ Below w.heap.size w w' := by
  obtain ⟨n1, nl, nx, n3, n4, n5, _, _⟩ := szI_parts hs
  have BB := hid ((Below.refl w.heap.size w).alloc (Nat.le_refl _) (.cells #[.int .i64 n, .slice a xss.length cap, .slice l L.length capl, .slice h H.length caph, .slice p P.length capp] 29))
  have K0 := hid (hasl_new w [.int .i64 n, .slice a xss.length cap, .slice l L.length capl, .slice h H.length caph, .slice p P.length capp] 29)
  have R := r.below (BB.out.mono hB)
  obtain ⟨b0, off, rfl, hb0, hc⟩ := R.t (by omega)
  obtain ⟨aj, capj, g, ro⟩ := hc pp hpl
  obtain ⟨br, offr, rfl, hbr, hcr⟩ := ro (by omega)
  have gp := hcr k hkr
  obtain ⟨bp, offp, rfl, hbp, hcp⟩ := R.p (by omega)
  have gk := hcp k hk
  rw [← at0_get hk, hp] at gk
  rw [key_at hpl hkr]
  have hxl := nx pp hpl
  obtain ⟨x, hx⟩ : ∃ x, xss[pp][k] = x := ⟨_, rfl⟩
  rw [hx] at gp ⊢
  obtain ⟨m, hm⟩ : ∃ m, xss[pp].length = m := ⟨_, rfl⟩
  rw [hm] at g hkr hxl
  have h1 : (k : Int) < (P.length : Int) := by omega
  have h2 : (pp : Int) < (xss.length : Int) := by omega
  have h3 : (k : Int) < (m : Int) := by omega
  have h4 : (0 : Int) ≤ (k : Int) := by omega
  have h5 : (0 : Int) ≤ (pp : Int) := by omega
  obtain ⟨c0, c1, c2, c3, c4, _, _, _, _, _, _⟩ := five K0.out
  clear hx hm hc hcr hcp ro R r hs nx hp
  go_enter Try.func69, Try.ntmps69
  go_wp2_with fail
  go_quiet (fail)
  go_wp2
  go_ret
  exact ⟨rfl, bel_drewN BB.out (by simp) _⟩

set_option maxHeartbeats 1000000 in
theorem seek_closure (bs bl bv k : Nat) (v : Int) (a : Option Addr) (cap B : Nat) (yss : List (List Int)) (i : Nat) (W : World) (hi : i < yss.length) (hlen : yss.length ≤ 1048576) (hk : ∀ j (h : j < yss.length), k < yss[j].length ∧ yss[j].length ≤ 1048576)
    (ct : W.cell? ⟨bs, 0, none⟩ = some (.slice a yss.length cap)) (cl : W.cell? ⟨bl, 0, none⟩ = some (.int .i64 (k : Int))) (cv : W.cell? ⟨bv, 0, none⟩ = some (.int .i64 v)) (h : GRd W B a yss) :
    Calls Try.prog 90 (#[.int .i64 i] ++ #[.pointer (some ⟨bs, 0, none⟩), .pointer (some ⟨bl, 0, none⟩), .pointer (some ⟨bv, 0, none⟩)]) W fun e w' => e = .returned (.bool (decide (v ≤ key yss k i))) ∧ ∃ q, w' = W.drewN q := by
  obtain ⟨b0, off, rfl, hbB, hc⟩ := h (by omega)
  obtain ⟨aj, capj, g, ro⟩ := hc i hi
  obtain ⟨hki, hxl⟩ := hk i hi
  obtain ⟨br, offr, rfl, hbr, hcr⟩ := ro (by omega)
  have gp := hcr k hki
  rw [key_at hi hki]
  obtain ⟨x, hx⟩ : ∃ x, yss[i][k] = x := ⟨_, rfl⟩
  rw [hx] at gp ⊢
  obtain ⟨m, hm⟩ : ∃ m, yss[i].length = m := ⟨_, rfl⟩
  rw [hm] at g hki hxl
  have h2 : (i : Int) < (yss.length : Int) := by omega
  have h3 : (k : Int) < (m : Int) := by omega
  have h4 : (0 : Int) ≤ (k : Int) := by omega
  have h5 : (0 : Int) ≤ (i : Int) := by omega
  clear hx hm hc hcr ro hk
  go_enter Try.func90, Try.ntmps90
  go_wp2_with fail
  go_quiet (fail)
  go_wp2
  go_ret
  exact ⟨rfl, _, rfl⟩

theorem key_part {xss : List (List Int)} {s m k i : Nat} (hi : i < m) : key ((xss.drop s).take m) k i = key xss k (s + i) := by
  unfold key
  rw [List.getElem?_take, if_pos hi, List.getElem?_drop]

set_option maxRecDepth 100000 in
set_option maxHeartbeats 2000000 in
theorem impl_seek (n : Int) (a l h p : Option Addr) (cap capl caph capp : Nat) (xss : List (List Int)) (L H P : List Int) (B : Nat) (k s e : Nat) (v : Int) (w : World) (hs : szI xss L H P ≤ 1048576) (r : ItRd w B a l h p cap capl caph capp xss L H P) (hB : B ≤ w.heap.size) (hkH : k < H.length) (he : at0 H k = (e : Int)) (hse : s ≤ e) (hel : e ≤ xss.length) (hk : ∀ j (h : j < xss.length), k < xss[j].length) (hm : Mono xss k s e) :
    Calls Try.prog 71 #[.agg #[.int .i64 n, .slice a xss.length cap, .slice l L.length capl, .slice h H.length caph, .slice p P.length capp], .int .i64 (k : Int), .int .i64 (s : Int), .int .i64 v] w fun e' w' => e' = .returned (.int .i64 (sr xss k s e v : Nat)) ∧ Below w.heap.size w w' := by
  obtain ⟨n1, nl, nx, n3, n4, n5, _, _⟩ := szI_parts hs
  have hcap := r.ct
  obtain ⟨i1, hi1, hj0, hj1, hj2⟩ := info_parts GridLaw.info
  have hrun := run_part (P := Try.prog) Try.underlying24 hi1 hj1 a xss.length cap s e hse (by omega)
  have hpart := grd_part r.t s (e - s) (by omega) hcap
  have hpl : ((xss.drop s).take (e - s)).length = e - s := by simp; omega
  obtain ⟨q, hq⟩ : ∃ q, (if cap = s then a else a.map (·.add s)) = q := ⟨_, rfl⟩
  obtain ⟨c2, hc2⟩ : ∃ c, cap - s = c := ⟨_, rfl⟩
  obtain ⟨m, hmm⟩ : ∃ m, e - s = m := ⟨_, rfl⟩
  obtain ⟨yss, hy⟩ : ∃ y, (xss.drop s).take (e - s) = y := ⟨_, rfl⟩
  rw [hq, hc2, hmm] at hrun
  rw [hy, hq] at hpart
  rw [hy, hmm] at hpl
  -- the boxes
  obtain ⟨W1, hW1⟩ : ∃ W1, W1 = ((((w.alloc (.cells #[.int .i64 n, .slice a xss.length cap, .slice l L.length capl, .slice h H.length caph, .slice p P.length capp] 29)).alloc (.cells #[.int .i64 (k : Int)] 3)).alloc (.cells #[.int .i64 v] 3)).alloc (.cells #[.slice q m c2] 24)).drew := ⟨_, rfl⟩
  have hb1 : Below w.heap.size w W1 := by rw [hW1]; exact (((((Below.refl _ w).alloc (Nat.le_refl _) _).alloc (by simp) _).alloc (by simp; omega) _).alloc (by simp; omega) _).drew
  have hs1 : W1.heap.size = w.heap.size + 4 := by rw [hW1]; show (World.alloc _ _).heap.size = _; simp
  have cl1 : W1.cell? ⟨w.heap.size + 1, 0, none⟩ = some (.int .i64 (k : Int)) := by
    rw [hW1]
    have := cell_new_sl (w.alloc (.cells #[.int .i64 n, .slice a xss.length cap, .slice l L.length capl, .slice h H.length caph, .slice p P.length capp] 29)) (.int .i64 (k : Int)) 3
    simp only [World.size_alloc] at this
    exact cell_drew (cell_alloc_sl _ (cell_alloc_sl _ this))
  have cv1 : W1.cell? ⟨w.heap.size + 2, 0, none⟩ = some (.int .i64 v) := by
    rw [hW1]
    have := cell_new_sl ((w.alloc (.cells #[.int .i64 n, .slice a xss.length cap, .slice l L.length capl, .slice h H.length caph, .slice p P.length capp] 29)).alloc (.cells #[.int .i64 (k : Int)] 3)) (.int .i64 v) 3
    simp only [World.size_alloc] at this
    exact cell_drew (cell_alloc_sl _ this)
  have cs1 : W1.cell? ⟨w.heap.size + 3, 0, none⟩ = some (.slice q m c2) := by
    rw [hW1]
    have := cell_new_sl (((w.alloc (.cells #[.int .i64 n, .slice a xss.length cap, .slice l L.length capl, .slice h H.length caph, .slice p P.length capp] 29)).alloc (.cells #[.int .i64 (k : Int)] 3)).alloc (.cells #[.int .i64 v] 3)) (.slice q m c2) 24
    simp only [World.size_alloc] at this
    exact cell_drew (this)
  have eg : ∀ args w, (callFunc 90 args).run Try.prog w = .ok (.enter 90 args) w := enters_of Try.func90 (by kernel_rfl) rfl
  have hS := Any.sort_Search Try.search 90 #[.pointer (some ⟨w.heap.size + 3, 0, none⟩), .pointer (some ⟨w.heap.size + 1, 0, none⟩), .pointer (some ⟨w.heap.size + 2, 0, none⟩)] m (fun i => decide (v ≤ key xss k (s + i))) W1 eg (by omega)
    (fun mm os i hi => by
      have hbg : Below W1.heap.size W1 (grow (W1.drewN mm) os) := below_grown_sl _ W1 mm os (Nat.le_refl _)
      have hyl : ∀ j (hj : j < yss.length), k < yss[j].length ∧ yss[j].length ≤ 1048576 := fun j hj => by
        subst hy
        rw [List.getElem_take, List.getElem_drop]
        exact ⟨hk _ _, nx _ _⟩
      have := seek_closure (w.heap.size + 3) (w.heap.size + 1) (w.heap.size + 2) k v q c2 B yss i (grow (W1.drewN mm) os) (by omega) (by omega) hyl
        (by rw [hpl]; exact (hbg.cell (p := ⟨w.heap.size + 3, 0, none⟩) (by show w.heap.size + 3 < _; omega)).trans cs1) ((hbg.cell (p := ⟨w.heap.size + 1, 0, none⟩) (by show w.heap.size + 1 < _; omega)).trans cl1) ((hbg.cell (p := ⟨w.heap.size + 2, 0, none⟩) (by show w.heap.size + 2 < _; omega)).trans cv1)
        ((hpart.below (hb1.mono hB)).below (hbg.mono (by omega)))
      rw [← hy, key_part (by omega)] at this
      exact this.mono fun _ _ ⟨he, q, hq⟩ => ⟨he, q, #[], by rw [hq, grow_empty]⟩)
    (fun i j hij hj hi => by
      simp only [decide_eq_true_eq] at hi ⊢
      have := hm (s + i) (s + j) (by omega) (by omega) (by omega)
      omega)
  have hsr := (sr_le xss k s e v hse)
  have hdef : sr xss k s e v = s + (List.range m).countP (fun i => !decide (v ≤ key xss k (s + i))) := by rw [← hmm]; rfl
  obtain ⟨c, hc⟩ : ∃ c, (List.range m).countP (fun i => !decide (v ≤ key xss k (s + i))) = c := ⟨_, rfl⟩
  rw [hc] at hS hdef
  rw [hdef] at hsr ⊢
  change Calls Try.prog 89 _ _ _ at hS
  have HS := hid hS
  have HB := hid hb1
  have H1 := hid hW1
  have CS := hid cs1
  have hsz1 := hs1
  have BB := hid ((Below.refl w.heap.size w).alloc (Nat.le_refl _) (.cells #[.int .i64 n, .slice a xss.length cap, .slice l L.length capl, .slice h H.length caph, .slice p P.length capp] 29))
  have K0 := hid (((hasl_new w [.int .i64 n, .slice a xss.length cap, .slice l L.length capl, .slice h H.length caph, .slice p P.length capp] 29).alloc (.cells #[.int .i64 (k : Int)] 3)).alloc (.cells #[.int .i64 v] 3))
  have cl0 : (((w.alloc (.cells #[.int .i64 n, .slice a xss.length cap, .slice l L.length capl, .slice h H.length caph, .slice p P.length capp] 29)).alloc (.cells #[.int .i64 (k : Int)] 3)).alloc (.cells #[.int .i64 v] 3)).cell? ⟨w.heap.size + 1, 0, none⟩ = some (.int .i64 (k : Int)) := by
    have := cell_new_sl (w.alloc (.cells #[.int .i64 n, .slice a xss.length cap, .slice l L.length capl, .slice h H.length caph, .slice p P.length capp] 29)) (.int .i64 (k : Int)) 3
    simp only [World.size_alloc] at this
    exact cell_alloc_sl _ this
  obtain ⟨bh, offh, rfl, hbh, hch⟩ := (r.h.below (w' := ((w.alloc (.cells #[.int .i64 n, .slice a xss.length cap, .slice l L.length capl, .slice h H.length caph, .slice p P.length capp] 29)).alloc (.cells #[.int .i64 (k : Int)] 3)).alloc (.cells #[.int .i64 v] 3)) ((((Below.refl B w).alloc hB _).alloc (by simp; omega) _).alloc (by simp; omega) _)) (by omega)
  have gh := hch k hkH
  rw [← at0_get hkH, he] at gh
  have h1 : (k : Int) < (H.length : Int) := by omega
  have h4 : (0 : Int) ≤ (k : Int) := by omega
  have h6 : (s : Int) ≤ (e : Int) := by omega
  have h7 : (e : Int) ≤ (cap : Int) := by omega
  have h8 : (0 : Int) ≤ (s : Int) := by omega
  have hw : IntKind.i64.wrap ((s : Int) + (c : Int)) = ((s + c : Nat) : Int) := by rw [IntWalk.i64_in _ (by omega)]; omega
  obtain ⟨c0, c1, c2', c3, c4, _, _, _, _, _, z0⟩ := five K0.out
  have zB : B ≤ w.heap.size := hB
  clear hS hb1 hW1 hch r hpart cl1 cv1 cs1 eg hm hk nx hy hq hc2 hmm hc hdef he hs K0
  go_enter Try.func71, Try.ntmps71
  obtain ⟨w0, hw0⟩ : ∃ w0, w0 = (((w.alloc (.cells #[.int .i64 n, .slice a xss.length cap, .slice l L.length capl, .slice (some ⟨bh, offh, none⟩) H.length caph, .slice p P.length capp] 29)).alloc (.cells #[.int .i64 (k : Int)] 3)).alloc (.cells #[.int .i64 v] 3)) := ⟨_, rfl⟩
  rw [← hw0] at c1 c3 cl0 gh z0 H1
  have hz0 : w0.heap.size = w.heap.size + 3 := by rw [hw0]; simp
  have HW0 := hid hw0
  go_wp2_with fail
  rw [← HW0.out]
  have zb : bh < w0.heap.size := by omega
  clear hw0 c0 c2' c4
  have gh2 := (World.cell?_alloc_lt w0 (.cells #[.slice none 0 0] 24) ⟨bh, offh + k, none⟩ zb).trans gh
  go_region
  all_goals
    rw [← H1.out]
    clear gh gh2 c1 c3 cl0
    have cs1 := CS.out
    go_wp2_with fail
    with_reducible refine HS.out.mono ?_
    rintro e w' ⟨rfl, q', os, rfl⟩
    have HB2 := hid (HB.out.trans (below_grown_sl w.heap.size W1 q' os (by omega)))
    go_wp2
    go_ret
    exact ⟨rfl, HB2.out⟩
end Go.Proofs.Ytliomgoakiidfaa.ItI
