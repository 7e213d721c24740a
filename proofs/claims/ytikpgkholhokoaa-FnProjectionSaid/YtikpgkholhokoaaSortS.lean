/- The model's sort without repetition (spec.l5Sort). -/
import Derived.Test.YtikpgkholhokoaaHds
import Derived.Test.YtikpgkholhokoaaMrg
import Derived.Test.YtikpgkholhokoaaRowCmpS
import Derived.Deep.RegionHeld3
import Derived.Deep.DeepCutAuto
namespace Go.Proofs.Ytikpgkholhokoaa.SortS
open Go.RowKit
open Go.Proofs.Ytikpgkholhokoaa.Num Go.Proofs.Ytikpgkholhokoaa.IntRow Go.Proofs.Ytikpgkholhokoaa.IntLaw Go.Proofs.Ytikpgkholhokoaa.Grid Go.Proofs.Ytikpgkholhokoaa.GridMore Go.Proofs.Ytikpgkholhokoaa.GridLaw Go.Proofs.Ytikpgkholhokoaa.GridLaw2 Go.Proofs.Ytikpgkholhokoaa.Keep Go.Proofs.Ytikpgkholhokoaa.Kept Go.Proofs.Ytikpgkholhokoaa.Cells Go.Proofs.Ytikpgkholhokoaa.RelKit Go.Proofs.Ytikpgkholhokoaa.GridApp Go.Proofs.Ytikpgkholhokoaa.GridAny Go.Proofs.Ytikpgkholhokoaa.Hds Go.Proofs.Ytikpgkholhokoaa.Mrg Go.Proofs.Ytikpgkholhokoaa.CmpL Go.Proofs.Ytikpgkholhokoaa.RowCmpS
set_option linter.unusedVariables false

def slen : Value → Nat
  | .slice _ n _ => n
  | _ => 0
theorem split0 (l : List (List Int)) (h : 0 < l.length) : l = l[0] :: l.drop 1 := by
  cases l with
  | nil => simp at h
  | cons x l => rfl
theorem takeA_only {A B out ps qs pt : List (List Int)} {x : List Int} (h : Mg A B out ps qs) (h1 : 0 < ps.length) (hx : ps[0] = x) (hp : ps.drop 1 = pt) (h2 : ¬ 0 < qs.length) : Mg A B (pushD out x) pt qs := by
  have e := split0 ps h1
  rw [hx, hp] at e
  obtain rfl : qs = [] := List.eq_nil_of_length_eq_zero (by omega)
  rw [e] at h
  exact h.takeA (by simp)
theorem takeA_cmp {A B out ps qs pt : List (List Int)} {x y : List Int} (h : Mg A B out ps qs) (h1 : 0 < ps.length) (hx : ps[0] = x) (hp : ps.drop 1 = pt) (h2 : 0 < qs.length) (hy : qs[0] = y) (hc : cmpL x y ≤ 0) : Mg A B (pushD out x) pt qs := by
  have e := split0 ps h1
  rw [hx, hp] at e
  rw [e] at h
  refine h.takeA ?_
  have e2 := split0 qs h2
  rw [hy] at e2
  rw [e2]
  exact le_all (e2 ▸ h.b) hc
theorem takeB_only {A B out ps qs qt : List (List Int)} {y : List Int} (h : Mg A B out ps qs) (h2 : 0 < qs.length) (hy : qs[0] = y) (hq : qs.drop 1 = qt) (h1 : ¬ 0 < ps.length) : Mg A B (pushD out y) ps qt := (takeA_only h.swap h2 hy hq h1).swap
theorem takeB_cmp {A B out ps qs qt : List (List Int)} {x y : List Int} (h : Mg A B out ps qs) (h1 : 0 < ps.length) (hx : ps[0] = x) (h2 : 0 < qs.length) (hy : qs[0] = y) (hq : qs.drop 1 = qt) (hc : ¬ cmpL x y ≤ 0) : Mg A B (pushD out y) ps qt :=
  (takeA_cmp h.swap h2 hy hq h1 hx (Int.le_of_lt (cmpL_le_total x y hc))).swap
theorem same_at {out : List (List Int)} {x : List Int} (l : Nat) (hl : l + 1 = out.length) (hc : cmpL (out[l]'(by omega)) x = 0) : pushD out x = out :=
  pushD_same (by omega) (by
    have e : out.length - 1 = l := by omega
    simp only [e]
    exact hc)
theorem new_at {out : List (List Int)} {x : List Int} (l : Nat) (hl : l + 1 = out.length) (hc : cmpL (out[l]'(by omega)) x ≠ 0) : pushD out x = out ++ [x] :=
  pushD_new (by omega) (by
    have e : out.length - 1 = l := by omega
    simp only [e]
    exact hc)
theorem OneH (w : World) (u : Value) (h1 : u.oneCell' = true) : Srcs (w.alloc (.cells #[u] eR)) (some ⟨w.heap.size, 0, none⟩) 1 [u] :=
  srcs_own (⟨rfl, .inr ⟨w.heap.size, 1, #[u], rfl, Nat.le_refl _, Go.heap_alloc_new _ _, Nat.le_refl _, by unfold maxLen; omega, rfl, rfl⟩⟩ : (w.alloc (.cells #[u] eR)).ownsRow w.heap.size eR 1 (.slice (some ⟨w.heap.size, 0, none⟩) 1 1) 1 [u]) (by simpa using h1)
theorem zeroH (w : World) : (w.alloc (.cells #[] eR)).ownsRow w.heap.size eR 1 (.slice (some ⟨w.heap.size, 0, none⟩) 0 0) 0 [] :=
  World.ownsRow_made (size := 1) (e := eR) (base := w.heap.size) w #[] 0 (Nat.le_refl _) (Nat.zero_le _) rfl
theorem own_keeps {w w' : World} {lo n : Nat} {v : Value} {vs : List Value} (h : w.ownsRow lo eR 1 v n vs) (hb : Below w.heap.size w w') : w'.ownsRow lo eR 1 v n vs := by
  refine ⟨h.1, ?_⟩
  rcases h.2 with hn | ⟨g, cap, cur, rfl, hg, hh, r⟩
  · exact .inl hn
  · refine .inr ⟨g, cap, cur, rfl, hg, ?_, r⟩
    have hgs : g < w.heap.size := by
      rcases Nat.lt_or_ge g w.heap.size with h1 | h1
      · exact h1
      · simp [Array.getElem?_eq_none h1] at hh
    rw [hb.block g hgs]
    exact hh
theorem below_grown {B : Nat} {a w w' : World} {v : Value} {lo n : Nat} {vs : List Value} (h : Below B a w) (hg : w.grownBy w' v.ownBlock) (ho : w.ownsRow lo eR 1 v n vs) (hB : B ≤ w.heap.size) (hlo : B ≤ lo) : Below B a w' :=
  h.grown hg hB (fun k hk => by have := (World.ownsRow.lt ho k hk).1; omega)
theorem form_row {w : World} {lo n : Nat} {v : Value} {vs : List Value} (h : w.ownsRow lo eR 1 v n vs) : ∃ a cap, v = .slice a n cap ∧ n ≤ cap := by
  rcases h.2 with ⟨rfl, h0⟩ | ⟨g, cc, cur, rfl, _, _, hn, _⟩
  · exact ⟨none, 0, by rw [h0], by omega⟩
  · exact ⟨_, _, rfl, hn⟩
theorem at_row {w : World} {lo n cap : Nat} {a : Option Addr} {vs : List Value} (h : w.ownsRow lo eR 1 (.slice a n cap) n vs) (hp : 0 < n) : ∃ g, a = some ⟨g, 0, none⟩ ∧ g < w.heap.size ∧ ∀ (j : Nat) (u : Value), vs[j]? = some u → w.cell? ⟨g, j, none⟩ = some u := by
  rcases h.2 with ⟨_, h0⟩ | ⟨g, c, cur, e, hb, hg, _⟩
  · omega
  · injection e with e _ _
    subst e
    have hgs : g < w.heap.size := by
      rcases Nat.lt_or_ge g w.heap.size with h1 | h1
      · exact h1
      · simp [Array.getElem?_eq_none h1] at hg
    refine ⟨g, rfl, hgs, fun j u hu => ?_⟩
    have hj : j < n := by have h1 := h.1; have h2 := (List.getElem?_eq_some_iff.1 hu).1; omega
    have hc : w.cell? ⟨g, j, none⟩ = vs[j]? := h.cellAt j (by rw [Nat.mul_one]; exact hj)
    exact hc.trans hu
theorem cmp_c (c : Int) (a1 a2 : Option Addr) (cap1 cap2 B1 B2 : Nat) (xs ys : List Int) (w : World) (hc : cmpL xs ys = c) (hn1 : xs.length ≤ 1048576) (hn2 : ys.length ≤ 1048576) (h1 : Rd w B1 a1 xs) (h2 : Rd w B2 a2 ys) (hB1 : B1 ≤ w.heap.size) (hB2 : B2 ≤ w.heap.size) :
    Calls Try.prog 31 #[.slice a1 xs.length cap1, .slice a2 ys.length cap2] w fun e w' => e = .returned (.int .i64 c) ∧ Below w.heap.size w w' := hc ▸ spec_cmp a1 a2 cap1 cap2 B1 B2 xs ys w hn1 hn2 h1 h2 hB1 hB2
set_option maxRecDepth 100000 in
set_option maxHeartbeats 8000000 in
theorem spec_sort (N : Nat) : ∀ (xss : List (List Int)) (a : Option Addr) (cap B : Nat) (w : World), xss.length ≤ N → xss.length ≤ 1048576 → (∀ x ∈ xss, x.length ≤ 1048576) → xss.length ≤ cap → GRd w B a xss → B ≤ w.heap.size →
    Calls Try.prog 49 #[.slice a xss.length cap] w fun e w' => ∃ a' cap' ys, e = .returned (.slice a' ys.length cap') ∧ ys.length ≤ cap' ∧ Srt xss ys ∧ GRd w' w'.heap.size a' ys ∧ Below w.heap.size w w' := by
  induction N with
  | zero =>
    intro xss a cap B w hN hlen hx hcap h hB
    have h2 : (xss.length : Int) < 2 := by omega
    have HS := hid (Srt.short (xss := xss) (by omega))
    have HG := hid (h.mono hB)
    clear h hx
    go_enter Try.func49, Try.ntmps49
    go_wp2_with fail
    go_ret
    exact ⟨a, cap, xss, rfl, hcap, HS.out, HG.out, Below.refl _ _⟩
  | succ N ih =>
    intro xss a cap B w hN hlen hx hcap h hB
    by_cases h2 : (xss.length : Int) < 2
    · have HS := hid (Srt.short (xss := xss) (by omega))
      have HG := hid (h.mono hB)
      clear h hx ih
      go_enter Try.func49, Try.ntmps49
      go_wp2_with fail
      go_ret
      exact ⟨a, cap, xss, rfl, hcap, HS.out, HG.out, Below.refl _ _⟩
    · obtain ⟨i1, hj, hy0, hy1, hy2⟩ := info_parts GridLaw.info
      obtain ⟨m, hm⟩ : ∃ m, m = xss.length / 2 := ⟨_, rfl⟩
      have hm0 : 1 ≤ m := by omega
      have hm1 : m < xss.length := by omega
      have e1 : (xss.length : Int) / 2 = (m : Int) := by omega
      have e2 : (xss.length : Int).tdiv 2 = (m : Int) := by rw [Int.tdiv_eq_ediv_of_nonneg (by omega)]; exact e1
      have hmi0 : (0 : Int) ≤ (m : Int) := by omega
      have hmi1 : (m : Int) ≤ (xss.length : Int) := by omega
      have hmi2 : (m : Int) ≤ (cap : Int) := by omega
      obtain ⟨q, c, SF, hqc, HQ0⟩ := from_of (P := Try.prog) h Try.underlying24 hj hy1 m (by omega) hcap
      have SU := run_upto (P := Try.prog) Try.underlying24 hj hy1 a xss.length cap m (by omega)
      have HT0 := grd_take h m
      obtain ⟨Y1, hY1⟩ : ∃ l, xss.take m = l := ⟨_, rfl⟩
      obtain ⟨Y2, hY2⟩ : ∃ l, xss.drop m = l := ⟨_, rfl⟩
      have l1 : Y1.length = m := by rw [← hY1]; simp; omega
      have l2 : Y2.length + m = xss.length := by rw [← hY2]; simp; omega
      have hx1 : ∀ x ∈ Y1, x.length ≤ 1048576 := fun x hm => hx x (List.mem_of_mem_take (by rw [hY1]; exact hm))
      have hx2 : ∀ x ∈ Y2, x.length ≤ 1048576 := fun x hm => hx x (List.mem_of_mem_drop (by rw [hY2]; exact hm))
      rw [hY1] at HT0
      rw [hY2] at SF hqc HQ0
      have IH1 := hid (by
        have := ih Y1 a cap B w (by omega) (by omega) hx1 (by omega) HT0 hB
        rw [l1] at this
        exact this)
      have HQ := hid HQ0
      have IH2 := hid (fun (W : World) (hW : Below w.heap.size w W) => ih Y2 q c B W (by omega) (by omega) hx2 hqc (HQ.out.below (hW.mono hB)) (by have := hW.size; omega))
      have HX1 := hid hx1
      have HX2 := hid hx2
      have hY := hid (show ∀ A Bl out, Srt Y1 A → Srt Y2 Bl → Mg A Bl out [] [] → Srt xss out from fun A Bl out h1 h2 h3 => Srt.merged (m := m) (by rw [hY1]; exact h1) (by rw [hY2]; exact h2) h3)
      have hl1 : Y1.length ≤ 1048576 := by omega
      have hl2 : Y2.length ≤ 1048576 := by omega
      have hlt : Y1.length + Y2.length ≤ 1048576 := by omega
      clear h hx hx1 hx2 HQ0 HT0 hY1 hY2 hm l1 l2
      go_enter Try.func49, Try.ntmps49
      go_wp2_with fail
      refine IH1.out.mono ?_
      rintro e w1 ⟨a1, c1, A, rfl, hc1, hA, hg1, hb1⟩
      have HA := hid hA
      have HG1 := hid hg1
      have HB1 := hid hb1
      have hs1 := hb1.size
      clear hA hg1 hb1 IH1
      go_wp2_with fail
      refine (IH2.out w1 HB1.out).mono ?_
      rintro e w2 ⟨a2, c2, Bl, rfl, hc2, hB2, hg2, hb2⟩
      have HBl := hid hB2
      have HG2 := hid hg2
      have HB2 := hid (HB1.out.trans (hb2.mono hs1))
      have HG1' := hid ((HG1.out.below hb2).mono hb2.size)
      have hs2 := HB2.out.size
      have hAl := HA.out.len
      have hBl := HBl.out.len
      have HXA := hid (fun x (hm : x ∈ A) => HX1.out x ((HA.out.mem x).1 hm))
      have HXB := hid (fun x (hm : x ∈ Bl) => HX2.out x ((HBl.out.mem x).1 hm))
      clear hB2 hg2 hb2 IH2 SU SF HG1 HX1 HX2 HQ ih
      go_wp2_with fail
      go_loopw [4, 5, 6, 7, 8] (fun sa sb so _ _ wr => ∃ (ps qs out : List (List Int)) (aa ab : Option Addr) (ca cb : Nat) (vo : Value) (vs : List Value), sa = .slice aa ps.length ca ∧ sb = .slice ab qs.length cb ∧ vo = so ∧ ps.length ≤ ca ∧ qs.length ≤ cb ∧ Hid (GRd wr w2.heap.size aa ps) ∧ Hid (GRd wr w2.heap.size ab qs) ∧ Hid (wr.ownsRow w2.heap.size eR 1 vo out.length vs) ∧ Hid (Hs wr w2.heap.size vs out) ∧ Hid (Mg A Bl out ps qs) ∧ Hid (Below w2.heap.size w2 wr)) (fun sa sb _ _ _ _ => slen sa + slen sb)
      case atStart => exact ⟨A, Bl, [], a1, a2, c1, c2, _, [], rfl, rfl, rfl, hc1, hc2, hid (HG1'.out.alloc (Nat.le_refl _) _), hid (HG2.out.alloc (Nat.le_refl _) _), hid (zeroH w2), hid (Hs.nil _ _), hid (Mg.start HA.out.asc HBl.out.asc), hid ((Below.refl _ _).alloc (Nat.le_refl _) _)⟩
      case round =>
        obtain ⟨ps, qs, out, aa, ab, ca, cb, vo, vs, rfl, rfl, rfl, hca, hcb, g1, g2, ho, hs, hm, hb⟩ := hrel
        obtain ⟨ao, co, rfl, hco⟩ := form_row ho.out
        have hsz := hb.out.size
        have hml := hm.out.len
        have hxp := hid (fun x (h : x ∈ ps) => show x.length ≤ 1048576 from ((hm.out.mem x).1 (.inr (.inl h))).elim (HXA.out x) (HXB.out x))
        have hxq := hid (fun x (h : x ∈ qs) => show x.length ≤ 1048576 from ((hm.out.mem x).1 (.inr (.inr h))).elim (HXA.out x) (HXB.out x))
        have hxo := hid (fun x (h : x ∈ out) => show x.length ≤ 1048576 from ((hm.out.mem x).1 (.inl h)).elim (HXA.out x) (HXB.out x))
        by_cases h1 : 0 < ps.length
        · have t1 : (0 : Int) < (ps.length : Int) := by omega
          obtain ⟨rp, dp, SFp, hdp, hrp⟩ := from_of (P := Try.prog) g1.out Try.underlying24 hj hy1 1 (by omega) hca
          obtain ⟨pt, hpt⟩ : ∃ l, ps.drop 1 = l := ⟨_, rfl⟩
          have hlp : pt.length + 1 = ps.length := by rw [← hpt]; simp; omega
          have hlpa : pt.length < ps.length := by omega
          rw [hpt] at SFp hdp hrp
          have HRp := hid hrp
          replace SFp : ∀ W : World, (Instr.sliceAt 24 (.slice aa ps.length ca) (some (.int .i64 1)) none none).run Try.prog W = .ok (.slice rp pt.length dp) W := SFp
          obtain ⟨b1, o1, ea1, hb1, hc1⟩ := g1.out h1
          subst ea1
          obtain ⟨z1, y1, k1, rx1⟩ := hc1 0 h1
          obtain ⟨x, hx⟩ : ∃ x, ps[0] = x := ⟨_, rfl⟩
          rw [hx] at k1 rx1
          rw [Nat.add_zero] at k1
          have n1 : x.length ≤ 1048576 := by rw [← hx]; exact hxp.out _ (List.getElem_mem _)
          have RX1 := hid rx1
          have hbs1 : b1 < wr.heap.size := by omega
          clear hrp hc1 rx1
          by_cases h2 : 0 < qs.length
          · have t2 : (0 : Int) < (qs.length : Int) := by omega
            obtain ⟨rq, dq, SFq, hdq, hrq⟩ := from_of (P := Try.prog) g2.out Try.underlying24 hj hy1 1 (by omega) hcb
            obtain ⟨qt, hqt⟩ : ∃ l, qs.drop 1 = l := ⟨_, rfl⟩
            have hlq : qt.length + 1 = qs.length := by rw [← hqt]; simp; omega
            have hlqa : qt.length < qs.length := by omega
            rw [hqt] at SFq hdq hrq
            have HRq := hid hrq
            replace SFq : ∀ W : World, (Instr.sliceAt 24 (.slice ab qs.length cb) (some (.int .i64 1)) none none).run Try.prog W = .ok (.slice rq qt.length dq) W := SFq
            obtain ⟨b2, o2, ea2, hb2, hc2⟩ := g2.out h2
            subst ea2
            obtain ⟨z2, y2, k2, rx2⟩ := hc2 0 h2
            obtain ⟨y, hy⟩ : ∃ x, qs[0] = x := ⟨_, rfl⟩
            rw [hy] at k2 rx2
            rw [Nat.add_zero] at k2
            have n2 : y.length ≤ 1048576 := by rw [← hy]; exact hxq.out _ (List.getElem_mem _)
            have RX2 := hid rx2
            have hbs2 : b2 < wr.heap.size := by omega
            clear hrq hc2 rx2
            obtain ⟨c9, hc9⟩ : ∃ c, cmpL x y = c := ⟨_, rfl⟩
            have HC9 := hid hc9
            have hk0 := kp_refl wr
            have hw2 : w2.heap.size ≤ wr.heap.size := hsz
            clear hc9
            have t5 : ((ps.length : Int) == 0) = false := by rw [beq_eq_false_iff_ne]; omega
            go_wp2_with fail
            go_region_held3 (fun w' => w'.cell? ⟨b1, o1, none⟩ = some (.slice z1 x.length y1) ∧ w'.cell? ⟨b2, o2, none⟩ = some (.slice z2 y.length y2) ∧ Kp wr 0 w')
              (first
                | (go_split_ands
                   repeat' apply And.intro
                   all_goals (first | (with_reducible assumption) | (with_reducible exact cell_drew (by assumption)) | (with_reducible exact Kp.drew (by assumption)) | (with_reducible exact Kp.cell (by assumption) hb1 (by omega) (by assumption)) | (with_reducible exact Kp.call (by assumption) hb1))))
              (first
                | (go_split_ands; go_at_call 31; (with_reducible refine (cmp_c c9 z1 z2 y1 y2 w2.heap.size w2.heap.size x y _ HC9.out n1 n2 (rd_kp RX1.out (by with_reducible assumption) hw2) (rd_kp RX2.out (by with_reducible assumption) hw2) (kp_le (by with_reducible assumption) hw2) (kp_le (by with_reducible assumption) hw2)).mono ?_); rintro e wA ⟨rfl, hb1⟩; have HBA := hid (Kp.bel (w := wr) (n := 0) (Kp.call (by with_reducible assumption) hb1))))
            all_goals
              clear hk0
              have hsA := HBA.out.size
              replace g1 := hid (g1.out.below (HBA.out.mono hw2))
              replace g2 := hid (g2.out.below (HBA.out.mono hw2))
              replace HRp := hid (HRp.out.below (HBA.out.mono hw2))
              replace HRq := hid (HRq.out.below (HBA.out.mono hw2))
              replace RX1 := hid (RX1.out.below (HBA.out.mono hw2))
              replace RX2 := hid (RX2.out.below (HBA.out.mono hw2))
              replace hs := hid (hs.out.below (HBA.out.mono hw2))
              replace ho := hid (own_keeps ho.out HBA.out)
              replace hb := hid (hb.out.trans (HBA.out.mono hw2))
              replace k1 := (HBA.out.cell (p := ⟨b1, o1, none⟩) hbs1).trans k1
              replace k2 := (HBA.out.cell (p := ⟨b2, o2, none⟩) hbs2).trans k2
              replace hbs1 : b1 < wA.heap.size := by omega
              replace hbs2 : b2 < wA.heap.size := by omega
              replace hsz : w2.heap.size ≤ wA.heap.size := by omega
              clear hw2 HBA hsA
              by_cases hcz : (0 : Int) < c9
              · have HM := hid (takeB_cmp hm.out h1 hx h2 hy hqt (by rw [HC9.out]; omega))
                clear HC9 hpt hqt hx hy hm hlp hlq
                by_cases h0 : 0 < out.length
                · obtain ⟨l, hl⟩ : ∃ l, l + 1 = out.length := ⟨out.length - 1, by omega⟩
                  have hll : l < out.length := by omega
                  obtain ⟨al, cl, kl0, rl⟩ := hs.out.row l hll
                  obtain ⟨g, eg, hgs, hgc⟩ := at_row ho.out h0
                  subst eg
                  have kl := hgc l _ kl0
                  have e3 : (out.length : Int) - 1 = (l : Int) := by omega
                  have hl0 : (0 : Int) ≤ (l : Int) := by omega
                  have hl1 : (l : Int) < (out.length : Int) := by omega
                  have t0 : ((out.length : Int) == 0) = false := by rw [beq_eq_false_iff_ne]; omega
                  have nl : out[l].length ≤ 1048576 := hxo.out _ (List.getElem_mem _)
                  obtain ⟨c0, hc0⟩ : ∃ c, cmpL out[l] y = c := ⟨_, rfl⟩
                  have E2 := hid (cmp_c c0 al z2 cl y2 w2.heap.size w2.heap.size out[l] y (wA.alloc (.cells #[] 3)) hc0 nl n2 (rl.below ((Below.refl _ _).alloc (by omega) _)) (RX2.out.below ((Below.refl _ _).alloc (by omega) _)) (by rw [World.size_alloc]; omega) (by rw [World.size_alloc]; omega))
                  have HC0 := hid hc0
                  clear hgc kl0 rl hc0
                  by_cases hz : c0 = 0
                  · have t3 : (c0 != 0) = false := by simp [hz]
                    have HMn := hid (show Mg A Bl out ps qt from by rw [← same_at (x := y) l hl (HC0.out.trans hz)]; exact HM.out)
                    clear hz HM HC0 hl
                    go_wp2_with fail
                    refine E2.out.mono ?_
                    rintro e wB ⟨rfl, hb3⟩
                    have HB3 := hid (((Below.refl wA.heap.size wA).alloc (Nat.le_refl _) (.cells #[] 3)).trans (hb3.mono (by simp)))
                    clear hb3 E2
                    go_wp2_with fail
                    go_roundw
                    case rel => exact ⟨ps, qt, out, _, rq, ca, dq, _, vs, rfl, rfl, rfl, hca, hdq, hid (g1.out.below (HB3.out.mono hsz)), hid (HRq.out.below (HB3.out.mono hsz)), hid (own_keeps ho.out HB3.out), hid (hs.out.below (HB3.out.mono hsz)), HMn, hid (hb.out.trans (HB3.out.mono hsz))⟩
                    case measure => simp [slen]; omega
                  · have t3 : (c0 != 0) = true := by simp [hz]
                    have HMn := hid (show Mg A Bl (out ++ [y]) ps qt from by rw [← new_at (x := y) l hl (by rw [HC0.out]; exact hz)]; exact HM.out)
                    clear hz HM HC0 hl
                    go_wp2_with fail
                    refine E2.out.mono ?_
                    rintro e wB ⟨rfl, hb3⟩
                    have HB3 := hid (((Below.refl wA.heap.size wA).alloc (Nat.le_refl _) (.cells #[] 3)).trans (hb3.mono (by simp)))
                    clear hb3 E2
                    have HOw := hid ((own_keeps ho.out HB3.out : World.ownsRow _ _ _ _ _ _ _))
                    have HOa := hid (own_keeps HOw.out ((Below.refl _ _).alloc (Nat.le_refl _) (.cells #[.slice z2 y.length y2] eR)))
                    have HSx := hid (hs.out.below (HB3.out.mono hsz))
                    have HRx := hid (RX2.out.below (HB3.out.mono hsz))
                    have hsB := HB3.out.size
                    have OH0 := OneH wB (.slice z2 y.length y2) rfl
                    (try simp only [World.size_alloc] at OH0)
                    have OH := hid OH0
                    clear OH0
                    have m1 : out.length + 1 ≤ maxLen := by unfold maxLen; omega
                    have b1' : (out.length + 1) * 24 ≤ 140737488355328 := by omega
                    have s1' : w2.heap.size ≤ (wB.alloc (.cells #[.slice z2 y.length y2] eR)).heap.size := by rw [World.size_alloc]; omega
                    go_wp2_with (at_builtin; refine wpList_any rfl _ _ 24 rfl w2.heap.size eR i1 (.slice none 0 0) 24 Try.underlying24 hj hy0 hy1 hy2 rfl _ out.length vs rfl HOa.out (some ⟨_, 0, none⟩) 1 1 [.slice z2 y.length y2] rfl OH.out m1 b1' s1' ?_; intro v' wC hown hgr; have HON := hid hown; have HGN := hid (below_grown (B := w2.heap.size) (hb.out.trans (HB3.out.mono hsz) |>.alloc (by omega) _) hgr HOa.out s1' (Nat.le_refl _)); have HGW := hid (below_grown (B := w2.heap.size) (((Below.refl _ wB).alloc (by omega) (.cells #[.slice z2 y.length y2] eR))) hgr HOa.out s1' (Nat.le_refl _)); clear hown hgr)
                    obtain ⟨av, cv, ev, _⟩ := form_row HON.out
                    subst ev
                    have hol : (out ++ [y]).length = out.length + 1 := by simp
                    have HPS := hid ((HSx.out.below HGW.out).push y2 (HRx.out.below HGW.out))
                    have HB4 := hid ((HB3.out.mono hsz).trans HGW.out)
                    go_wp2_with fail
                    go_roundw
                    case rel => exact ⟨ps, qt, out ++ [y], _, rq, ca, dq, _, _, rfl, rfl, rfl, hca, hdq, hid (g1.out.below HB4.out), hid (HRq.out.below HB4.out), hid (by rw [hol]; exact HON.out), HPS, HMn, HGN⟩
                    case measure => simp [slen]; omega
                · have t0 : ((out.length : Int) == 0) = true := by rw [beq_iff_eq]; omega
                  have HMn := hid (show Mg A Bl (out ++ [y]) ps qt from by have e0 : out = [] := List.eq_nil_of_length_eq_zero (by omega); have h := HM.out; rw [e0] at h ⊢; exact h)
                  have HB3 := hid ((Below.refl wA.heap.size wA).alloc (Nat.le_refl _) (.cells #[] 3))
                  clear HM
                  have HOw := hid ((own_keeps ho.out HB3.out : World.ownsRow _ _ _ _ _ _ _))
                  have HOa := hid (own_keeps HOw.out ((Below.refl _ _).alloc (Nat.le_refl _) (.cells #[.slice z2 y.length y2] eR)))
                  have HSx := hid (hs.out.below (HB3.out.mono hsz))
                  have HRx := hid (RX2.out.below (HB3.out.mono hsz))
                  have hsB := HB3.out.size
                  have OH0 := OneH (wA.alloc (.cells #[] 3)) (.slice z2 y.length y2) rfl
                  (try simp only [World.size_alloc] at OH0)
                  have OH := hid OH0
                  clear OH0
                  have m1 : out.length + 1 ≤ maxLen := by unfold maxLen; omega
                  have b1' : (out.length + 1) * 24 ≤ 140737488355328 := by omega
                  have s1' : w2.heap.size ≤ ((wA.alloc (.cells #[] 3)).alloc (.cells #[.slice z2 y.length y2] eR)).heap.size := by rw [World.size_alloc]; omega
                  go_wp2_with (at_builtin; refine wpList_any rfl _ _ 24 rfl w2.heap.size eR i1 (.slice none 0 0) 24 Try.underlying24 hj hy0 hy1 hy2 rfl _ out.length vs rfl HOa.out (some ⟨_, 0, none⟩) 1 1 [.slice z2 y.length y2] rfl OH.out m1 b1' s1' ?_; intro v' wC hown hgr; have HON := hid hown; have HGN := hid (below_grown (B := w2.heap.size) (hb.out.trans (HB3.out.mono hsz) |>.alloc (by omega) _) hgr HOa.out s1' (Nat.le_refl _)); have HGW := hid (below_grown (B := w2.heap.size) (((Below.refl _ (wA.alloc (.cells #[] 3))).alloc (by omega) (.cells #[.slice z2 y.length y2] eR))) hgr HOa.out s1' (Nat.le_refl _)); clear hown hgr)
                  obtain ⟨av, cv, ev, _⟩ := form_row HON.out
                  subst ev
                  have hol : (out ++ [y]).length = out.length + 1 := by simp
                  have HPS := hid ((HSx.out.below HGW.out).push y2 (HRx.out.below HGW.out))
                  have HB4 := hid ((HB3.out.mono hsz).trans HGW.out)
                  go_wp2_with fail
                  go_roundw
                  case rel => exact ⟨ps, qt, out ++ [y], _, rq, ca, dq, _, _, rfl, rfl, rfl, hca, hdq, hid (g1.out.below HB4.out), hid (HRq.out.below HB4.out), hid (by rw [hol]; exact HON.out), HPS, HMn, HGN⟩
                  case measure => simp [slen]; omega
              · have HM := hid (takeA_cmp hm.out h1 hx hpt h2 hy (by rw [HC9.out]; omega))
                clear HC9 hpt hqt hx hy hm hlp hlq
                by_cases h0 : 0 < out.length
                · obtain ⟨l, hl⟩ : ∃ l, l + 1 = out.length := ⟨out.length - 1, by omega⟩
                  have hll : l < out.length := by omega
                  obtain ⟨al, cl, kl0, rl⟩ := hs.out.row l hll
                  obtain ⟨g, eg, hgs, hgc⟩ := at_row ho.out h0
                  subst eg
                  have kl := hgc l _ kl0
                  have e3 : (out.length : Int) - 1 = (l : Int) := by omega
                  have hl0 : (0 : Int) ≤ (l : Int) := by omega
                  have hl1 : (l : Int) < (out.length : Int) := by omega
                  have t0 : ((out.length : Int) == 0) = false := by rw [beq_eq_false_iff_ne]; omega
                  have nl : out[l].length ≤ 1048576 := hxo.out _ (List.getElem_mem _)
                  obtain ⟨c0, hc0⟩ : ∃ c, cmpL out[l] x = c := ⟨_, rfl⟩
                  have E2 := hid (cmp_c c0 al z1 cl y1 w2.heap.size w2.heap.size out[l] x (wA.alloc (.cells #[] 3)) hc0 nl n1 (rl.below ((Below.refl _ _).alloc (by omega) _)) (RX1.out.below ((Below.refl _ _).alloc (by omega) _)) (by rw [World.size_alloc]; omega) (by rw [World.size_alloc]; omega))
                  have HC0 := hid hc0
                  clear hgc kl0 rl hc0
                  by_cases hz : c0 = 0
                  · have t3 : (c0 != 0) = false := by simp [hz]
                    have HMn := hid (show Mg A Bl out pt qs from by rw [← same_at (x := x) l hl (HC0.out.trans hz)]; exact HM.out)
                    clear hz HM HC0 hl
                    go_wp2_with fail
                    refine E2.out.mono ?_
                    rintro e wB ⟨rfl, hb3⟩
                    have HB3 := hid (((Below.refl wA.heap.size wA).alloc (Nat.le_refl _) (.cells #[] 3)).trans (hb3.mono (by simp)))
                    clear hb3 E2
                    go_wp2_with fail
                    go_roundw
                    case rel => exact ⟨pt, qs, out, rp, _, dp, cb, _, vs, rfl, rfl, rfl, hdp, hcb, hid (HRp.out.below (HB3.out.mono hsz)), hid (g2.out.below (HB3.out.mono hsz)), hid (own_keeps ho.out HB3.out), hid (hs.out.below (HB3.out.mono hsz)), HMn, hid (hb.out.trans (HB3.out.mono hsz))⟩
                    case measure => simp [slen]; omega
                  · have t3 : (c0 != 0) = true := by simp [hz]
                    have HMn := hid (show Mg A Bl (out ++ [x]) pt qs from by rw [← new_at (x := x) l hl (by rw [HC0.out]; exact hz)]; exact HM.out)
                    clear hz HM HC0 hl
                    go_wp2_with fail
                    refine E2.out.mono ?_
                    rintro e wB ⟨rfl, hb3⟩
                    have HB3 := hid (((Below.refl wA.heap.size wA).alloc (Nat.le_refl _) (.cells #[] 3)).trans (hb3.mono (by simp)))
                    clear hb3 E2
                    have HOw := hid ((own_keeps ho.out HB3.out : World.ownsRow _ _ _ _ _ _ _))
                    have HOa := hid (own_keeps HOw.out ((Below.refl _ _).alloc (Nat.le_refl _) (.cells #[.slice z1 x.length y1] eR)))
                    have HSx := hid (hs.out.below (HB3.out.mono hsz))
                    have HRx := hid (RX1.out.below (HB3.out.mono hsz))
                    have hsB := HB3.out.size
                    have OH0 := OneH wB (.slice z1 x.length y1) rfl
                    (try simp only [World.size_alloc] at OH0)
                    have OH := hid OH0
                    clear OH0
                    have m1 : out.length + 1 ≤ maxLen := by unfold maxLen; omega
                    have b1' : (out.length + 1) * 24 ≤ 140737488355328 := by omega
                    have s1' : w2.heap.size ≤ (wB.alloc (.cells #[.slice z1 x.length y1] eR)).heap.size := by rw [World.size_alloc]; omega
                    go_wp2_with (at_builtin; refine wpList_any rfl _ _ 24 rfl w2.heap.size eR i1 (.slice none 0 0) 24 Try.underlying24 hj hy0 hy1 hy2 rfl _ out.length vs rfl HOa.out (some ⟨_, 0, none⟩) 1 1 [.slice z1 x.length y1] rfl OH.out m1 b1' s1' ?_; intro v' wC hown hgr; have HON := hid hown; have HGN := hid (below_grown (B := w2.heap.size) (hb.out.trans (HB3.out.mono hsz) |>.alloc (by omega) _) hgr HOa.out s1' (Nat.le_refl _)); have HGW := hid (below_grown (B := w2.heap.size) (((Below.refl _ wB).alloc (by omega) (.cells #[.slice z1 x.length y1] eR))) hgr HOa.out s1' (Nat.le_refl _)); clear hown hgr)
                    obtain ⟨av, cv, ev, _⟩ := form_row HON.out
                    subst ev
                    have hol : (out ++ [x]).length = out.length + 1 := by simp
                    have HPS := hid ((HSx.out.below HGW.out).push y1 (HRx.out.below HGW.out))
                    have HB4 := hid ((HB3.out.mono hsz).trans HGW.out)
                    go_wp2_with fail
                    go_roundw
                    case rel => exact ⟨pt, qs, out ++ [x], rp, _, dp, cb, _, _, rfl, rfl, rfl, hdp, hcb, hid (HRp.out.below HB4.out), hid (g2.out.below HB4.out), hid (by rw [hol]; exact HON.out), HPS, HMn, HGN⟩
                    case measure => simp [slen]; omega
                · have t0 : ((out.length : Int) == 0) = true := by rw [beq_iff_eq]; omega
                  have HMn := hid (show Mg A Bl (out ++ [x]) pt qs from by have e0 : out = [] := List.eq_nil_of_length_eq_zero (by omega); have h := HM.out; rw [e0] at h ⊢; exact h)
                  have HB3 := hid ((Below.refl wA.heap.size wA).alloc (Nat.le_refl _) (.cells #[] 3))
                  clear HM
                  have HOw := hid ((own_keeps ho.out HB3.out : World.ownsRow _ _ _ _ _ _ _))
                  have HOa := hid (own_keeps HOw.out ((Below.refl _ _).alloc (Nat.le_refl _) (.cells #[.slice z1 x.length y1] eR)))
                  have HSx := hid (hs.out.below (HB3.out.mono hsz))
                  have HRx := hid (RX1.out.below (HB3.out.mono hsz))
                  have hsB := HB3.out.size
                  have OH0 := OneH (wA.alloc (.cells #[] 3)) (.slice z1 x.length y1) rfl
                  (try simp only [World.size_alloc] at OH0)
                  have OH := hid OH0
                  clear OH0
                  have m1 : out.length + 1 ≤ maxLen := by unfold maxLen; omega
                  have b1' : (out.length + 1) * 24 ≤ 140737488355328 := by omega
                  have s1' : w2.heap.size ≤ ((wA.alloc (.cells #[] 3)).alloc (.cells #[.slice z1 x.length y1] eR)).heap.size := by rw [World.size_alloc]; omega
                  go_wp2_with (at_builtin; refine wpList_any rfl _ _ 24 rfl w2.heap.size eR i1 (.slice none 0 0) 24 Try.underlying24 hj hy0 hy1 hy2 rfl _ out.length vs rfl HOa.out (some ⟨_, 0, none⟩) 1 1 [.slice z1 x.length y1] rfl OH.out m1 b1' s1' ?_; intro v' wC hown hgr; have HON := hid hown; have HGN := hid (below_grown (B := w2.heap.size) (hb.out.trans (HB3.out.mono hsz) |>.alloc (by omega) _) hgr HOa.out s1' (Nat.le_refl _)); have HGW := hid (below_grown (B := w2.heap.size) (((Below.refl _ (wA.alloc (.cells #[] 3))).alloc (by omega) (.cells #[.slice z1 x.length y1] eR))) hgr HOa.out s1' (Nat.le_refl _)); clear hown hgr)
                  obtain ⟨av, cv, ev, _⟩ := form_row HON.out
                  subst ev
                  have hol : (out ++ [x]).length = out.length + 1 := by simp
                  have HPS := hid ((HSx.out.below HGW.out).push y1 (HRx.out.below HGW.out))
                  have HB4 := hid ((HB3.out.mono hsz).trans HGW.out)
                  go_wp2_with fail
                  go_roundw
                  case rel => exact ⟨pt, qs, out ++ [x], rp, _, dp, cb, _, _, rfl, rfl, rfl, hdp, hcb, hid (HRp.out.below HB4.out), hid (g2.out.below HB4.out), hid (by rw [hol]; exact HON.out), HPS, HMn, HGN⟩
                  case measure => simp [slen]; omega
          · have t2 : ¬ (0 : Int) < (qs.length : Int) := by omega
            have t5 : ((ps.length : Int) == 0) = false := by rw [beq_eq_false_iff_ne]; omega
            have HM := hid (takeA_only hm.out h1 hx hpt h2)
            clear hpt hx hm hlp
            by_cases h0 : 0 < out.length
            · obtain ⟨l, hl⟩ : ∃ l, l + 1 = out.length := ⟨out.length - 1, by omega⟩
              have hll : l < out.length := by omega
              obtain ⟨al, cl, kl0, rl⟩ := hs.out.row l hll
              obtain ⟨g, eg, hgs, hgc⟩ := at_row ho.out h0
              subst eg
              have kl := hgc l _ kl0
              have e3 : (out.length : Int) - 1 = (l : Int) := by omega
              have hl0 : (0 : Int) ≤ (l : Int) := by omega
              have hl1 : (l : Int) < (out.length : Int) := by omega
              have t0 : ((out.length : Int) == 0) = false := by rw [beq_eq_false_iff_ne]; omega
              have nl : out[l].length ≤ 1048576 := hxo.out _ (List.getElem_mem _)
              obtain ⟨c0, hc0⟩ : ∃ c, cmpL out[l] x = c := ⟨_, rfl⟩
              have E2 := hid (cmp_c c0 al z1 cl y1 w2.heap.size w2.heap.size out[l] x (wr.alloc (.cells #[] 3)) hc0 nl n1 (rl.below ((Below.refl _ _).alloc (by omega) _)) (RX1.out.below ((Below.refl _ _).alloc (by omega) _)) (by rw [World.size_alloc]; omega) (by rw [World.size_alloc]; omega))
              have HC0 := hid hc0
              clear hgc kl0 rl hc0
              by_cases hz : c0 = 0
              · have t3 : (c0 != 0) = false := by simp [hz]
                have HMn := hid (show Mg A Bl out pt qs from by rw [← same_at (x := x) l hl (HC0.out.trans hz)]; exact HM.out)
                clear hz HM HC0 hl
                go_wp2_with fail
                refine E2.out.mono ?_
                rintro e wB ⟨rfl, hb3⟩
                have HB3 := hid (((Below.refl wr.heap.size wr).alloc (Nat.le_refl _) (.cells #[] 3)).trans (hb3.mono (by simp)))
                clear hb3 E2
                go_wp2_with fail
                go_roundw
                case rel => exact ⟨pt, qs, out, rp, _, dp, cb, _, vs, rfl, rfl, rfl, hdp, hcb, hid (HRp.out.below (HB3.out.mono hsz)), hid (g2.out.below (HB3.out.mono hsz)), hid (own_keeps ho.out HB3.out), hid (hs.out.below (HB3.out.mono hsz)), HMn, hid (hb.out.trans (HB3.out.mono hsz))⟩
                case measure => simp [slen]; omega
              · have t3 : (c0 != 0) = true := by simp [hz]
                have HMn := hid (show Mg A Bl (out ++ [x]) pt qs from by rw [← new_at (x := x) l hl (by rw [HC0.out]; exact hz)]; exact HM.out)
                clear hz HM HC0 hl
                go_wp2_with fail
                refine E2.out.mono ?_
                rintro e wB ⟨rfl, hb3⟩
                have HB3 := hid (((Below.refl wr.heap.size wr).alloc (Nat.le_refl _) (.cells #[] 3)).trans (hb3.mono (by simp)))
                clear hb3 E2
                have HOw := hid ((own_keeps ho.out HB3.out : World.ownsRow _ _ _ _ _ _ _))
                have HOa := hid (own_keeps HOw.out ((Below.refl _ _).alloc (Nat.le_refl _) (.cells #[.slice z1 x.length y1] eR)))
                have HSx := hid (hs.out.below (HB3.out.mono hsz))
                have HRx := hid (RX1.out.below (HB3.out.mono hsz))
                have hsB := HB3.out.size
                have OH0 := OneH wB (.slice z1 x.length y1) rfl
                (try simp only [World.size_alloc] at OH0)
                have OH := hid OH0
                clear OH0
                have m1 : out.length + 1 ≤ maxLen := by unfold maxLen; omega
                have b1' : (out.length + 1) * 24 ≤ 140737488355328 := by omega
                have s1' : w2.heap.size ≤ (wB.alloc (.cells #[.slice z1 x.length y1] eR)).heap.size := by rw [World.size_alloc]; omega
                go_wp2_with (at_builtin; refine wpList_any rfl _ _ 24 rfl w2.heap.size eR i1 (.slice none 0 0) 24 Try.underlying24 hj hy0 hy1 hy2 rfl _ out.length vs rfl HOa.out (some ⟨_, 0, none⟩) 1 1 [.slice z1 x.length y1] rfl OH.out m1 b1' s1' ?_; intro v' wC hown hgr; have HON := hid hown; have HGN := hid (below_grown (B := w2.heap.size) (hb.out.trans (HB3.out.mono hsz) |>.alloc (by omega) _) hgr HOa.out s1' (Nat.le_refl _)); have HGW := hid (below_grown (B := w2.heap.size) (((Below.refl _ wB).alloc (by omega) (.cells #[.slice z1 x.length y1] eR))) hgr HOa.out s1' (Nat.le_refl _)); clear hown hgr)
                obtain ⟨av, cv, ev, _⟩ := form_row HON.out
                subst ev
                have hol : (out ++ [x]).length = out.length + 1 := by simp
                have HPS := hid ((HSx.out.below HGW.out).push y1 (HRx.out.below HGW.out))
                have HB4 := hid ((HB3.out.mono hsz).trans HGW.out)
                go_wp2_with fail
                go_roundw
                case rel => exact ⟨pt, qs, out ++ [x], rp, _, dp, cb, _, _, rfl, rfl, rfl, hdp, hcb, hid (HRp.out.below HB4.out), hid (g2.out.below HB4.out), hid (by rw [hol]; exact HON.out), HPS, HMn, HGN⟩
                case measure => simp [slen]; omega
            · have t0 : ((out.length : Int) == 0) = true := by rw [beq_iff_eq]; omega
              have HMn := hid (show Mg A Bl (out ++ [x]) pt qs from by have e0 : out = [] := List.eq_nil_of_length_eq_zero (by omega); have h := HM.out; rw [e0] at h ⊢; exact h)
              have HB3 := hid ((Below.refl wr.heap.size wr).alloc (Nat.le_refl _) (.cells #[] 3))
              clear HM
              have HOw := hid ((own_keeps ho.out HB3.out : World.ownsRow _ _ _ _ _ _ _))
              have HOa := hid (own_keeps HOw.out ((Below.refl _ _).alloc (Nat.le_refl _) (.cells #[.slice z1 x.length y1] eR)))
              have HSx := hid (hs.out.below (HB3.out.mono hsz))
              have HRx := hid (RX1.out.below (HB3.out.mono hsz))
              have hsB := HB3.out.size
              have OH0 := OneH (wr.alloc (.cells #[] 3)) (.slice z1 x.length y1) rfl
              (try simp only [World.size_alloc] at OH0)
              have OH := hid OH0
              clear OH0
              have m1 : out.length + 1 ≤ maxLen := by unfold maxLen; omega
              have b1' : (out.length + 1) * 24 ≤ 140737488355328 := by omega
              have s1' : w2.heap.size ≤ ((wr.alloc (.cells #[] 3)).alloc (.cells #[.slice z1 x.length y1] eR)).heap.size := by rw [World.size_alloc]; omega
              go_wp2_with (at_builtin; refine wpList_any rfl _ _ 24 rfl w2.heap.size eR i1 (.slice none 0 0) 24 Try.underlying24 hj hy0 hy1 hy2 rfl _ out.length vs rfl HOa.out (some ⟨_, 0, none⟩) 1 1 [.slice z1 x.length y1] rfl OH.out m1 b1' s1' ?_; intro v' wC hown hgr; have HON := hid hown; have HGN := hid (below_grown (B := w2.heap.size) (hb.out.trans (HB3.out.mono hsz) |>.alloc (by omega) _) hgr HOa.out s1' (Nat.le_refl _)); have HGW := hid (below_grown (B := w2.heap.size) (((Below.refl _ (wr.alloc (.cells #[] 3))).alloc (by omega) (.cells #[.slice z1 x.length y1] eR))) hgr HOa.out s1' (Nat.le_refl _)); clear hown hgr)
              obtain ⟨av, cv, ev, _⟩ := form_row HON.out
              subst ev
              have hol : (out ++ [x]).length = out.length + 1 := by simp
              have HPS := hid ((HSx.out.below HGW.out).push y1 (HRx.out.below HGW.out))
              have HB4 := hid ((HB3.out.mono hsz).trans HGW.out)
              go_wp2_with fail
              go_roundw
              case rel => exact ⟨pt, qs, out ++ [x], rp, _, dp, cb, _, _, rfl, rfl, rfl, hdp, hcb, hid (HRp.out.below HB4.out), hid (g2.out.below HB4.out), hid (by rw [hol]; exact HON.out), HPS, HMn, HGN⟩
              case measure => simp [slen]; omega
        · have t1 : ¬ (0 : Int) < (ps.length : Int) := by omega
          have t5 : ((ps.length : Int) == 0) = true := by rw [beq_iff_eq]; omega
          by_cases h2 : 0 < qs.length
          · have t2 : (0 : Int) < (qs.length : Int) := by omega
            obtain ⟨rq, dq, SFq, hdq, hrq⟩ := from_of (P := Try.prog) g2.out Try.underlying24 hj hy1 1 (by omega) hcb
            obtain ⟨qt, hqt⟩ : ∃ l, qs.drop 1 = l := ⟨_, rfl⟩
            have hlq : qt.length + 1 = qs.length := by rw [← hqt]; simp; omega
            have hlqa : qt.length < qs.length := by omega
            rw [hqt] at SFq hdq hrq
            have HRq := hid hrq
            replace SFq : ∀ W : World, (Instr.sliceAt 24 (.slice ab qs.length cb) (some (.int .i64 1)) none none).run Try.prog W = .ok (.slice rq qt.length dq) W := SFq
            obtain ⟨b2, o2, ea2, hb2, hc2⟩ := g2.out h2
            subst ea2
            obtain ⟨z2, y2, k2, rx2⟩ := hc2 0 h2
            obtain ⟨y, hy⟩ : ∃ x, qs[0] = x := ⟨_, rfl⟩
            rw [hy] at k2 rx2
            rw [Nat.add_zero] at k2
            have n2 : y.length ≤ 1048576 := by rw [← hy]; exact hxq.out _ (List.getElem_mem _)
            have RX2 := hid rx2
            have hbs2 : b2 < wr.heap.size := by omega
            clear hrq hc2 rx2
            have HM := hid (takeB_only hm.out h2 hy hqt h1)
            clear hqt hy hm hlq
            by_cases h0 : 0 < out.length
            · obtain ⟨l, hl⟩ : ∃ l, l + 1 = out.length := ⟨out.length - 1, by omega⟩
              have hll : l < out.length := by omega
              obtain ⟨al, cl, kl0, rl⟩ := hs.out.row l hll
              obtain ⟨g, eg, hgs, hgc⟩ := at_row ho.out h0
              subst eg
              have kl := hgc l _ kl0
              have e3 : (out.length : Int) - 1 = (l : Int) := by omega
              have hl0 : (0 : Int) ≤ (l : Int) := by omega
              have hl1 : (l : Int) < (out.length : Int) := by omega
              have t0 : ((out.length : Int) == 0) = false := by rw [beq_eq_false_iff_ne]; omega
              have nl : out[l].length ≤ 1048576 := hxo.out _ (List.getElem_mem _)
              obtain ⟨c0, hc0⟩ : ∃ c, cmpL out[l] y = c := ⟨_, rfl⟩
              have E2 := hid (cmp_c c0 al z2 cl y2 w2.heap.size w2.heap.size out[l] y (wr.alloc (.cells #[] 3)) hc0 nl n2 (rl.below ((Below.refl _ _).alloc (by omega) _)) (RX2.out.below ((Below.refl _ _).alloc (by omega) _)) (by rw [World.size_alloc]; omega) (by rw [World.size_alloc]; omega))
              have HC0 := hid hc0
              clear hgc kl0 rl hc0
              by_cases hz : c0 = 0
              · have t3 : (c0 != 0) = false := by simp [hz]
                have HMn := hid (show Mg A Bl out ps qt from by rw [← same_at (x := y) l hl (HC0.out.trans hz)]; exact HM.out)
                clear hz HM HC0 hl
                go_wp2_with fail
                refine E2.out.mono ?_
                rintro e wB ⟨rfl, hb3⟩
                have HB3 := hid (((Below.refl wr.heap.size wr).alloc (Nat.le_refl _) (.cells #[] 3)).trans (hb3.mono (by simp)))
                clear hb3 E2
                go_wp2_with fail
                go_roundw
                case rel => exact ⟨ps, qt, out, _, rq, ca, dq, _, vs, rfl, rfl, rfl, hca, hdq, hid (g1.out.below (HB3.out.mono hsz)), hid (HRq.out.below (HB3.out.mono hsz)), hid (own_keeps ho.out HB3.out), hid (hs.out.below (HB3.out.mono hsz)), HMn, hid (hb.out.trans (HB3.out.mono hsz))⟩
                case measure => simp [slen]; omega
              · have t3 : (c0 != 0) = true := by simp [hz]
                have HMn := hid (show Mg A Bl (out ++ [y]) ps qt from by rw [← new_at (x := y) l hl (by rw [HC0.out]; exact hz)]; exact HM.out)
                clear hz HM HC0 hl
                go_wp2_with fail
                refine E2.out.mono ?_
                rintro e wB ⟨rfl, hb3⟩
                have HB3 := hid (((Below.refl wr.heap.size wr).alloc (Nat.le_refl _) (.cells #[] 3)).trans (hb3.mono (by simp)))
                clear hb3 E2
                have HOw := hid ((own_keeps ho.out HB3.out : World.ownsRow _ _ _ _ _ _ _))
                have HOa := hid (own_keeps HOw.out ((Below.refl _ _).alloc (Nat.le_refl _) (.cells #[.slice z2 y.length y2] eR)))
                have HSx := hid (hs.out.below (HB3.out.mono hsz))
                have HRx := hid (RX2.out.below (HB3.out.mono hsz))
                have hsB := HB3.out.size
                have OH0 := OneH wB (.slice z2 y.length y2) rfl
                (try simp only [World.size_alloc] at OH0)
                have OH := hid OH0
                clear OH0
                have m1 : out.length + 1 ≤ maxLen := by unfold maxLen; omega
                have b1' : (out.length + 1) * 24 ≤ 140737488355328 := by omega
                have s1' : w2.heap.size ≤ (wB.alloc (.cells #[.slice z2 y.length y2] eR)).heap.size := by rw [World.size_alloc]; omega
                go_wp2_with (at_builtin; refine wpList_any rfl _ _ 24 rfl w2.heap.size eR i1 (.slice none 0 0) 24 Try.underlying24 hj hy0 hy1 hy2 rfl _ out.length vs rfl HOa.out (some ⟨_, 0, none⟩) 1 1 [.slice z2 y.length y2] rfl OH.out m1 b1' s1' ?_; intro v' wC hown hgr; have HON := hid hown; have HGN := hid (below_grown (B := w2.heap.size) (hb.out.trans (HB3.out.mono hsz) |>.alloc (by omega) _) hgr HOa.out s1' (Nat.le_refl _)); have HGW := hid (below_grown (B := w2.heap.size) (((Below.refl _ wB).alloc (by omega) (.cells #[.slice z2 y.length y2] eR))) hgr HOa.out s1' (Nat.le_refl _)); clear hown hgr)
                obtain ⟨av, cv, ev, _⟩ := form_row HON.out
                subst ev
                have hol : (out ++ [y]).length = out.length + 1 := by simp
                have HPS := hid ((HSx.out.below HGW.out).push y2 (HRx.out.below HGW.out))
                have HB4 := hid ((HB3.out.mono hsz).trans HGW.out)
                go_wp2_with fail
                go_roundw
                case rel => exact ⟨ps, qt, out ++ [y], _, rq, ca, dq, _, _, rfl, rfl, rfl, hca, hdq, hid (g1.out.below HB4.out), hid (HRq.out.below HB4.out), hid (by rw [hol]; exact HON.out), HPS, HMn, HGN⟩
                case measure => simp [slen]; omega
            · have t0 : ((out.length : Int) == 0) = true := by rw [beq_iff_eq]; omega
              have HMn := hid (show Mg A Bl (out ++ [y]) ps qt from by have e0 : out = [] := List.eq_nil_of_length_eq_zero (by omega); have h := HM.out; rw [e0] at h ⊢; exact h)
              have HB3 := hid ((Below.refl wr.heap.size wr).alloc (Nat.le_refl _) (.cells #[] 3))
              clear HM
              have HOw := hid ((own_keeps ho.out HB3.out : World.ownsRow _ _ _ _ _ _ _))
              have HOa := hid (own_keeps HOw.out ((Below.refl _ _).alloc (Nat.le_refl _) (.cells #[.slice z2 y.length y2] eR)))
              have HSx := hid (hs.out.below (HB3.out.mono hsz))
              have HRx := hid (RX2.out.below (HB3.out.mono hsz))
              have hsB := HB3.out.size
              have OH0 := OneH (wr.alloc (.cells #[] 3)) (.slice z2 y.length y2) rfl
              (try simp only [World.size_alloc] at OH0)
              have OH := hid OH0
              clear OH0
              have m1 : out.length + 1 ≤ maxLen := by unfold maxLen; omega
              have b1' : (out.length + 1) * 24 ≤ 140737488355328 := by omega
              have s1' : w2.heap.size ≤ ((wr.alloc (.cells #[] 3)).alloc (.cells #[.slice z2 y.length y2] eR)).heap.size := by rw [World.size_alloc]; omega
              go_wp2_with (at_builtin; refine wpList_any rfl _ _ 24 rfl w2.heap.size eR i1 (.slice none 0 0) 24 Try.underlying24 hj hy0 hy1 hy2 rfl _ out.length vs rfl HOa.out (some ⟨_, 0, none⟩) 1 1 [.slice z2 y.length y2] rfl OH.out m1 b1' s1' ?_; intro v' wC hown hgr; have HON := hid hown; have HGN := hid (below_grown (B := w2.heap.size) (hb.out.trans (HB3.out.mono hsz) |>.alloc (by omega) _) hgr HOa.out s1' (Nat.le_refl _)); have HGW := hid (below_grown (B := w2.heap.size) (((Below.refl _ (wr.alloc (.cells #[] 3))).alloc (by omega) (.cells #[.slice z2 y.length y2] eR))) hgr HOa.out s1' (Nat.le_refl _)); clear hown hgr)
              obtain ⟨av, cv, ev, _⟩ := form_row HON.out
              subst ev
              have hol : (out ++ [y]).length = out.length + 1 := by simp
              have HPS := hid ((HSx.out.below HGW.out).push y2 (HRx.out.below HGW.out))
              have HB4 := hid ((HB3.out.mono hsz).trans HGW.out)
              go_wp2_with fail
              go_roundw
              case rel => exact ⟨ps, qt, out ++ [y], _, rq, ca, dq, _, _, rfl, rfl, rfl, hca, hdq, hid (g1.out.below HB4.out), hid (HRq.out.below HB4.out), hid (by rw [hol]; exact HON.out), HPS, HMn, HGN⟩
              case measure => simp [slen]; omega
          · have t2 : ¬ (0 : Int) < (qs.length : Int) := by omega
            have HF := hid (hY.out A Bl out HA.out HBl.out (by have e0 : ps = [] := List.eq_nil_of_length_eq_zero (by omega); have e4 : qs = [] := List.eq_nil_of_length_eq_zero (by omega); have h := hm.out; rw [e0, e4] at h; exact h))
            have HFG := hid (hs_grd ho.out hs.out hsz)
            have HFB := hid (HB2.out.trans (hb.out.mono hs2))
            clear hm
            go_wp2_with fail
            go_ret
            exact ⟨ao, co, out, rfl, hco, HF.out, HFG.out, HFB.out⟩
end Go.Proofs.Ytikpgkholhokoaa.SortS
