/- The union of two relations: the model's function (spec.Union). -/
import Derived.Test.YtffhfnkcbgbliaaUni
import Derived.Test.YtffhfnkcbgbliaaNewRS
import Derived.Deep.RegionHeldLaw
import Derived.Deep.DeepCutAuto
namespace Go.Proofs.Ytffhfnkcbgbliaa.UniS
open Go.RowKit
open Go.Proofs.Ytffhfnkcbgbliaa.Num Go.Proofs.Ytffhfnkcbgbliaa.IntRow Go.Proofs.Ytffhfnkcbgbliaa.IntLaw Go.Proofs.Ytffhfnkcbgbliaa.Grid Go.Proofs.Ytffhfnkcbgbliaa.GridMore Go.Proofs.Ytffhfnkcbgbliaa.GridLaw Go.Proofs.Ytffhfnkcbgbliaa.GridLaw2 Go.Proofs.Ytffhfnkcbgbliaa.Keep Go.Proofs.Ytffhfnkcbgbliaa.Kept Go.Proofs.Ytffhfnkcbgbliaa.Cells Go.Proofs.Ytffhfnkcbgbliaa.RelKit Go.Proofs.Ytffhfnkcbgbliaa.GridApp Go.Proofs.Ytffhfnkcbgbliaa.GridAny Go.Proofs.Ytffhfnkcbgbliaa.Hds Go.Proofs.Ytffhfnkcbgbliaa.Asc Go.Proofs.Ytffhfnkcbgbliaa.RelValidS Go.Proofs.Ytffhfnkcbgbliaa.SrtD Go.Proofs.Ytffhfnkcbgbliaa.NewRS Go.Proofs.Ytffhfnkcbgbliaa.LibRows Go.Proofs.Ytffhfnkcbgbliaa.RelTot Go.Proofs.Ytffhfnkcbgbliaa.HasL Go.Proofs.Ytffhfnkcbgbliaa.Uni
set_option linter.unusedVariables false

theorem zeroRow (w : World) (base : Nat) (hb : base ≤ w.heap.size) : (w.alloc (.cells #[] eR)).ownsRow base eR 1 (.slice (some ⟨w.heap.size, 0, none⟩) 0 0) 0 [] :=
  World.ownsRow_made (size := 1) (e := eR) (base := base) w #[] 0 hb (Nat.zero_le _) rfl

theorem zeroRow1 (w : World) (o : Obj) : ((w.alloc o).alloc (.cells #[] eR)).ownsRow w.heap.size eR 1 (.slice (some ⟨w.heap.size + 1, 0, none⟩) 0 0) 0 [] := by
  have h := zeroRow (w.alloc o) w.heap.size (by simp)
  rw [World.size_alloc] at h
  exact h
/-- As step_any; what the row was is handed on. -/
theorem step_anyB {P : Program} {ops : Array Oper} {o : Oper} {a : Act} {w : World} {K : Act → World → Prop} {Q : Exit → Act → World → Prop} {E : Prop} (hgd : o.guard = none) (s x : Operand) (t : TypeId)
    (ho : o.op = .call { callee := .builtin .append, args := #[s, x], argTypes := #[t, t] })
    (base : Nat) (e : TypeId) (i : TypeInfo) (z : Value) (bytes : Nat) (ht : P.underlying t = some (.slice e)) (hi : P.info? e = some i) (hz : i.zero = some z) (hsize : i.size = 1) (hby : i.bytes = bytes) (hzs : z.cells.size = 1)
    (v : Value) (n : Nat) (xs : List Value) (hs : a.eval s = v) (hown : w.ownsRow base e 1 v n xs) (q : Option Addr) (m c : Nat) (us : List Value) (hx : a.eval x = .slice q m c) (hS : Srcs w q m us)
    (h63 : n + m ≤ maxLen) (hbytes : (n + m) * bytes ≤ 140737488355328) (hbase : base ≤ w.heap.size)
    (h : ∀ v' w', w'.ownsRow base e 1 v' (n + m) (xs ++ us) → w.grownBy w' v.ownBlock → w.ownsRow base e 1 v n xs → K (a.put o.dst v') w') :
    if Region.wanted o (yielded ops a.tmps) = true then Oper.wp P o a w K Q else E :=
  step_any hgd s x t ho base e i z bytes ht hi hz hsize hby hzs v n xs hs hown q m c us hx hS h63 hbytes hbase (fun v' w' h1 h2 => h v' w' h1 h2 hown)
theorem own_alloc {w : World} {base n : Nat} {v : Value} {us : List Value} (h : w.ownsRow base eR 1 v n us) (o : Obj) : (w.alloc o).ownsRow base eR 1 v n us :=
  ownk_below h ((Below.refl _ _).alloc (Nat.le_refl _) o) (fun q hq => (World.ownsRow.lt h q hq).2)
theorem kp_grown {w W W' : World} {n : Nat} {row : Option Nat} (h : Kp w n W) (hg : W.grownBy W' row) (hr : ∀ k, row = some k → w.heap.size ≤ k) : Kp w n W' :=
  ⟨Nat.le_trans h.sz hg.size, h.bel.grown hg (by have := h.sz; omega) hr⟩
/-- The result's box, not written yet. -/
def Bx (W : World) (g : Nat) : Prop := W.heap[g]? = some (.cells #[.int .i64 0, .slice none 0 0] 30 (0, 0))
theorem bx_new (X : World) : Bx (X.alloc (.cells #[.int .i64 0, .slice none 0 0] 30)) X.heap.size := heap_alloc_new X _
theorem Bx.lt {W : World} {g : Nat} (h : Bx W g) : g < W.heap.size := by
  rcases Nat.lt_or_ge g W.heap.size with h1 | h1
  · exact h1
  · unfold Bx at h
    rw [Array.getElem?_eq_none h1] at h
    cases h
theorem Bx.below {W W' : World} {g : Nat} (h : Bx W g) (hb : Below W.heap.size W W') : Bx W' g := (hb.block g h.lt).trans h
theorem Bx.drew {W : World} {g : Nat} (h : Bx W g) : Bx W.drew g := h
theorem Bx.alloc {W : World} {g : Nat} (h : Bx W g) (o : Obj) : Bx (W.alloc o) g := h.below ((Below.refl _ _).alloc (Nat.le_refl _) o)
theorem Bx.grown {W W' : World} {g : Nat} {row : Option Nat} (h : Bx W g) (hg : W.grownBy W' row) (hr : row ≠ some g) : Bx W' g := (hg.block g h.lt (fun e => hr e.symm)).trans h
theorem Bx.far {W : World} {g lo n : Nat} {v : Value} {us : List Value} (h : Bx W g) (k : W.ownsRow lo eR 1 v n us) : v.ownBlock ≠ some g := fun e => by
  obtain ⟨c1, h1⟩ := own_block k e
  unfold Bx at h
  rw [h1] at h
  simp only [Option.some.injEq, Obj.cells.injEq] at h
  exact absurd h.2.1 (by decide)
theorem Bx.has2 {W : World} {g : Nat} (h : Bx W g) : Has2 W g (.int .i64 0) (.slice none 0 0) :=
  ⟨by rw [cell_of_row _ _ 0 _ _ (0, 0) h]; rfl, by rw [cell_of_row _ _ 1 _ _ (0, 0) h]; rfl, h.lt, frozen_of_row _ _ 0 _ _ h, frozen_of_row _ _ 1 _ _ h⟩

set_option maxRecDepth 100000 in
set_option maxHeartbeats 4000000 in
theorem spec_uni (n m : Int) (p q : Addr) (cap cap' B B' : Nat) (xss yss : List (List Int)) (w : World) (ht : tot xss + tot yss ≤ 1048576) (h : GRd w B (some p) xss) (h' : GRd w B' (some q) yss) (hB : B ≤ w.heap.size) (hB' : B' ≤ w.heap.size) :
    Calls Try.prog 12 #[.agg #[.int .i64 n, .slice (some p) xss.length cap], .agg #[.int .i64 m, .slice (some q) yss.length cap']] w fun e w' => ∃ a' c' vs, e = .returned (.tuple #[.agg #[.int .i64 (uniN n m xss yss), .slice a' (uniR n m xss yss).length c'], .bool (uniOk n m xss yss)]) ∧ GOwn w' w.heap.size eR eI (.slice a' (uniR n m xss yss).length c') vs (uniR n m xss yss) ∧ Below w.heap.size w w' := by
  obtain ⟨i1, hj, hy0, hy1, hy2⟩ := info_parts GridLaw.info
  obtain ⟨zss, hzs⟩ : ∃ z, uniR n m xss yss = z := ⟨_, rfl⟩
  obtain ⟨nn, hnn⟩ : ∃ z, uniN n m xss yss = z := ⟨_, rfl⟩
  obtain ⟨ok, hok⟩ : ∃ z, uniOk n m xss yss = z := ⟨_, rfl⟩
  rw [hzs, hnn, hok]
  have hlen : xss.length ≤ 1048576 := len_le (m := 1048576) (by omega)
  have hlen' : yss.length ≤ 1048576 := len_le (m := 1048576) (by omega)
  have hx := hid (each_le (m := 1048576) (xss := xss) (by omega))
  have hx' := hid (each_le (m := 1048576) (xss := yss) (by omega))
  have K1 := hid (((has2_new w (.int .i64 n) (.slice (some p) xss.length cap) 30).alloc (.cells #[.int .i64 m, .slice (some q) yss.length cap'] 30)).alloc (.cells #[.int .i64 0, .slice none 0 0] 30))
  have K2 := hid ((has2_new (w.alloc (.cells #[.int .i64 n, .slice (some p) xss.length cap] 30)) (.int .i64 m) (.slice (some q) yss.length cap') 30).alloc (.cells #[.int .i64 0, .slice none 0 0] 30))
  have K3 := hid (has2_new ((w.alloc (.cells #[.int .i64 n, .slice (some p) xss.length cap] 30)).alloc (.cells #[.int .i64 m, .slice (some q) yss.length cap'] 30)) (.int .i64 0) (.slice none 0 0) 30)
  have B3 := hid ((((Below.refl w.heap.size w).alloc (Nat.le_refl _) (.cells #[.int .i64 n, .slice (some p) xss.length cap] 30)).alloc (by simp) (.cells #[.int .i64 m, .slice (some q) yss.length cap'] 30)).alloc (by simp; omega) (.cells #[.int .i64 0, .slice none 0 0] 30))
  simp only [World.size_alloc] at K1 K2 K3
  have HG := hid h
  have HY := hid h'
  clear h h'
  obtain ⟨w0, hw0⟩ : ∃ z, ((w.alloc (.cells #[.int .i64 n, .slice (some p) xss.length cap] 30)).alloc (.cells #[.int .i64 m, .slice (some q) yss.length cap'] 30)).alloc (.cells #[.int .i64 0, .slice none 0 0] 30) = z := ⟨_, rfl⟩
  have hw0s : w0.heap.size = w.heap.size + 3 := by rw [← hw0]; simp
  rw [hw0] at K1 K2 K3 B3
  obtain ⟨v1, hv1⟩ : ∃ z, vrel n xss = z := ⟨_, rfl⟩
  obtain ⟨v2, hv2⟩ : ∃ z, vrel m yss = z := ⟨_, rfl⟩
  have V1 := hid (fun W (hW : Below w.heap.size w W) => by
    have := spec_valid n (some p) xss.length cap B xss W rfl hlen hx.out (HG.out.below (hW.mono hB)) (Nat.le_trans hB hW.size)
    rw [hv1] at this
    exact this)
  have V2 := hid (fun W (hW : Below w.heap.size w W) => by
    have := spec_valid m (some q) yss.length cap' B' yss W rfl hlen' hx'.out (HY.out.below (hW.mono hB')) (Nat.le_trans hB' hW.size)
    rw [hv2] at this
    exact this)
  have NO := hid (fun (hs : sameOk n m xss yss = false) => (⟨(uni_no hs).1.symm.trans hzs, (uni_no hs).2.1.symm.trans hnn, (uni_no hs).2.2.symm.trans hok⟩ : [] = zss ∧ 0 = nn ∧ false = ok))
  obtain ⟨c0, c1, z1, _, _⟩ := K1.out
  obtain ⟨d0, d1, z2, _, _⟩ := K2.out
  go_enter Try.func12, Try.ntmps12
  go_wp2_with fail
  with_reducible refine (V1.out w0 B3.out).mono ?_
  rintro e w3 ⟨rfl, hb⟩
  have hs3 := hb.size
  replace K1 := hid (K1.out.below hb)
  replace K2 := hid (K2.out.below hb)
  replace K3 := hid (K3.out.below hb)
  replace B3 := hid (B3.out.trans (hb.mono B3.out.size))
  clear hb c0 c1 z1 d0 d1 z2 V1 hw0
  obtain ⟨c0, c1, z1, _, _⟩ := K1.out
  obtain ⟨d0, d1, z2, _, _⟩ := K2.out
  obtain ⟨e0, e1, z3, _, _⟩ := K3.out
  cases v1 with
  | false =>
    obtain ⟨rfl, rfl, rfl⟩ := NO.out (by simp [sameOk, hv1])
    have hset := has2_set (u := .int .i64 0) (v := .slice none 0 0) K3.out
    clear hv1 hv2 hzs hnn hok NO
    go_wp2
    exact bodyPost_ret (v := .tuple #[.agg #[.int .i64 0, .slice none 0 0], .bool false]) (by simp [results, Try.results12, go_sem, hset.1, hset.2.1]) rfl ⟨none, 0, [], rfl, GOwn.nil _ _ _ _, (B3.out.setCell (by simp; omega) _).setCell (by simp; omega) _⟩
  | true =>
    go_wp2_with fail
    with_reducible refine (V2.out w3 B3.out).mono ?_
    rintro e w4 ⟨rfl, hb⟩
    have hs4 := hb.size
    replace K1 := hid (K1.out.below hb)
    replace K2 := hid (K2.out.below hb)
    replace K3 := hid (K3.out.below hb)
    replace B3 := hid (B3.out.trans (hb.mono B3.out.size))
    clear hb c0 c1 z1 d0 d1 z2 e0 e1 z3 V2
    obtain ⟨c0, c1, z1, _, _⟩ := K1.out
    obtain ⟨d0, d1, z2, _, _⟩ := K2.out
    obtain ⟨e0, e1, z3, _, _⟩ := K3.out
    cases v2 with
    | false =>
      obtain ⟨rfl, rfl, rfl⟩ := NO.out (by simp [sameOk, hv2])
      have hset := has2_set (u := .int .i64 0) (v := .slice none 0 0) K3.out
      clear hv1 hv2 hzs hnn hok NO
      go_wp2
      exact bodyPost_ret (v := .tuple #[.agg #[.int .i64 0, .slice none 0 0], .bool false]) (by simp [results, Try.results12, go_sem, hset.1, hset.2.1]) rfl ⟨none, 0, [], rfl, GOwn.nil _ _ _ _, (B3.out.setCell (by simp; omega) _).setCell (by simp; omega) _⟩
    | true =>
      by_cases hnm : n = m
      · have heq : (n != m) = false := by simp [hnm]
        have hsm : sameOk n m xss yss = true := by simp [sameOk, hnm, hv2]; rw [hnm] at hv1; exact hv1
        have hrr : newR n (xss ++ yss) = zss := (uni_yes hsm).1.symm.trans hzs
        have hrn : newN n (xss ++ yss) = nn := (uni_yes hsm).2.1.symm.trans hnn
        have hro : newOk n (xss ++ yss) = ok := (uni_yes hsm).2.2.symm.trans hok
        clear hv1 hv2 hzs hnn hok NO hsm hnm
        have hBw := Nat.le_trans hB B3.out.size
        have hBw' := Nat.le_trans hB' B3.out.size
        obtain ⟨vs0, H0, S0⟩ := grd_heads (HG.out.below (B3.out.mono hB)) (fun e => by cases e)
        obtain ⟨vs1, H1, S1⟩ := grd_heads (HY.out.below (B3.out.mono hB')) (fun e => by cases e)
        have HS0 := hid S0
        have HS1 := hid S1
        have HH := hid (hs_append H0 H1 (C := w4.heap.size) hBw hBw')
        have htt : tot (xss ++ yss) ≤ 1048576 := by rw [tot_append]; exact ht
        have hll : (xss ++ yss).length = xss.length + yss.length := List.length_append
        have m1 : 0 + xss.length ≤ maxLen := by unfold maxLen; omega
        have b1 : (0 + xss.length) * 24 ≤ 140737488355328 := by omega
        have m2 : xss.length + yss.length ≤ maxLen := by unfold maxLen; omega
        have b2 : (xss.length + yss.length) * 24 ≤ 140737488355328 := by omega
        have NW := hid (fun W (v : Value) (hW : Below w4.heap.size w4 W) (hr : W.ownsRow w4.heap.size eR 1 v (xss.length + yss.length) (vs0 ++ vs1)) => show Calls Try.prog 34 #[.int .i64 n, v] W (fun e w' => ∃ a' c' vs, e = .returned (.tuple #[.agg #[.int .i64 (newN n (xss ++ yss)), .slice a' (newR n (xss ++ yss)).length c'], .bool (newOk n (xss ++ yss))]) ∧ GOwn w' W.heap.size eR eI (.slice a' (newR n (xss ++ yss)).length c') vs (newR n (xss ++ yss)) ∧ Below W.heap.size W w') from by
          rw [← hll] at hr
          have hgo : ∃ a c, v = .slice a (xss ++ yss).length c ∧ (xss ++ yss).length ≤ c := by
            rcases hr.2 with ⟨hv, h0⟩ | ⟨g, c, cur, hv, _, _, hc, _⟩
            · exact ⟨none, 0, by rw [h0]; exact hv, by omega⟩
            · exact ⟨_, c, hv, hc⟩
          obtain ⟨a, c, rfl, hc⟩ := hgo
          exact spec_new n a c W.heap.size (xss ++ yss) W htt hc (hs_grd hr (HH.out.below hW) hW.size) (Nat.le_refl _))
        clear H0 H1 S0 S1 HG HY HH htt hx hx'
        have hk := kp_refl w4
        rw [hrn, hrr, hro] at NW
        clear hrn hrr hro
        go_upto_region 3 with fail
        go_cut [6, 7] (fun s6 s7 wx => ∃ (g : Nat) (a0 : Option Addr) (cap0 : Nat) (us : List Value), s6 = .pointer (some ⟨g, 0, none⟩) ∧ s7 = .bool ok ∧ Has2 wx g (.int .i64 nn) (.slice a0 zss.length cap0) ∧ GOwn wx w4.heap.size eR eI (.slice a0 zss.length cap0) us zss ∧ w4.heap.size ≤ g ∧ Kp w4 0 wx)
        case first =>
          have MK := hid (fun W (hW : Kp w4 0 W) => (⟨(hW.bel.cell (p := ⟨w.heap.size, 0, none⟩) (by show w.heap.size < _; omega)).trans c0, (hW.bel.cell (p := ⟨w.heap.size, 1, none⟩) (by show w.heap.size < _; omega)).trans c1, (hW.bel.cell (p := ⟨w.heap.size + 1, 1, none⟩) (by show w.heap.size + 1 < _; omega)).trans d1, hW⟩ : W.cell? ⟨w.heap.size, 0, none⟩ = some (.int .i64 n) ∧ W.cell? ⟨w.heap.size, 1, none⟩ = some (.slice (some p) xss.length cap) ∧ W.cell? ⟨w.heap.size + 1, 1, none⟩ = some (.slice (some q) yss.length cap') ∧ Kp w4 0 W))
          go_region_held_law (fun w' => w'.cell? ⟨w.heap.size, 0, none⟩ = some (.int .i64 n) ∧ w'.cell? ⟨w.heap.size, 1, none⟩ = some (.slice (some p) xss.length cap) ∧ w'.cell? ⟨w.heap.size + 1, 1, none⟩ = some (.slice (some q) yss.length cap') ∧ Kp w4 0 w')
            (first
              | (go_split_ands
                 refine MK.out _ ?_
                 first | (with_reducible assumption) | (with_reducible exact Kp.drew (by assumption)) | (with_reducible exact Kp.call (by assumption) hb1) | (with_reducible exact Kp.alloc (by assumption) _) | (with_reducible exact Kp.alloc_drew (by assumption) _) | (with_reducible exact Kp.reall (by assumption) (by omega) _) | (with_reducible exact Keep.Kp.set (by assumption) (by omega) _ _)))
            (first | (go_split_ands; (refine step_anyB rfl _ _ 23 rfl w4.heap.size eR i1 (.slice none 0 0) 24 Try.underlying23 hj hy0 hy1 hy2 rfl _ 0 [] (by rfl) (by first | exact zeroRow _ _ (by simp) | exact zeroRow1 _ _ | exact own_alloc (zeroRow _ _ (by simp)) _) (some p) xss.length _ vs0 (by rfl) (HS0.out.on (fun x u hq => ((Kp.bel (n := 0) (w := w4) (by with_reducible assumption)).cell (World.block_lt_of_cell? w4 x hq)).trans hq)) m1 b1 (Kp.bel (n := 0) (w := w4) (by with_reducible assumption)).size ?_); intro v8 w8 hown1 hgr1 hold1; have O8 := hid (show w8.ownsRow w4.heap.size eR 1 v8 xss.length vs0 from by simpa using hown1); have hkp8 : Kp w4 0 w8 := kp_grown (by with_reducible assumption) hgr1 (fun k hk => (World.ownsRow.lt hold1 k hk).1); (first | (have HB8 := hid (Bx.grown (bx_new _).drew hgr1 (Bx.far (bx_new _).drew hold1))) | (have HB8 := hid (Bx.grown ((bx_new _).alloc _).drew hgr1 (Bx.far ((bx_new _).alloc _).drew hold1))) | (have HB8 := hid (Bx.grown (bx_new _) hgr1 (Bx.far (bx_new _) hold1))) | (have HB8 := hid (Bx.grown ((bx_new _).alloc _) hgr1 (Bx.far ((bx_new _).alloc _) hold1))) | skip); have hz8 := hkp8.bel.size; clear hown1 hgr1 hold1) | (go_split_ands; (refine step_anyB rfl _ _ 23 rfl w4.heap.size eR i1 (.slice none 0 0) 24 Try.underlying23 hj hy0 hy1 hy2 rfl v8 xss.length vs0 (by rfl) (by first | exact O8.out | exact own_alloc O8.out _) (some q) yss.length _ vs1 (by rfl) (HS1.out.on (fun x u hq => ((Kp.bel (n := 0) (w := w4) (by with_reducible assumption)).cell (World.block_lt_of_cell? w4 x hq)).trans hq)) m2 b2 (Kp.bel (n := 0) (w := w4) (by with_reducible assumption)).size ?_); intro v9 w9 hown2 hgr2 hold2; have O9 := hid hown2; have hkp9 : Kp w4 0 w9 := kp_grown (by with_reducible assumption) hgr2 (fun k hk => (World.ownsRow.lt hold2 k hk).1); (first | (have HB9 := hid (Bx.grown (bx_new _) hgr2 (Bx.far (bx_new _) hold2))) | (have HB9 := hid (Bx.grown HB8.out hgr2 (Bx.far HB8.out hold2))) | skip); have hz9 := hkp9.bel.size; clear hown2 hgr2 hold2) | (go_split_ands; go_at_call 34; (with_reducible refine (NW.out _ v9 (Kp.bel (n := 0) (w := w4) (by with_reducible assumption)) (by first | (with_reducible exact O9.out) | (with_reducible exact own_alloc O9.out _))).mono ?_); rintro e wN ⟨a0, cap0, us, rfl, hown, hb1⟩; have HGN := hid hown; (try (have hbl9 := HB9.out.lt)); (try simp only [World.size_alloc] at hbl9); (try dsimp only [World.drew] at hbl9); have hszN := hb1.size; have hzN : w4.heap.size ≤ wN.heap.size := Nat.le_trans (Kp.bel (n := 0) (w := w4) (by with_reducible assumption)).size hb1.size; (first | (have HBN := hid (Bx.has2 (Bx.below (bx_new _) hb1))) | (have HBN := hid (Bx.has2 (Bx.below HB9.out hb1))) | skip); (try simp only [World.size_alloc] at HBN); (try dsimp only [World.drew] at HBN); (try obtain ⟨f0, f1, fz, ff0, ff1⟩ := HBN.out); clear hown))
          all_goals
            go_split_ands
            go_wp2_with fail
            go_meet
            go_split_ands
            first
              | exact ⟨_, a0, cap0, us, rfl, rfl, has2_new _ _ _ _, (HGN.out.alloc _).mono (by (try simp only [World.size_alloc]); omega), by omega, by with_reducible assumption⟩
              | exact ⟨_, a0, cap0, us, rfl, rfl, has2_set HBN.out, (gown_set (gown_set HGN.out (by (try simp only [World.size_alloc]); omega) _) (by (try simp only [World.size_alloc]); omega) _).mono (by (try simp only [World.size_alloc]); omega), by omega, by with_reducible assumption⟩
        case rest =>
          obtain ⟨g, a0, cap0, us, rfl, rfl, hH, hown, hg, hkp⟩ := hcut
          obtain ⟨w5, rfl⟩ : ∃ wo : World, wo = wc := ⟨_, rfl⟩
          have hb5 := hkp.bel
          have KR := hid (K3.out.below hb5)
          have HB5 := hid (B3.out.trans (hb5.mono B3.out.size))
          have HO := hid hown
          obtain ⟨g0, g1, gz, _, _⟩ := hH
          have hset := has2_set (u := .int .i64 nn) (v := .slice a0 zss.length cap0) KR.out
          obtain ⟨r0, r1, rz, _, _⟩ := KR.out
          clear hown hb5 hkp e0 e1 z3
          go_wp2
          exact bodyPost_ret (v := .tuple #[.agg #[.int .i64 nn, .slice a0 zss.length cap0], .bool ok]) (by simp [results, Try.results12, go_sem, hset.1, hset.2.1]) rfl ⟨a0, cap0, us, rfl, gown_mono (gown_set (gown_set HO.out (by omega) _) (by omega) _) (by omega), (HB5.out.setCell (by simp; omega) _).setCell (by simp; omega) _⟩
      · have heq : (n != m) = true := by simp [hnm]
        obtain ⟨rfl, rfl, rfl⟩ := NO.out (by simp [sameOk, hnm])
        have hset := has2_set (u := .int .i64 0) (v := .slice none 0 0) K3.out
        clear hv1 hv2 hzs hnn hok NO hnm
        go_wp2
        exact bodyPost_ret (v := .tuple #[.agg #[.int .i64 0, .slice none 0 0], .bool false]) (by simp [results, Try.results12, go_sem, hset.1, hset.2.1]) rfl ⟨none, 0, [], rfl, GOwn.nil _ _ _ _, (B3.out.setCell (by simp; omega) _).setCell (by simp; omega) _⟩
end Go.Proofs.Ytffhfnkcbgbliaa.UniS
