/- The model's insertion of a row (spec.InsertRow). -/
import Derived.Test.YtnnoicabfpbemaaCopyS
import Derived.Test.YtnnoicabfpbemaaRelValidS
import Derived.Test.YtnnoicabfpbemaaPlc
import Derived.Test.YtnnoicabfpbemaaDelS
import Derived.Test.YtnnoicabfpbemaaGridAny
namespace Go.Proofs.Ytnnoicabfpbemaa.InsS
open Go.RowKit
open Go.Proofs.Ytnnoicabfpbemaa.Num Go.Proofs.Ytnnoicabfpbemaa.IntRow Go.Proofs.Ytnnoicabfpbemaa.IntLaw Go.Proofs.Ytnnoicabfpbemaa.Grid Go.Proofs.Ytnnoicabfpbemaa.GridMore Go.Proofs.Ytnnoicabfpbemaa.GridLaw Go.Proofs.Ytnnoicabfpbemaa.GridLaw2 Go.Proofs.Ytnnoicabfpbemaa.Keep Go.Proofs.Ytnnoicabfpbemaa.Kept Go.Proofs.Ytnnoicabfpbemaa.Cells Go.Proofs.Ytnnoicabfpbemaa.RelKit Go.Proofs.Ytnnoicabfpbemaa.Vals Go.Proofs.Ytnnoicabfpbemaa.GridApp Go.Proofs.Ytnnoicabfpbemaa.CopyS Go.Proofs.Ytnnoicabfpbemaa.Asc Go.Proofs.Ytnnoicabfpbemaa.RelValidS Go.Proofs.Ytnnoicabfpbemaa.RelPlaceS Go.Proofs.Ytnnoicabfpbemaa.Plc Go.Proofs.Ytnnoicabfpbemaa.DelS Go.Proofs.Ytnnoicabfpbemaa.GridAny
set_option linter.unusedVariables false

theorem ZeroR (w : World) : (w.alloc (.cells #[] eR)).ownsRow w.heap.size eR 1 (.slice (some ⟨w.heap.size, 0, none⟩) 0 0) 0 [] :=
  World.ownsRow_made (size := 1) (e := eR) (base := w.heap.size) w #[] 0 (Nat.le_refl _) (Nat.zero_le _) rfl
theorem rowForm {w : World} {lo n : Nat} {v : Value} {us : List Value} (h : w.ownsRow lo eR 1 v n us) : ∃ a cap, v = .slice a n cap := by
  rcases h.2 with ⟨rfl, h0⟩ | ⟨gg, cc, cur, rfl, _⟩
  · exact ⟨none, 0, by rw [h0]⟩
  · exact ⟨_, _, rfl⟩
theorem HeadsAt {w : World} {lo g n cap : Nat} {us : List Value} (h : w.ownsRow lo eR 1 (.slice (some ⟨g, 0, none⟩) n cap) n us) (W : World) (hW : ∀ q u, w.cell? q = some u → W.cell? q = some u) : ∀ j u, us[j]? = some u → W.cell? ((⟨g, 0, none⟩ : Addr).add j) = some u := fun j u hj => by
  rw [Addr.add_lit, Nat.zero_add]
  have hjl : j < n := by have h1 := (List.getElem?_eq_some_iff.1 hj).1; have h2 := h.1; omega
  exact hW _ _ ((h.cellAt j (by omega)).trans hj)
theorem Far7 {w6 w7 : World} {u : Value} {r : List Int} {lo : Nat} {vs : List Value} {xss : List (List Int)} (hu : Own w7 w6.drew.heap.size eI u r) (h : Rws w6 lo eI vs xss) : ∀ u' ∈ vs, Far u u' := fun u' hu2 k hk hk2 => by
  have h1 : w6.heap.size ≤ k := (hu.lt k hk).1
  have h2 := (h.lt hu2 k hk2).2
  omega
theorem OneMore (u : Value) (hu : u.oneCell' = true) {us : List Value} (h : ∀ x ∈ us, x.oneCell' = true) : ∀ x ∈ [u] ++ us, x.oneCell' = true := fun x hx => by
  rcases List.mem_append.1 hx with hx | hx
  · simp at hx; subst hx; exact hu
  · exact h x hx
theorem OneR (w : World) (u : Value) : (w.alloc (.cells #[u] eR)).ownsRow w.heap.size eR 1 (.slice (some ⟨w.heap.size, 0, none⟩) 1 1) 1 [u] :=
  ⟨rfl, .inr ⟨w.heap.size, 1, #[u], rfl, Nat.le_refl _, Go.heap_alloc_new _ _, Nat.le_refl _, by unfold maxLen; omega, rfl, rfl⟩⟩
set_option maxRecDepth 100000 in
set_option maxHeartbeats 4000000 in
theorem spec_insert (n : Int) (a ar : Option Addr) (cap capr len B B' : Nat) (xss : List (List Int)) (r : List Int) (w : World) (hl : xss.length = len) (ht : tot xss ≤ 1048576) (hr : r.length ≤ 1048576) (h : GRd w B a xss) (h' : Rd w B' ar r) (hB : B ≤ w.heap.size) (hB' : B' ≤ w.heap.size) :
    Calls Try.prog 16 #[.agg #[.int .i64 n, .slice a len cap], .slice ar r.length capr] w fun e w' => ∃ a' cap' vs, e = .returned (.tuple #[.agg #[.int .i64 n, .slice a' (insR n xss r).length cap'], .bool (insOk n xss r)]) ∧ GOwn w' w.heap.size eR eI (.slice a' (insR n xss r).length cap') vs (insR n xss r) ∧ Below w.heap.size w w' := by
  subst hl
  obtain ⟨zss, hzs⟩ : ∃ z, insR n xss r = z := ⟨_, rfl⟩
  obtain ⟨ok, hok⟩ : ∃ z, insOk n xss r = z := ⟨_, rfl⟩
  rw [hzs, hok]
  have hlen : xss.length ≤ 1048576 := len_le ht
  have hx := each_le ht
  have K1 := hid ((has2_new w (.int .i64 n) (.slice a xss.length cap) 26).alloc (.cells #[.int .i64 0, .slice none 0 0] 26))
  have K2 := hid (has2_new (w.alloc (.cells #[.int .i64 n, .slice a xss.length cap] 26)) (.int .i64 0) (.slice none 0 0) 26)
  have B2 := hid (((Below.refl w.heap.size w).alloc (Nat.le_refl _) (.cells #[.int .i64 n, .slice a xss.length cap] 26)).alloc (by simp) (.cells #[.int .i64 0, .slice none 0 0] 26))
  simp only [World.size_alloc] at K1 K2
  have HG := hid h
  have HR := hid h'
  clear h h'
  obtain ⟨c0, c1, z1, _, _⟩ := K1.out
  go_enter Try.func16, Try.ntmps16
  go_wp2_with fail
  refine (spec_copy' n a cap B xss _ ht (HG.out.below (B2.out.mono hB)) (by have := B2.out.size; omega)).mono ?_
  rintro e w3 ⟨a1, cap1, vs, rfl, hown, hb, hnl⟩
  have HN := hid hnl
  clear hnl
  have hs3 := hb.size
  simp only [World.size_alloc] at hs3
  replace K1 := hid (K1.out.below hb)
  replace K2 := hid (K2.out.below hb)
  have B3 := hid (B2.out.trans (hb.mono B2.out.size))
  have X := hid (hown.mono (lo' := w.heap.size + 1 + 1) (by simp))
  have XL := hid (rws_of hown)
  clear hb hown c0 c1 z1
  obtain ⟨c0, c1, z1, _, _⟩ := K1.out
  have X4 := hid (X.out.alloc (.cells #[.int .i64 n, .slice a1 xss.length cap1] 26))
  have K3 := hid (has2_new w3 (.int .i64 n) (.slice a1 xss.length cap1) 26)
  have K1a := hid (K1.out.alloc (.cells #[.int .i64 n, .slice a1 xss.length cap1] 26))
  have K2a := hid (K2.out.alloc (.cells #[.int .i64 n, .slice a1 xss.length cap1] 26))
  have B4 := hid (B3.out.alloc B3.out.size (.cells #[.int .i64 n, .slice a1 xss.length cap1] 26))
  have V := hid (spec_valid n a xss.length cap B xss _ rfl hlen hx (HG.out.below (B4.out.mono hB)) (by have := B4.out.size; omega))
  obtain ⟨v, hv⟩ : ∃ v, vrel n xss = v := ⟨_, rfl⟩
  rw [hv] at V
  go_wp2_with fail
  refine V.out.mono ?_
  rintro e w5 ⟨rfl, hb⟩
  have hs5 := hb.size
  simp only [World.size_alloc] at hs5
  have J1 := hid (K1a.out.below hb)
  have J2 := hid (K2a.out.below hb)
  have J3 := hid (K3.out.below hb)
  have X5 := hid (X4.out.below' hb)
  have B5 := hid (B4.out.trans (hb.mono B4.out.size))
  clear hb c0 c1 z1 K1 K2 K1a K2a K3 X X4 V B4 B3
  obtain ⟨c0, c1, z1, _, _⟩ := J1.out
  obtain ⟨d0, d1, z2, _, _⟩ := J2.out
  obtain ⟨e0, e1, z3, _, _⟩ := J3.out
  cases v with
  | false =>
    have hno : insOk n xss r = false := by simp [insOk, hv]
    have hno2 : insR n xss r = xss := by simp [insR, hno]
    obtain rfl : false = ok := hno.symm.trans hok
    obtain rfl : xss = zss := hno2.symm.trans hzs
    have hset := has2_set (u := .int .i64 n) (v := .slice a1 xss.length cap1) J2.out
    go_wp2
    exact bodyPost_ret (v := .tuple #[.agg #[.int .i64 n, .slice a1 xss.length cap1], .bool false]) (by simp [results, Try.results16, go_sem, hset.1, hset.2.1]) rfl ⟨a1, cap1, vs, rfl, gown_mono (gown_set (gown_set X5.out (by omega) _) (by omega) _) (by omega), (B5.out.setCell (by simp) _).setCell (by simp) _⟩
  | true =>
    obtain ⟨_, h4, _, ha⟩ := vrel_parts hv
    by_cases hal : (r.length : Int) = n
    · have htl : ((r.length : Int) != n) = false := by simp [hal]
      have RO := hid (spec_are ar capr B' r w5 hr (HR.out.below (B5.out.mono hB')))
      obtain ⟨q, hq⟩ : ∃ q, vals r = q := ⟨_, rfl⟩
      rw [hq] at RO
      have hrk := hid (show rowOk n r = q by simp [rowOk, hal, hq])
      clear hal
      go_wp2_with fail
      refine RO.out.mono ?_
      rintro e w5' ⟨rfl, rfl⟩
      cases q with
      | false =>
        have hno : insOk n xss r = false := by simp [insOk, hrk.out]
        have hno2 : insR n xss r = xss := by simp [insR, hno]
        obtain rfl : false = ok := hno.symm.trans hok
        obtain rfl : xss = zss := hno2.symm.trans hzs
        have hset := has2_set (u := .int .i64 n) (v := .slice a1 xss.length cap1) J2.out
        go_wp2
        exact bodyPost_ret (v := .tuple #[.agg #[.int .i64 n, .slice a1 xss.length cap1], .bool false]) (by simp [results, Try.results16, go_sem, hset.1, hset.2.1]) rfl ⟨a1, cap1, vs, rfl, gown_mono (gown_set (gown_set X5.out (by omega) _) (by omega) _) (by omega), (B5.out.setCell (by simp) _).setCell (by simp) _⟩
      | true =>
        go_wp2_with fail
        refine (spec_place n a ar cap capr xss.length B B' xss r w5 rfl (by omega) hx hr ha (HG.out.below (B5.out.mono hB)) (HR.out.below (B5.out.mono hB')) (by have := B5.out.size; omega) (by have := B5.out.size; omega)).mono ?_
        rintro e w6 ⟨p, he, hpl, hb⟩
        obtain ⟨m, hm⟩ : ∃ m, decide (r ∈ xss) = m := ⟨_, rfl⟩
        rw [hm] at he
        subst he
        have hs6 := hb.size
        have L1 := hid (J1.out.below hb)
        have L2 := hid (J2.out.below hb)
        have L3 := hid (J3.out.below hb)
        have X6 := hid (X5.out.below' hb)
        have B6 := hid (B5.out.trans (hb.mono B5.out.size))
        have hp := hpl.unique (plc_pl ha)
        have HP := hid hpl.le
        clear hb hpl c0 c1 z1 d0 d1 z2 e0 e1 z3 J1 J2 J3 X5 B5 RO
        obtain ⟨c0, c1, z1, _, _⟩ := L1.out
        obtain ⟨d0, d1, z2, _, _⟩ := L2.out
        obtain ⟨e0, e1, z3, _, _⟩ := L3.out
        cases m with
        | true =>
          have hno : insOk n xss r = false := by simp only [insOk, hm]; simp
          have hno2 : insR n xss r = xss := by simp [insR, hno]
          obtain rfl : false = ok := hno.symm.trans hok
          obtain rfl : xss = zss := hno2.symm.trans hzs
          clear hp
          have hset := has2_set (u := .int .i64 n) (v := .slice a1 xss.length cap1) L2.out
          go_wp2
          exact bodyPost_ret (v := .tuple #[.agg #[.int .i64 n, .slice a1 xss.length cap1], .bool false]) (by simp [results, Try.results16, go_sem, hset.1, hset.2.1]) rfl ⟨a1, cap1, vs, rfl, gown_mono (gown_set (gown_set X6.out (by omega) _) (by omega) _) (by omega), (B6.out.setCell (by simp) _).setCell (by simp) _⟩
        | false =>
          by_cases h40 : xss.length = 4000
          · have ht40 : ((xss.length : Int) == 4000) = true := by simp [h40]
            have hno : insOk n xss r = false := by simp [insOk, h40]
            have hno2 : insR n xss r = xss := by simp [insR, hno]
            obtain rfl : false = ok := hno.symm.trans hok
            obtain rfl : xss = zss := hno2.symm.trans hzs
            clear hp h40
            have hset := has2_set (u := .int .i64 n) (v := .slice a1 xss.length cap1) L2.out
            go_wp2
            exact bodyPost_ret (v := .tuple #[.agg #[.int .i64 n, .slice a1 xss.length cap1], .bool false]) (by simp [results, Try.results16, go_sem, hset.1, hset.2.1]) rfl ⟨a1, cap1, vs, rfl, gown_mono (gown_set (gown_set X6.out (by omega) _) (by omega) _) (by omega), (B6.out.setCell (by simp) _).setCell (by simp) _⟩
          · have ht40 : ((xss.length : Int) == 4000) = false := by simp; omega
            have hyes : insOk n xss r = true := by simp only [insOk, hv, hrk.out, hm]; simp [h40]
            have hyes2 : insR n xss r = xss.take p ++ r :: xss.drop p := by simp [insR, hyes, inR, hp]
            obtain rfl : true = ok := hyes.symm.trans hok
            rw [hyes2] at hzs
            clear hyes hyes2 hok hp hm hv
            obtain ⟨i0, hi, hz0, hz1, hz2⟩ := info_parts IntLaw.info
            obtain ⟨i1, hj, hy0, hy1, hy2⟩ := info_parts GridLaw.info
            have HR6 := hid ((HR.out.below (B6.out.mono hB')).drew)
            have hB6 : B' ≤ w6.drew.heap.size := by have := B6.out.size; show B' ≤ w6.heap.size; omega
            have XW := hid (rws_of X6.out)
            have hsd : w6.heap.size ≤ w6.drew.heap.size := Nat.le_refl _
            have hlv := X6.out.len
            obtain ⟨q, m, cq, SF, SU, hmp, S1, S2⟩ := parts_of (P := Try.prog) X6.out 24 i1 Try.underlying24 hj hy1 p HP.out
            have T2 := hid S1
            have T1 := hid S2
            have hpl : p ≤ xss.length := HP.out
            have hp0 : (0 : Int) ≤ (p : Int) := by omega
            have hp1 : (p : Int) ≤ (xss.length : Int) := by omega
            have hm1 : m ≤ 1048576 := by omega
            have hm2 : p ≤ 1048576 := by omega
            have hz := hid (show zss.length = p + (1 + m) by rw [← hzs]; simp; omega)
            have m1 : 1 + m ≤ maxLen := by unfold maxLen; omega
            have b1 : (1 + m) * 24 ≤ 140737488355328 := by omega
            have m2 : 0 + p ≤ maxLen := by unfold maxLen; omega
            have b2 : (0 + p) * 24 ≤ 140737488355328 := by omega
            have m3 : p + (1 + m) ≤ maxLen := by unfold maxLen; omega
            have b3 : (p + (1 + m)) * 24 ≤ 140737488355328 := by omega
            clear S1 S2 hmp
            go_wp2_with fail
            go_region_law (first
              | (refine step_copy rfl _ _ 27 rfl 3 i0 Try.underlying27 hi hz0 hz1 hz2 w6.drew (by rfl) ar capr B' r (by rfl) HR6.out hB6 hr ?_; intro u w7 hu hb1; obtain ⟨au, capu, rfl, _, _, _⟩ := hu.form; have HU := hid hu; have b7 := hid hb1; have hs7 : w6.heap.size ≤ w7.heap.size := hb1.size; have M2 := hid (L2.out.drew.below hb1); have M3 := hid (L3.out.drew.below hb1); obtain ⟨y0, y1, yz, yf0, yf1⟩ := M3.out; clear hu hb1)
              | (refine step_any rfl _ _ 24 rfl w7.heap.size eR i1 (.slice none 0 0) 24 Try.underlying24 hj hy0 hy1 hy2 rfl _ 1 [Value.slice au r.length capu] (by rfl) (OneR w7 _) q m _ (vs.drop p) (by rfl) (T2.out.on (fun x u hq => cell_all ((b7.out.cell (p := x) (World.block_lt_of_cell? w6 x hq)).trans hq) _)) m1 b1 (by rw [World.size_alloc]; omega) ?_; intro v8 w8 hown1 hgr0; have hgr1 : World.grownBy (w7.alloc (.cells #[Value.slice au r.length capu] eR)) w8 (some w7.heap.size) := hgr0; have G1 := hid hgr1; have O1 := hid hown1; obtain ⟨g8, cap8, rfl, hg8, hg8'⟩ := hown1.form (by omega); have hs8 : w7.heap.size + 1 ≤ w8.heap.size := (by have hq := hgr1.size; rw [World.size_alloc] at hq; exact hq); have P2 := hid (has2_grown (M2.out.alloc (.cells #[Value.slice au r.length capu] eR)) hgr1 (fun e => by have := Option.some.inj e; omega)); have P3 := hid (has2_grown (M3.out.alloc (.cells #[Value.slice au r.length capu] eR)) hgr1 (fun e => by have := Option.some.inj e; omega)); obtain ⟨x0, x1, xz, xf0, xf1⟩ := P3.out; have b8 := hid (((((Below.refl w6.heap.size w6).drew.trans (b7.out.mono (Nat.le_refl _))).alloc hs7 (.cells #[Value.slice au r.length capu] eR))).grown hgr1 (by rw [World.size_alloc]; omega) (fun k hk => by have := Option.some.inj hk; omega)); have HU8 := hid (Own.grown (HU.out.alloc (.cells #[Value.slice au r.length capu] eR)) hgr1 (fun k hk e => by have h1 := (HU.out.lt k hk).2; have h2 := Option.some.inj e; omega)); have hfar := hid (Far7 HU.out XW.out); have T3 := hid (OneMore (Value.slice au r.length capu) rfl T2.out.2.1); have N8 := hid (srcs_own O1.out T3.out); have O8 := hid (ZeroR w8); have N9 := hid (T1.out.on (W := w8.alloc (.cells #[] eR)) (fun x u hq => cell_all ((b8.out.cell (p := x) (World.block_lt_of_cell? w6 x hq)).trans hq) _)); have S8 : w8.heap.size ≤ (w8.alloc (.cells #[] eR)).heap.size := (by rw [World.size_alloc]; omega); clear hown1 hgr0 hgr1))
            all_goals
              go_wp2_with (first
                | (at_builtin; refine wpList_any rfl _ _ 24 rfl w8.heap.size eR i1 (.slice none 0 0) 24 Try.underlying24 hj hy0 hy1 hy2 rfl _ 0 [] rfl O8.out a1 p _ (vs.take p) rfl N9.out m2 b2 S8 ?_; intro v10 w10 hown2 hgr0; have hgr2 : World.grownBy (w8.alloc (.cells #[] eR)) w10 (some w8.heap.size) := hgr0; have O10 := hid (show w10.ownsRow w8.heap.size eR 1 v10 p (vs.take p) from by simpa using hown2); have hs10 : w8.heap.size + 1 ≤ w10.heap.size := (by have hq := hgr2.size; rw [World.size_alloc] at hq; exact hq); have Q2 := hid (has2_grown (P2.out.alloc (.cells #[] eR)) hgr2 (fun e => by have := Option.some.inj e; omega)); have Q3 := hid (has2_grown (P3.out.alloc (.cells #[] eR)) hgr2 (fun e => by have := Option.some.inj e; omega)); have b10 := hid ((b8.out.alloc (by omega) (.cells #[] eR)).grown hgr2 (by rw [World.size_alloc]; omega) (fun k hk => by have := Option.some.inj hk; omega)); have HU10 := hid (Own.grown (HU8.out.alloc (.cells #[] eR)) hgr2 (fun k hk e => by have h1 := (HU8.out.lt k hk).2; have h2 := Option.some.inj e; omega)); have N10 := hid (N8.out.on (W := w10) (fun x u hq => at_grown (cell_all hq (.cells #[] eR)) hgr2 (fun k hk e => by have h1 := World.block_lt_of_cell? w8 x hq; have h2 := Option.some.inj hk; omega))); have S10 : w8.heap.size ≤ w10.heap.size := (by omega); obtain ⟨v10a, v10c, ev10⟩ := rowForm O10.out; subst ev10; clear hown2 hgr0 hgr2)
                | (at_builtin; refine wpList_any rfl _ _ 24 rfl w8.heap.size eR i1 (.slice none 0 0) 24 Try.underlying24 hj hy0 hy1 hy2 rfl _ p (vs.take p) rfl O10.out (some ⟨g8, 0, none⟩) (1 + m) _ ([Value.slice au r.length capu] ++ vs.drop p) rfl N10.out m3 b3 S10 ?_; intro v11 w11 hown3 hgr3; have O11 := hid (show w11.ownsRow w6.heap.size eR 1 v11 zss.length (vs.take p ++ (Value.slice au r.length capu) :: vs.drop p) from row_mono (by rw [hz.out]; simpa using hown3) (by omega)); have hv10 := hid (fun k (hk : (Value.slice v10a p v10c).ownBlock = some k) => (World.ownsRow.lt O10.out k hk).1); have N2 := hid (has2_grown Q2.out hgr3 (fun e => by have := hv10.out _ e; omega)); have N3 := hid (has2_grown Q3.out hgr3 (fun e => by have := hv10.out _ e; omega)); have b11 := hid (b10.out.grown hgr3 (by omega) (fun k hk => by have := hv10.out k hk; omega)); have HU11 := hid (Own.grown HU10.out hgr3 (fun k hk e => by have h1 := (HU8.out.lt k hk).2; have h2 := hv10.out k e; omega)); obtain ⟨av, capv, ev⟩ := rowForm O11.out; subst ev; obtain ⟨s0, s1, sz, sf0, sf1⟩ := N2.out; obtain ⟨k0, k1, kz, kf0, kf1⟩ := N3.out; clear hown3 hgr3))
              have r2 := hid (has2_far N2.out (c := w3.heap.size) (o := 1) (by omega) (.slice av zss.length capv))
              have rw11 := ((XW.out.below' b11.out).mono (lo' := w.heap.size + 1 + 1) (by omega)).put ((HU11.out).mono (by omega)) hfar.out p
              rw [hzs] at rw11
              have G8 := hid ((Rws.gown rw11 (row_mono O11.out (by omega))).grown (DelS.grown_set w11 w3.heap.size 1 (.slice av zss.length capv)) (fun k hk e => by
                have t1 := (World.ownsRow.lt O11.out k hk).1
                have t2 := Option.some.inj e
                omega) (fun j u k hu hk e => by
                have t2 := Option.some.inj e
                have hm := List.mem_of_getElem? hu
                rcases List.mem_append.1 hm with hm | hm
                · have := (XL.out.lt (List.mem_of_mem_take hm) k hk).2; omega
                · rcases List.mem_cons.1 hm with rfl | hm
                  · have := (HU11.out.lt k hk).1; omega
                  · have := (XL.out.lt (List.mem_of_mem_drop hm) k hk).2; omega))
              have B8 := hid ((B6.out.trans (b11.out.mono B6.out.size)).setCell (p := ⟨w3.heap.size, 1, none⟩) (by show w.heap.size ≤ w3.heap.size; omega) (.slice av zss.length capv))
              have hset := has2_set (u := .int .i64 n) (v := .slice av zss.length capv) r2.out
              clear rw11
              go_wp2
              exact bodyPost_ret (v := .tuple #[.agg #[.int .i64 n, .slice av zss.length capv], .bool true]) (by simp [results, Try.results16, go_sem, hset.1, hset.2.1]) rfl ⟨av, capv, _, rfl, gown_mono (gown_set (gown_set G8.out (by omega) _) (by omega) _) (by omega), (B8.out.setCell (by simp) _).setCell (by simp) _⟩
    · have htl : ((r.length : Int) != n) = true := by simp [hal]
      have hno : insOk n xss r = false := by simp [insOk, rowOk, hal]
      have hno2 : insR n xss r = xss := by simp [insR, hno]
      obtain rfl : false = ok := hno.symm.trans hok
      obtain rfl : xss = zss := hno2.symm.trans hzs
      clear hal
      have hset := has2_set (u := .int .i64 n) (v := .slice a1 xss.length cap1) J2.out
      go_wp2
      exact bodyPost_ret (v := .tuple #[.agg #[.int .i64 n, .slice a1 xss.length cap1], .bool false]) (by simp [results, Try.results16, go_sem, hset.1, hset.2.1]) rfl ⟨a1, cap1, vs, rfl, gown_mono (gown_set (gown_set X5.out (by omega) _) (by omega) _) (by omega), (B5.out.setCell (by simp) _).setCell (by simp) _⟩
end Go.Proofs.Ytnnoicabfpbemaa.InsS
