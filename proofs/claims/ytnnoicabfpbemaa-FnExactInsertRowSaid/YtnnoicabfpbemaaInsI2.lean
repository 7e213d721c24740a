/- The program's insertion of a row (impl.InsertRow). -/
import Derived.Test.YtnnoicabfpbemaaInsI
namespace Go.Proofs.Ytnnoicabfpbemaa.InsI2
open Go.RowKit Go.Sort
open Go.Proofs.Ytnnoicabfpbemaa.Num Go.Proofs.Ytnnoicabfpbemaa.IntRow Go.Proofs.Ytnnoicabfpbemaa.IntLaw Go.Proofs.Ytnnoicabfpbemaa.Grid Go.Proofs.Ytnnoicabfpbemaa.GridMore Go.Proofs.Ytnnoicabfpbemaa.GridLaw Go.Proofs.Ytnnoicabfpbemaa.GridLaw2 Go.Proofs.Ytnnoicabfpbemaa.Keep Go.Proofs.Ytnnoicabfpbemaa.Kept Go.Proofs.Ytnnoicabfpbemaa.Cells Go.Proofs.Ytnnoicabfpbemaa.RelKit Go.Proofs.Ytnnoicabfpbemaa.GridApp Go.Proofs.Ytnnoicabfpbemaa.GridHd Go.Proofs.Ytnnoicabfpbemaa.Clones Go.Proofs.Ytnnoicabfpbemaa.Asc Go.Proofs.Ytnnoicabfpbemaa.RelValidS Go.Proofs.Ytnnoicabfpbemaa.RelValidI Go.Proofs.Ytnnoicabfpbemaa.RelPlaceS Go.Proofs.Ytnnoicabfpbemaa.RelPlaceI Go.Proofs.Ytnnoicabfpbemaa.Plc Go.Proofs.Ytnnoicabfpbemaa.InsI
set_option linter.unusedVariables false

set_option maxRecDepth 100000 in
set_option maxHeartbeats 4000000 in
theorem impl_insert (n : Int) (a ar : Option Addr) (cap capr len B B' : Nat) (xss : List (List Int)) (r : List Int) (w : World) (hl : xss.length = len) (ht : tot xss ≤ 1048576) (hr : r.length ≤ 1048576) (h : GRd w B a xss) (h' : Rd w B' ar r) (hB : B ≤ w.heap.size) (hB' : B' ≤ w.heap.size) :
    Calls Try.prog 15 #[.agg #[.int .i64 n, .slice a len cap], .slice ar r.length capr] w fun e w' => ∃ a' cap' vs, e = .returned (.tuple #[.agg #[.int .i64 n, .slice a' (insR n xss r).length cap'], .bool (insOk n xss r)]) ∧ GOwn w' w.heap.size eR eI (.slice a' (insR n xss r).length cap') vs (insR n xss r) ∧ Below w.heap.size w w' := by
  subst hl
  obtain ⟨zss, hzs⟩ : ∃ z, insR n xss r = z := ⟨_, rfl⟩
  obtain ⟨ok, hok⟩ : ∃ z, insOk n xss r = z := ⟨_, rfl⟩
  rw [hzs, hok]
  have hlen : xss.length ≤ 1048576 := len_le ht
  have hx := each_le ht
  have K1 := hid ((has2_new w (.int .i64 n) (.slice a xss.length cap) 26).alloc (.cells #[.int .i64 0, .slice none 0 0] 26))
  have K2 := hid (has2_new (w.alloc (.cells #[.int .i64 n, .slice a xss.length cap] 26)) (.int .i64 0) (.slice none 0 0) 26)
  have B2 := hid (((Below.refl w.heap.size w).alloc (Nat.le_refl _) (.cells #[.int .i64 n, .slice a xss.length cap] 26)).alloc (by simp) (.cells #[.int .i64 0, .slice none 0 0] 26))
  simp only [World.size_alloc] at K1 K2
  have HG := hid h
  have HR := hid h'
  clear h h'
  obtain ⟨c0, c1, z1, _, _⟩ := K1.out
  go_enter Try.func15, Try.ntmps15
  go_wp2_with fail
  refine (impl_clone n a cap B xss _ ht (HG.out.below (B2.out.mono hB)) (by have := B2.out.size; omega)).mono ?_
  rintro e w3 ⟨g, vs, rfl, hg, hown, hb⟩
  have hs3 := hb.size
  simp only [World.size_alloc] at hs3 hg
  replace K1 := hid (K1.out.below hb)
  replace K2 := hid (K2.out.below hb)
  have B3 := hid (B2.out.trans (hb.mono B2.out.size))
  have X := hid hown
  have XL := hid (rws_of hown)
  have XG := hid (hown.lt g rfl)
  clear hb hown c0 c1 z1
  obtain ⟨c0, c1, z1, _, _⟩ := K1.out
  have X4 := hid (X.out.alloc (.cells #[.int .i64 n, .slice (some ⟨g, 0, none⟩) xss.length xss.length] 26))
  have K3 := hid (has2_new w3 (.int .i64 n) (.slice (some ⟨g, 0, none⟩) xss.length xss.length) 26)
  have K1a := hid (K1.out.alloc (.cells #[.int .i64 n, .slice (some ⟨g, 0, none⟩) xss.length xss.length] 26))
  have K2a := hid (K2.out.alloc (.cells #[.int .i64 n, .slice (some ⟨g, 0, none⟩) xss.length xss.length] 26))
  have B4 := hid (B3.out.alloc B3.out.size (.cells #[.int .i64 n, .slice (some ⟨g, 0, none⟩) xss.length xss.length] 26))
  have V := hid (impl_valid n a xss.length cap B xss _ rfl hlen hx (HG.out.below (B4.out.mono hB)) (by have := B4.out.size; omega))
  obtain ⟨v, hv⟩ : ∃ v, vrel n xss = v := ⟨_, rfl⟩
  rw [hv] at V
  go_wp2_with fail
  refine V.out.mono ?_
  rintro e w5 ⟨rfl, hb⟩
  have hs5 := hb.size
  simp only [World.size_alloc] at hs5
  have J1 := hid (K1a.out.below hb)
  have J2 := hid (K2a.out.below hb)
  have J3 := hid (K3.out.below hb)
  have X5 := hid (X4.out.below' hb)
  have B5 := hid (B4.out.trans (hb.mono B4.out.size))
  clear hb c0 c1 z1 K1 K2 K1a K2a K3 X X4 V B4 B3
  obtain ⟨c0, c1, z1, _, _⟩ := J1.out
  obtain ⟨d0, d1, z2, _, _⟩ := J2.out
  obtain ⟨e0, e1, z3, _, _⟩ := J3.out
  cases v with
  | false =>
    have hno : insOk n xss r = false := by simp [insOk, hv]
    have hno2 : insR n xss r = xss := by simp [insR, hno]
    obtain rfl : false = ok := hno.symm.trans hok
    obtain rfl : xss = zss := hno2.symm.trans hzs
    have hset := has2_set (u := .int .i64 n) (v := .slice (some ⟨g, 0, none⟩) xss.length xss.length) J2.out
    go_wp2
    exact bodyPost_ret (v := .tuple #[.agg #[.int .i64 n, .slice (some ⟨g, 0, none⟩) xss.length xss.length], .bool false]) (by simp [results, Try.results15, go_sem, hset.1, hset.2.1]) rfl ⟨some ⟨g, 0, none⟩, xss.length, vs, rfl, gown_mono (gown_set (gown_set X5.out (by omega) _) (by omega) _) (by omega), (B5.out.setCell (by simp) _).setCell (by simp) _⟩
  | true =>
    obtain ⟨_, h4, _, ha⟩ := vrel_parts hv
    by_cases h40 : xss.length = 4000
    · have ht40 : ((xss.length : Int) == 4000) = true := by simp [h40]
      have hno : insOk n xss r = false := by simp [insOk, h40]
      have hno2 : insR n xss r = xss := by simp [insR, hno]
      obtain rfl : false = ok := hno.symm.trans hok
      obtain rfl : xss = zss := hno2.symm.trans hzs
      clear h40
      have hset := has2_set (u := .int .i64 n) (v := .slice (some ⟨g, 0, none⟩) xss.length xss.length) J2.out
      go_wp2
      exact bodyPost_ret (v := .tuple #[.agg #[.int .i64 n, .slice (some ⟨g, 0, none⟩) xss.length xss.length], .bool false]) (by simp [results, Try.results15, go_sem, hset.1, hset.2.1]) rfl ⟨some ⟨g, 0, none⟩, xss.length, vs, rfl, gown_mono (gown_set (gown_set X5.out (by omega) _) (by omega) _) (by omega), (B5.out.setCell (by simp) _).setCell (by simp) _⟩
    · have ht40 : ((xss.length : Int) == 4000) = false := by simp; omega
      have RO := hid (impl_row ar capr B' n r w5 hr (HR.out.below (B5.out.mono hB')))
      obtain ⟨q, hq⟩ : ∃ q, rowOk n r = q := ⟨_, rfl⟩
      rw [hq] at RO
      go_wp2_with fail
      refine RO.out.mono ?_
      rintro e w5' ⟨rfl, rfl⟩
      cases q with
      | false =>
        have hno : insOk n xss r = false := by simp [insOk, hq]
        have hno2 : insR n xss r = xss := by simp [insR, hno]
        obtain rfl : false = ok := hno.symm.trans hok
        obtain rfl : xss = zss := hno2.symm.trans hzs
        have hset := has2_set (u := .int .i64 n) (v := .slice (some ⟨g, 0, none⟩) xss.length xss.length) J2.out
        go_wp2
        exact bodyPost_ret (v := .tuple #[.agg #[.int .i64 n, .slice (some ⟨g, 0, none⟩) xss.length xss.length], .bool false]) (by simp [results, Try.results15, go_sem, hset.1, hset.2.1]) rfl ⟨some ⟨g, 0, none⟩, xss.length, vs, rfl, gown_mono (gown_set (gown_set X5.out (by omega) _) (by omega) _) (by omega), (B5.out.setCell (by simp) _).setCell (by simp) _⟩
      | true =>
        have F := hid (impl_find n a ar cap capr xss.length B B' xss r w5 rfl hlen hx hr (HG.out.below (B5.out.mono hB)) (HR.out.below (B5.out.mono hB')) (by have := B5.out.size; omega) (by have := B5.out.size; omega))
        go_wp2_with fail
        refine F.out.mono ?_
        rintro e w6 ⟨p, b, rfl, hfnd, hb⟩
        have hs6 := hb.size
        have L2 := hid (J2.out.below hb)
        have L3 := hid (J3.out.below hb)
        have X6 := hid (X5.out.below' hb)
        have B6 := hid (B5.out.trans (hb.mono B5.out.size))
        have FN := hid hfnd
        clear hb hfnd c0 c1 z1 d0 d1 z2 e0 e1 z3 J1 J2 J3 X5 B5 F RO
        obtain ⟨d0, d1, z2, _, _⟩ := L2.out
        obtain ⟨e0, e1, z3, e2, e3⟩ := L3.out
        have hm := (FN.out.mem ha).symm
        cases b with
        | true =>
          have hno : insOk n xss r = false := by simp only [insOk, hm]; simp
          have hno2 : insR n xss r = xss := by simp [insR, hno]
          obtain rfl : false = ok := hno.symm.trans hok
          obtain rfl : xss = zss := hno2.symm.trans hzs
          have hset := has2_set (u := .int .i64 n) (v := .slice (some ⟨g, 0, none⟩) xss.length xss.length) L2.out
          go_wp2
          exact bodyPost_ret (v := .tuple #[.agg #[.int .i64 n, .slice (some ⟨g, 0, none⟩) xss.length xss.length], .bool false]) (by simp [results, Try.results15, go_sem, hset.1, hset.2.1]) rfl ⟨some ⟨g, 0, none⟩, xss.length, vs, rfl, gown_mono (gown_set (gown_set X6.out (by omega) _) (by omega) _) (by omega), (B6.out.setCell (by simp) _).setCell (by simp) _⟩
        | false =>
          have hp := (FN.out.place ha).unique (plc_pl ha)
          have hyes : insOk n xss r = true := by simp only [insOk, hv, hq, hm]; simp [h40]
          have hyes2 : insR n xss r = xss.take p ++ r :: xss.drop p := by simp [insR, hyes, inR, hp]
          obtain rfl : true = ok := hyes.symm.trans hok
          rw [hyes2] at hzs
          have hpl := FN.out.le
          have HP := hid hpl
          have hg3 : g < w3.heap.size := XG.out.2
          have hB6 : B' ≤ w6.drew.heap.size := by have := B6.out.size; show B' ≤ w6.heap.size; omega
          have RC := hid (lib_clone ar capr B' r w6.drew hr ((HR.out.below (B6.out.mono hB')).drew) hB6)
          have hlv := hid (fun u (hu : u ∈ vs) => (rws_of X6.out).lt hu)
          clear hyes hyes2 hok hp hm hv hq
          go_wp2_with fail
          go_region_law (first
            | (go_simp; go_at_call 58; refine RC.out.mono ?_; rintro e wC ⟨u, rfl, hu, hb1⟩; obtain ⟨au, capu, rfl, _, _, _⟩ := hu.form; have hU := hid hu; have hbC := hid hb1; have hsC : w6.heap.size ≤ wC.heap.size := hb1.size; have M2 := hid (L2.out.drew.below hb1); have M3 := hid (L3.out.drew.below hb1); obtain ⟨y0, y1, yz, yf0, yf1⟩ := M3.out; have XC := hid (X6.out.drew.below' hb1); have BC := hid (B6.out.drew.trans (hb1.mono B6.out.drew.size)); have I := hid (lib_insert g g p wC.heap.size (.slice au r.length capu) r vs xss (wC.alloc (.cells #[.slice au r.length capu] eR)) (XC.out.alloc _) HP.out hlen ((hu.alloc _).mono (by show g ≤ w6.heap.size; omega)) (fun u' hu2 k hk hk2 => by have t1 := (hU.out.lt k hk).1; have t2 := (hlv.out u' hu2 k hk2).2; have t3 : w6.heap.size ≤ k := t1; omega) (by rw [World.size_alloc]; omega) (by simp)); clear hu hb1)
            | (go_simp; go_at_call 57; refine I.out.mono ?_; rintro e wI ⟨aI, capI, rfl, hI, hgI, hpI⟩; have HH := hid hpI; have GI := hid hI; have HI := hid hgI; have hsI : wC.heap.size + 1 ≤ wI.heap.size := (by have hq := hgI.size; rw [World.size_alloc] at hq; exact hq); have N2 := hid (has2_grown (M2.out.alloc (.cells #[.slice au r.length capu] eR)) hgI (fun e => by have := Option.some.inj e; omega)); have N3 := hid (has2_grown (M3.out.alloc (.cells #[.slice au r.length capu] eR)) hgI (fun e => by have := Option.some.inj e; omega)); obtain ⟨x0, x1, xz, xf0, xf1⟩ := N3.out; clear hI hgI hpI))
          all_goals
            have r2 := hid (has2_far N2.out (c := w3.heap.size) (o := 1) (by omega) (.slice aI zss.length capI))
            have B8 := hid (((BC.out.alloc BC.out.size (.cells #[.slice au r.length capu] eR)).grown HI.out (by rw [World.size_alloc]; have := BC.out.size; omega) (fun k hk => by have := Option.some.inj hk; omega)).setCell (p := ⟨w3.heap.size, 1, none⟩) (by show w.heap.size ≤ w3.heap.size; omega) (.slice aI zss.length capI))
            have GZ := GI.out
            rw [hzs] at GZ
            have G8 := hid (GZ.grown (grown_set wI w3.heap.size 1 (.slice aI zss.length capI)) (fun k hk e => by
              have t2 := Option.some.inj e
              have t3 : aI.map Addr.block = some k := by
                cases aI with
                | none => simp [Value.ownBlock] at hk
                | some q => simpa [Value.ownBlock] using hk
              have t4 := HH.out k t3
              rw [World.size_alloc] at t4
              omega) (fun j u k hu hk e => by
              have t2 := Option.some.inj e
              have hm := List.mem_of_getElem? hu
              rcases List.mem_append.1 hm with hm | hm
              · have := (XL.out.lt (List.mem_of_mem_take hm) k hk).2; omega
              · rcases List.mem_cons.1 hm with rfl | hm
                · have := (hU.out.lt k hk).1
                  have t4 : w6.heap.size ≤ k := this
                  omega
                · have := (XL.out.lt (List.mem_of_mem_drop hm) k hk).2; omega))
            obtain ⟨s0, s1, sz, sf0, sf1⟩ := N2.out
            have hset := has2_set (u := .int .i64 n) (v := .slice aI zss.length capI) r2.out
            clear GZ GI HI N2 N3 M2 M3 XC BC hU hbC I hlv X6 RC
            go_wp2
            exact bodyPost_ret (v := .tuple #[.agg #[.int .i64 n, .slice aI zss.length capI], .bool true]) (by simp [results, Try.results15, go_sem, hset.1, hset.2.1]) rfl ⟨aI, capI, _, rfl, gown_mono (gown_set (gown_set G8.out (by omega) _) (by omega) _) (by omega), (B8.out.setCell (by simp) _).setCell (by simp) _⟩
end Go.Proofs.Ytnnoicabfpbemaa.InsI2
