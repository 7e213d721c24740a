/- The model's deletion of a row (spec.DeleteRow). -/
import Derived.Test.YtnnoicabfpbemaaCopyS
import Derived.Test.YtnnoicabfpbemaaRelValidS
import Derived.Test.YtnnoicabfpbemaaPlc
namespace Go.Proofs.Ytnnoicabfpbemaa.DelS
open Go.RowKit
open Go.Proofs.Ytnnoicabfpbemaa.Num Go.Proofs.Ytnnoicabfpbemaa.IntRow Go.Proofs.Ytnnoicabfpbemaa.IntLaw Go.Proofs.Ytnnoicabfpbemaa.Grid Go.Proofs.Ytnnoicabfpbemaa.GridMore Go.Proofs.Ytnnoicabfpbemaa.GridLaw Go.Proofs.Ytnnoicabfpbemaa.GridLaw2 Go.Proofs.Ytnnoicabfpbemaa.Keep Go.Proofs.Ytnnoicabfpbemaa.Kept Go.Proofs.Ytnnoicabfpbemaa.Cells Go.Proofs.Ytnnoicabfpbemaa.RelKit Go.Proofs.Ytnnoicabfpbemaa.GridApp Go.Proofs.Ytnnoicabfpbemaa.CopyS Go.Proofs.Ytnnoicabfpbemaa.Asc Go.Proofs.Ytnnoicabfpbemaa.RelValidS Go.Proofs.Ytnnoicabfpbemaa.RelPlaceS Go.Proofs.Ytnnoicabfpbemaa.Plc
set_option linter.unusedVariables false

theorem row_mono {w : World} {lo lo' : Nat} {e : TypeId} {z n : Nat} {v : Value} {xs : List Value} (h : w.ownsRow lo e z v n xs) (hl : lo' ≤ lo) : w.ownsRow lo' e z v n xs :=
  ⟨h.1, h.2.imp id fun ⟨g, cap, cur, hv, hb, r⟩ => ⟨g, cap, cur, hv, Nat.le_trans hl hb, r⟩⟩
theorem grown_set (w : World) (b o : Nat) (u : Value) : w.grownBy (w.setCell ⟨b, o, none⟩ u) (some b) :=
  ⟨rfl, rfl, rfl, by simp, fun k hk hne => Below.heap_setCell _ _ _ _ (fun e => hne (congrArg some (show k = b from e)))⟩
set_option maxRecDepth 100000 in
set_option maxHeartbeats 4000000 in
theorem spec_delete (n : Int) (a ar : Option Addr) (cap capr len B B' : Nat) (xss : List (List Int)) (r : List Int) (w : World) (hl : xss.length = len) (ht : tot xss ≤ 1048576) (hr : r.length ≤ 1048576) (h : GRd w B a xss) (h' : Rd w B' ar r) (hB : B ≤ w.heap.size) (hB' : B' ≤ w.heap.size) :
    Calls Try.prog 21 #[.agg #[.int .i64 n, .slice a len cap], .slice ar r.length capr] w fun e w' => ∃ a' cap' vs, e = .returned (.tuple #[.agg #[.int .i64 n, .slice a' (delR n xss r).length cap'], .bool (delOk n xss r)]) ∧ GOwn w' w.heap.size eR eI (.slice a' (delR n xss r).length cap') vs (delR n xss r) ∧ Below w.heap.size w w' := by
  subst hl
  obtain ⟨zss, hzs⟩ : ∃ z, delR n xss r = z := ⟨_, rfl⟩
  obtain ⟨ok, hok⟩ : ∃ z, delOk n xss r = z := ⟨_, rfl⟩
  rw [hzs, hok]
  have hlen : xss.length ≤ 1048576 := len_le ht
  have hx := each_le ht
  have K1 := hid ((has2_new w (.int .i64 n) (.slice a xss.length cap) 26).alloc (.cells #[.int .i64 0, .slice none 0 0] 26))
  have K2 := hid (has2_new (w.alloc (.cells #[.int .i64 n, .slice a xss.length cap] 26)) (.int .i64 0) (.slice none 0 0) 26)
  have B2 := hid (((Below.refl w.heap.size w).alloc (Nat.le_refl _) (.cells #[.int .i64 n, .slice a xss.length cap] 26)).alloc (by simp) (.cells #[.int .i64 0, .slice none 0 0] 26))
  simp only [World.size_alloc] at K1 K2
  have HG := hid h
  have HR := hid h'
  clear h h'
  obtain ⟨c0, c1, z1, _, _⟩ := K1.out
  go_enter Try.func21, Try.ntmps21
  go_wp2_with fail
  refine (spec_copy n a cap B xss _ ht (HG.out.below (B2.out.mono hB)) (by have := B2.out.size; omega)).mono ?_
  rintro e w3 ⟨a1, cap1, vs, rfl, hown, hb⟩
  have hs3 := hb.size
  simp only [World.size_alloc] at hs3
  replace K1 := hid (K1.out.below hb)
  replace K2 := hid (K2.out.below hb)
  have B3 := hid (B2.out.trans (hb.mono B2.out.size))
  have X := hid (hown.mono (lo' := w.heap.size + 1 + 1) (by simp))
  have XL := hid (rws_of hown)
  clear hb hown c0 c1 z1
  obtain ⟨c0, c1, z1, _, _⟩ := K1.out
  have X4 := hid (X.out.alloc (.cells #[.int .i64 n, .slice a1 xss.length cap1] 26))
  have K3 := hid (has2_new w3 (.int .i64 n) (.slice a1 xss.length cap1) 26)
  have K1a := hid (K1.out.alloc (.cells #[.int .i64 n, .slice a1 xss.length cap1] 26))
  have K2a := hid (K2.out.alloc (.cells #[.int .i64 n, .slice a1 xss.length cap1] 26))
  have B4 := hid (B3.out.alloc B3.out.size (.cells #[.int .i64 n, .slice a1 xss.length cap1] 26))
  have V := hid (spec_valid n a xss.length cap B xss _ rfl hlen hx (HG.out.below (B4.out.mono hB)) (by have := B4.out.size; omega))
  obtain ⟨v, hv⟩ : ∃ v, vrel n xss = v := ⟨_, rfl⟩
  rw [hv] at V
  go_wp2_with fail
  refine V.out.mono ?_
  rintro e w5 ⟨rfl, hb⟩
  have hs5 := hb.size
  simp only [World.size_alloc] at hs5
  have J1 := hid (K1a.out.below hb)
  have J2 := hid (K2a.out.below hb)
  have J3 := hid (K3.out.below hb)
  have X5 := hid (X4.out.below' hb)
  have B5 := hid (B4.out.trans (hb.mono B4.out.size))
  clear hb c0 c1 z1 K1 K2 K1a K2a K3 X X4 V B4 B3
  obtain ⟨c0, c1, z1, _, _⟩ := J1.out
  obtain ⟨d0, d1, z2, _, _⟩ := J2.out
  obtain ⟨e0, e1, z3, _, _⟩ := J3.out
  cases v with
  | false =>
    have hno : delOk n xss r = false := by simp [delOk, hv]
    have hno2 : delR n xss r = xss := by simp [delR, hno]
    obtain rfl : false = ok := hno.symm.trans hok
    obtain rfl : xss = zss := hno2.symm.trans hzs
    have hset := has2_set (u := .int .i64 n) (v := .slice a1 xss.length cap1) J2.out
    go_wp2
    exact bodyPost_ret (v := .tuple #[.agg #[.int .i64 n, .slice a1 xss.length cap1], .bool false]) (by simp [results, Try.results21, go_sem, hset.1, hset.2.1]) rfl ⟨a1, cap1, vs, rfl, gown_mono (gown_set (gown_set X5.out (by omega) _) (by omega) _) (by omega), (B5.out.setCell (by simp) _).setCell (by simp) _⟩
  | true =>
    obtain ⟨_, h4, _, ha⟩ := vrel_parts hv
    go_wp2_with fail
    refine (spec_place n a ar cap capr xss.length B B' xss r _ rfl (by omega) hx hr ha (HG.out.below (B5.out.mono hB)) (HR.out.below (B5.out.mono hB')) (by have := B5.out.size; omega) (by have := B5.out.size; omega)).mono ?_
    rintro e w6 ⟨p, he, hpl, hb⟩
    obtain ⟨q, hq⟩ : ∃ q, decide (r ∈ xss) = q := ⟨_, rfl⟩
    rw [hq] at he
    subst he
    have hs6 := hb.size
    have L1 := hid (J1.out.below hb)
    have L2 := hid (J2.out.below hb)
    have L3 := hid (J3.out.below hb)
    have X6 := hid (X5.out.below' hb)
    have B6 := hid (B5.out.trans (hb.mono B5.out.size))
    have hp := hpl.unique (plc_pl ha)
    have HPL := hid hpl
    clear hb hpl c0 c1 z1 d0 d1 z2 e0 e1 z3 J1 J2 J3 X5 B5
    obtain ⟨d0, d1, z2, _, _⟩ := L2.out
    obtain ⟨e0, e1, z3, _, _⟩ := L3.out
    cases q with
    | false =>
      have hno : delOk n xss r = false := by simp [delOk, hq]
      have hno2 : delR n xss r = xss := by simp [delR, hno]
      obtain rfl : false = ok := hno.symm.trans hok
      obtain rfl : xss = zss := hno2.symm.trans hzs
      have hset := has2_set (u := .int .i64 n) (v := .slice a1 xss.length cap1) L2.out
      go_wp2
      exact bodyPost_ret (v := .tuple #[.agg #[.int .i64 n, .slice a1 xss.length cap1], .bool false]) (by simp [results, Try.results21, go_sem, hset.1, hset.2.1]) rfl ⟨a1, cap1, vs, rfl, gown_mono (gown_set (gown_set X6.out (by omega) _) (by omega) _) (by omega), (B6.out.setCell (by simp) _).setCell (by simp) _⟩
    | true =>
      have hyes : delOk n xss r = true := by simp [delOk, hq, hv]
      have hyes2 : delR n xss r = xss.take p ++ xss.drop (p + 1) := by simp [delR, hyes, outR, hp]
      obtain rfl : true = ok := hyes.symm.trans hok
      rw [hyes2] at hzs
      clear hyes hyes2 hok
      have hmem : r ∈ xss := of_decide_eq_true hq
      obtain ⟨hpx, _⟩ := (HPL.out.mem ha).1 hmem
      obtain ⟨g, cap2, ev, hc1, hc2, hg1, hg2⟩ := gown_at X6.out (by omega)
      injection ev with ev _ ev2
      subst ev ev2
      have hp0 : (0 : Int) ≤ (p : Int) := by omega
      have hpc : p ≤ cap1 := by omega
      have hpi : (p : Int) ≤ (p : Int) + 1 := by omega
      have hpi2 : (p : Int) + 1 ≤ (xss.length : Int) := by omega
      have hpw : IntKind.i64.wrap ((p : Int) + 1) = (p : Int) + 1 := by rw [IntKind.wrap_i64]; omega
      have hpt : ((p : Int) + 1).toNat = p + 1 := by omega
      have hp3 : (0 : Int) ≤ (p : Int) + 1 := by omega
      have hpl2 : p + 1 ≤ xss.length := by omega
      have hlc : xss.length ≤ cap1 := hc1
      obtain ⟨i1, hj, hy0, hy1, hy2⟩ := info_parts GridLaw.info
      have RW := hid (rws_of X6.out)
      have HC := hid (fun j u hu => gown_cell X6.out j u hu)
      have HL := hid X6.out.len
      clear hq hp
      have h64 : (vs.take p).length = p := by have := HL.out; simp; omega
      have h65 : (vs.drop (p + 1)).length = xss.length - (p + 1) := by have := HL.out; simp; omega
      have N1 := hid (fun (W : World) (hW : ∀ q u, w6.cell? q = some u → W.cell? q = some u) => (show ∀ j u, (vs.take p)[j]? = some u → W.cell? ((⟨g, 0, none⟩ : Addr).add j) = some u from fun j u hj => by
        have hjp : j < p := by have := (List.getElem?_eq_some_iff.1 hj).1; omega
        rw [List.getElem?_take, if_pos hjp] at hj
        rw [Addr.add_lit, Nat.zero_add]
        exact hW _ _ (HC.out j u hj)))
      have N2 := hid (fun (W : World) (hW : ∀ q u, w6.cell? q = some u → W.cell? q = some u) (of2 : Nat) (ho2 : of2 = p + 1 ∨ cap1 = p + 1) => (show ∀ j u, (vs.drop (p + 1))[j]? = some u → W.cell? ((⟨g, of2, none⟩ : Addr).add j) = some u from fun j u hj => by
        have hjp : j < xss.length - (p + 1) := by have := (List.getElem?_eq_some_iff.1 hj).1; omega
        obtain rfl : of2 = p + 1 := by omega
        rw [List.getElem?_drop] at hj
        rw [Addr.add_lit]
        exact hW _ _ (HC.out _ u hj)))
      have hz := hid (show zss.length = p + (xss.length - (p + 1)) by rw [← hzs]; simp; omega)
      have O0 := hid (show (w6.alloc (.cells #[] eR)).drew.ownsRow w6.heap.size eR 1 (.slice (some ⟨w6.heap.size, 0, none⟩) 0 0) 0 [] from World.ownsRow_made (size := 1) (e := eR) (base := w6.heap.size) w6.drew #[] 0 (Nat.le_refl _) (Nat.zero_le _) rfl)
      have N0 := hid (N1.out (w6.alloc (.cells #[] eR)).drew (fun q u hq => cell_drew (cell_all hq _)))
      have T1 := hid (fun u (hu : u ∈ vs.take p) => RW.out.oneCell u (List.mem_of_mem_take hu))
      have T2 := hid (fun u (hu : u ∈ vs.drop (p + 1)) => RW.out.oneCell u (List.mem_of_mem_drop hu))
      have S0 : w6.heap.size ≤ (w6.alloc (.cells #[] eR)).drew.heap.size := by show w6.heap.size ≤ (w6.alloc _).heap.size; simp
      have m63 : 0 + p ≤ maxLen := by unfold maxLen; omega
      have m64 : 0 + p + (xss.length - (p + 1)) ≤ maxLen := by unfold maxLen; omega
      have b63 : (0 + p) * 24 ≤ 140737488355328 := by omega
      have b64 : (0 + p + (xss.length - (p + 1))) * 24 ≤ 140737488355328 := by omega
      have h66 : (vs.take p).length = p * 1 := by omega
      have h67 : (vs.drop (p + 1)).length = (xss.length - (p + 1)) * 1 := by omega
      have O2form : ∀ (W : World) (v : Value), W.ownsRow w6.heap.size eR 1 v zss.length (vs.take p ++ vs.drop (p + 1)) → ∃ a cap, v = .slice a zss.length cap ∧ True ∧ True ∧ True := fun W v hW => by
        rcases hW.2 with ⟨rfl, h0⟩ | ⟨gg, cc, cur, rfl, _⟩
        · exact ⟨none, 0, by rw [h0], trivial, trivial, trivial⟩
        · exact ⟨_, _, rfl, trivial, trivial, trivial⟩
      by_cases hcap : cap1 = p + 1
      all_goals
        (try subst hcap)
        go_wp2_with fail
        go_region_law (first
          | (refine step_own rfl _ _ 24 rfl w6.heap.size eR i1 (.slice none 0 0) 1 24 Try.underlying24 hj hy0 hy1 hy2 rfl (by decide) _ 0 [] (by rfl) O0.out ⟨g, 0, none⟩ p _ (vs.take p) (by rfl) h66 N0.out T1.out m63 b63 S0 ?_; intro v1 w7 hown1 hgr0; have hgr1 : World.grownBy (w6.drew.alloc (.cells #[] eR)) w7 (some w6.heap.size) := hgr0; have G1 := hid hgr1; have O1 := hid hown1; have hz7 : w6.heap.size + 1 ≤ w7.heap.size := (by have hq := hgr1.size; rw [World.size_alloc] at hq; exact hq); have M1 := hid (has2_grown (L1.out.drew.alloc (.cells #[] eR)) hgr1 (fun e => by have := Option.some.inj e; omega)); have M2 := hid (has2_grown (L2.out.drew.alloc (.cells #[] eR)) hgr1 (fun e => by have := Option.some.inj e; omega)); have M3 := hid (has2_grown (L3.out.drew.alloc (.cells #[] eR)) hgr1 (fun e => by have := Option.some.inj e; omega)); obtain ⟨y0, y1, yz, yf0, yf1⟩ := M3.out; have hb67 := hid (((Below.refl w6.heap.size w6).drew.alloc (Nat.le_refl _) (.cells #[] eR)).grown hgr1 (by rw [World.size_alloc]; exact Nat.le_succ _) (fun k hk => by have := Option.some.inj hk; omega)); clear hown1 hgr1 hgr0)
          | (refine step_own rfl _ _ 24 rfl w6.heap.size eR i1 (.slice none 0 0) 1 24 Try.underlying24 hj hy0 hy1 hy2 rfl (by decide) _ (0 + p) ([] ++ vs.take p) (by rfl) O1.out ⟨g, _, none⟩ (xss.length - (p + 1)) _ (vs.drop (p + 1)) (by rfl) h67 (N2.out _ (fun q u hq => at_grown (cell_all (w := w6.drew) hq (.cells #[] eR)) G1.out (fun k hk e => by have h1 := World.block_lt_of_cell? w6 q hq; have h2 := Option.some.inj hk; omega)) _ (by omega)) T2.out m64 b64 (by omega) ?_; intro v2 w8 hown2 hgr2; have G2 := hid hgr2; have O2 := hid (show w8.ownsRow w6.heap.size eR 1 v2 zss.length (vs.take p ++ vs.drop (p + 1)) from (by rw [hz.out]; simpa using hown2)); have hz8 := hgr2.size; have hv1 := hid (fun k (hk : v1.ownBlock = some k) => (World.ownsRow.lt O1.out k hk).1); have P2 := hid (has2_grown M2.out hgr2 (fun e => by have := hv1.out _ e; omega)); have P3 := hid (has2_grown M3.out hgr2 (fun e => by have := hv1.out _ e; omega)); obtain ⟨av, capv, ev, _, _, _⟩ := O2form w8 v2 O2.out; subst ev; obtain ⟨x0, x1, xz, xf0, xf1⟩ := P3.out; clear hown2 hgr2)
          | (refine step_own rfl _ _ 24 rfl w6.heap.size eR i1 (.slice none 0 0) 1 24 Try.underlying24 hj hy0 hy1 hy2 rfl (by decide) _ (0 + p) ([] ++ vs.take p) (by rfl) O1.out ⟨g, _, none⟩ 0 _ [] (by rfl) rfl (fun j u hj => by simp at hj) (fun u hu => by simp at hu) m63 b63 (by omega) ?_; intro v2 w8 hown2 hgr2; have G2 := hid hgr2; have O2 := hid (show w8.ownsRow w6.heap.size eR 1 v2 zss.length (vs.take p ++ vs.drop (p + 1)) from (by have h0 : xss.length - (p + 1) = 0 := (by omega); have hd : vs.drop (p + 1) = [] := List.eq_nil_of_length_eq_zero (by omega); rw [hz.out, h0, hd]; simpa using hown2)); have hz8 := hgr2.size; have hv1 := hid (fun k (hk : v1.ownBlock = some k) => (World.ownsRow.lt O1.out k hk).1); have P2 := hid (has2_grown M2.out hgr2 (fun e => by have := hv1.out _ e; omega)); have P3 := hid (has2_grown M3.out hgr2 (fun e => by have := hv1.out _ e; omega)); obtain ⟨av, capv, ev, _, _, _⟩ := O2form w8 v2 O2.out; subst ev; obtain ⟨x0, x1, xz, xf0, xf1⟩ := P3.out; clear hown2 hgr2))
        all_goals
          have r2 := hid (has2_far P2.out (c := w3.heap.size) (o := 1) (by omega) (.slice av zss.length capv))
          have r3 := hid (has2_put1 P3.out (.slice av zss.length capv))
          have rw8 := ((RW.out.below' hb67.out).cut p (p + 1) (Nat.le_succ _)).grown G2.out (fun u hu k hk e => by
            have t1 := hv1.out k e
            have t2 : k < w6.heap.size := by
              rcases List.mem_append.1 hu with hu | hu
              · exact (RW.out.lt (List.mem_of_mem_take hu) k hk).2
              · exact (RW.out.lt (List.mem_of_mem_drop hu) k hk).2
            omega)
          rw [hzs] at rw8
          have G8 := hid ((Rws.gown rw8 (row_mono O2.out (by omega))).grown (grown_set w8 w3.heap.size 1 (.slice av zss.length capv)) (fun k hk e => by
            have t1 := (World.ownsRow.lt O2.out k hk).1
            have t2 := Option.some.inj e
            omega) (fun j u k hu hk e => by
            have t2 := Option.some.inj e
            have hm := List.mem_of_getElem? hu
            have t3 : k < w3.heap.size := by
              rcases List.mem_append.1 hm with hm | hm
              · exact (XL.out.lt (List.mem_of_mem_take hm) k hk).2
              · exact (XL.out.lt (List.mem_of_mem_drop hm) k hk).2
            omega))
          have B8 := hid (((B6.out.trans (hb67.out.mono B6.out.size)).grown G2.out (by omega) (fun k hk => by have := hv1.out k hk; omega)).setCell (p := ⟨w3.heap.size, 1, none⟩) (by show w.heap.size ≤ w3.heap.size; omega) (.slice av zss.length capv))
          obtain ⟨s0, s1, sz, sf0, sf1⟩ := P2.out
          clear rw8 P2 P3 G1 G2 O1 O2 M1 M2 M3 hb67 hv1 N0 N1 N2 T1 T2 RW HC HL X6
          have hset := has2_set (u := .int .i64 n) (v := .slice av zss.length capv) r2.out
          go_wp2
          exact bodyPost_ret (v := .tuple #[.agg #[.int .i64 n, .slice av zss.length capv], .bool true]) (by simp [results, Try.results21, go_sem, hset.1, hset.2.1]) rfl ⟨av, capv, _, rfl, gown_mono (gown_set (gown_set G8.out (by omega) _) (by omega) _) (by omega), (B8.out.setCell (by simp) _).setCell (by simp) _⟩
end Go.Proofs.Ytnnoicabfpbemaa.DelS
