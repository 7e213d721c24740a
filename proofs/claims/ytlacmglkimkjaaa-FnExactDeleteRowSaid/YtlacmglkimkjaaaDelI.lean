/- The program's deletion of a row (impl.DeleteRow over the library's slices.Delete). -/
import Derived.Test.YtlacmglkimkjaaaLays
import Derived.Test.YtlacmglkimkjaaaGridHd
import Derived.Test.YtlacmglkimkjaaaClones
import Derived.Test.YtlacmglkimkjaaaRelPlaceI
import Derived.Test.YtlacmglkimkjaaaPlc
namespace Go.Proofs.Ytlacmglkimkjaaa.DelI
open Go.RowKit Go.Sort
open Go.Proofs.Ytlacmglkimkjaaa.Num Go.Proofs.Ytlacmglkimkjaaa.IntRow Go.Proofs.Ytlacmglkimkjaaa.IntLaw Go.Proofs.Ytlacmglkimkjaaa.Grid Go.Proofs.Ytlacmglkimkjaaa.GridMore Go.Proofs.Ytlacmglkimkjaaa.GridLaw Go.Proofs.Ytlacmglkimkjaaa.GridLaw2 Go.Proofs.Ytlacmglkimkjaaa.Keep Go.Proofs.Ytlacmglkimkjaaa.Kept Go.Proofs.Ytlacmglkimkjaaa.Cells Go.Proofs.Ytlacmglkimkjaaa.RelKit Go.Proofs.Ytlacmglkimkjaaa.GridApp Go.Proofs.Ytlacmglkimkjaaa.GridHd Go.Proofs.Ytlacmglkimkjaaa.Clones Go.Proofs.Ytlacmglkimkjaaa.Asc Go.Proofs.Ytlacmglkimkjaaa.RelValidS Go.Proofs.Ytlacmglkimkjaaa.RelValidI Go.Proofs.Ytlacmglkimkjaaa.RelPlaceS Go.Proofs.Ytlacmglkimkjaaa.RelPlaceI Go.Proofs.Ytlacmglkimkjaaa.Plc
set_option linter.unusedVariables false

theorem lib_delete (g cap lo p : Nat) (vs : List Value) (xss : List (List Int)) (w : World) (h : GOwn w lo eR eI (.slice (some ⟨g, 0, none⟩) xss.length cap) vs xss) (hp : p < xss.length) :
    Calls Try.prog 61 #[.slice (some ⟨g, 0, none⟩) xss.length cap, .int .i64 p, .int .i64 ((p : Int) + 1)] w fun e w' => e = .returned (.slice (some ⟨g, 0, none⟩) (xss.take p ++ xss.drop (p + 1)).length cap) ∧ GOwn w' lo eR eI (.slice (some ⟨g, 0, none⟩) (xss.take p ++ xss.drop (p + 1)).length cap) (vs.take p ++ vs.drop (p + 1)) (xss.take p ++ xss.drop (p + 1)) ∧ w.grownBy w' (some g) := by
  obtain ⟨i1, hj, hy0, hy1, hy2⟩ := info_parts GridLaw.info
  obtain ⟨ds, e⟩ := rws_heads (rws_of h)
  have hl : ds.length = xss.length := by have := h.len; rw [e] at this; simpa using this
  have hr := h.row
  rw [e] at hr
  obtain ⟨g', cap', ev, _, _, hc1, hc2, _, hH⟩ := Go.Lib.holds_of_ownsRow hr (by simp)
  simp only [Value.slice.injEq, Option.some.injEq, Addr.mk.injEq, and_true, true_and] at ev
  obtain ⟨rfl, rfl⟩ := ev
  have D := Go.Proofs.AnyE.slices_Delete Try.deleteF hd hd_one nilH (head_zero GridLaw.info) i1 hj hy1 g 0 cap p (p + 1) ds.toArray w hH (by simpa [hl] using hc1) (by have : maxLen = 9223372036854775807 := rfl; omega) (Nat.le_succ _) (by simp; omega)
  have hsz : ds.toArray.size = xss.length := by simpa using hl
  have hzl : (xss.take p ++ xss.drop (p + 1)).length = xss.length - (p + 1 - p) := by simp; omega
  rw [hsz] at D
  refine Calls.mono (P := Try.prog) D ?_
  rintro e' w' ⟨rfl, q, rfl⟩
  exact ⟨by rw [hzl], gown_out h eRI e hp, grown_putRow _⟩

set_option maxRecDepth 100000 in
set_option maxHeartbeats 4000000 in
theorem impl_delete (n : Int) (a ar : Option Addr) (cap capr len B B' : Nat) (xss : List (List Int)) (r : List Int) (w : World) (hl : xss.length = len) (ht : tot xss ≤ 1048576) (hr : r.length ≤ 1048576) (h : GRd w B a xss) (h' : Rd w B' ar r) (hB : B ≤ w.heap.size) (hB' : B' ≤ w.heap.size) :
    Calls Try.prog 22 #[.agg #[.int .i64 n, .slice a len cap], .slice ar r.length capr] w fun e w' => ∃ a' cap' vs, e = .returned (.tuple #[.agg #[.int .i64 n, .slice a' (delR n xss r).length cap'], .bool (delOk n xss r)]) ∧ GOwn w' w.heap.size eR eI (.slice a' (delR n xss r).length cap') vs (delR n xss r) ∧ Below w.heap.size w w' := by
  subst hl
  obtain ⟨zss, hzs⟩ : ∃ z, delR n xss r = z := ⟨_, rfl⟩
  obtain ⟨ok, hok⟩ : ∃ z, delOk n xss r = z := ⟨_, rfl⟩
  rw [hzs, hok]
  have hlen : xss.length ≤ 1048576 := len_le ht
  have hx := each_le ht
  have K1 := hid ((has2_new w (.int .i64 n) (.slice a xss.length cap) 26).alloc (.cells #[.int .i64 0, .slice none 0 0] 26))
  have K2 := hid (has2_new (w.alloc (.cells #[.int .i64 n, .slice a xss.length cap] 26)) (.int .i64 0) (.slice none 0 0) 26)
  have B2 := hid (((Below.refl w.heap.size w).alloc (Nat.le_refl _) (.cells #[.int .i64 n, .slice a xss.length cap] 26)).alloc (by simp) (.cells #[.int .i64 0, .slice none 0 0] 26))
  simp only [World.size_alloc] at K1 K2
  have HG := hid h
  have HR := hid h'
  clear h h'
  obtain ⟨c0, c1, z1, _, _⟩ := K1.out
  go_enter Try.func22, Try.ntmps22
  go_wp2_with fail
  refine (impl_clone n a cap B xss _ ht (HG.out.below (B2.out.mono hB)) (by have := B2.out.size; omega)).mono ?_
  rintro e w3 ⟨g, vs, rfl, hg, hown, hb⟩
  have hs3 := hb.size
  simp only [World.size_alloc] at hs3 hg
  replace K1 := hid (K1.out.below hb)
  replace K2 := hid (K2.out.below hb)
  have B3 := hid (B2.out.trans (hb.mono B2.out.size))
  have X := hid hown
  have XL := hid (rws_of hown)
  have XG := hid (hown.lt g rfl)
  clear hb hown c0 c1 z1
  obtain ⟨c0, c1, z1, _, _⟩ := K1.out
  have X4 := hid (X.out.alloc (.cells #[.int .i64 n, .slice (some ⟨g, 0, none⟩) xss.length xss.length] 26))
  have K3 := hid (has2_new w3 (.int .i64 n) (.slice (some ⟨g, 0, none⟩) xss.length xss.length) 26)
  have K1a := hid (K1.out.alloc (.cells #[.int .i64 n, .slice (some ⟨g, 0, none⟩) xss.length xss.length] 26))
  have K2a := hid (K2.out.alloc (.cells #[.int .i64 n, .slice (some ⟨g, 0, none⟩) xss.length xss.length] 26))
  have B4 := hid (B3.out.alloc B3.out.size (.cells #[.int .i64 n, .slice (some ⟨g, 0, none⟩) xss.length xss.length] 26))
  have F := hid (impl_find n a ar cap capr xss.length B B' xss r _ rfl hlen hx hr (HG.out.below (B4.out.mono hB)) (HR.out.below (B4.out.mono hB')) (by have := B4.out.size; omega) (by have := B4.out.size; omega))
  go_wp2_with fail
  refine F.out.mono ?_
  rintro e w5 ⟨p, b, rfl, hfnd, hb⟩
  have hs5 := hb.size
  simp only [World.size_alloc] at hs5
  have J1 := hid (K1a.out.below hb)
  have J2 := hid (K2a.out.below hb)
  have J3 := hid (K3.out.below hb)
  have X5 := hid (X4.out.below' hb)
  have B5 := hid (B4.out.trans (hb.mono B4.out.size))
  have FN := hid hfnd
  clear hb hfnd c0 c1 z1 K1 K2 K1a K2a K3 X X4 F B4 B3
  obtain ⟨c0, c1, z1, _, _⟩ := J1.out
  obtain ⟨d0, d1, z2, _, _⟩ := J2.out
  obtain ⟨e0, e1, z3, _, _⟩ := J3.out
  have hboth := FN.out.both n
  cases b with
  | false =>
    have hno : delOk n xss r = false := by simpa [delOk] using hboth
    have hno2 : delR n xss r = xss := by simp [delR, hno]
    obtain rfl : false = ok := hno.symm.trans hok
    obtain rfl : xss = zss := hno2.symm.trans hzs
    have hset := has2_set (u := .int .i64 n) (v := .slice (some ⟨g, 0, none⟩) xss.length xss.length) J2.out
    go_wp2
    exact bodyPost_ret (v := .tuple #[.agg #[.int .i64 n, .slice (some ⟨g, 0, none⟩) xss.length xss.length], .bool false]) (by simp [results, Try.results22, go_sem, hset.1, hset.2.1]) rfl ⟨some ⟨g, 0, none⟩, xss.length, vs, rfl, gown_mono (gown_set (gown_set X5.out (by omega) _) (by omega) _) (by omega), (B5.out.setCell (by simp) _).setCell (by simp) _⟩
  | true =>
    have V := hid (impl_valid n a xss.length cap B xss _ rfl hlen hx (HG.out.below (B5.out.mono hB)) (by have := B5.out.size; omega))
    obtain ⟨v, hv⟩ : ∃ v, vrel n xss = v := ⟨_, rfl⟩
    rw [hv] at V
    go_wp2_with fail
    refine V.out.mono ?_
    rintro e w6 ⟨rfl, hb⟩
    have hs6 := hb.size
    have L1 := hid (J1.out.below hb)
    have L2 := hid (J2.out.below hb)
    have L3 := hid (J3.out.below hb)
    have X6 := hid (X5.out.below' hb)
    have B6 := hid (B5.out.trans (hb.mono B5.out.size))
    clear hb c0 c1 z1 d0 d1 z2 e0 e1 z3 J1 J2 J3 X5 B5 V
    obtain ⟨d0, d1, z2, _, _⟩ := L2.out
    obtain ⟨e0, e1, z3, e2, e3⟩ := L3.out
    cases v with
    | false =>
      have hno : delOk n xss r = false := by simp [delOk, hv]
      have hno2 : delR n xss r = xss := by simp [delR, hno]
      obtain rfl : false = ok := hno.symm.trans hok
      obtain rfl : xss = zss := hno2.symm.trans hzs
      have hset := has2_set (u := .int .i64 n) (v := .slice (some ⟨g, 0, none⟩) xss.length xss.length) L2.out
      go_wp2
      exact bodyPost_ret (v := .tuple #[.agg #[.int .i64 n, .slice (some ⟨g, 0, none⟩) xss.length xss.length], .bool false]) (by simp [results, Try.results22, go_sem, hset.1, hset.2.1]) rfl ⟨some ⟨g, 0, none⟩, xss.length, vs, rfl, gown_mono (gown_set (gown_set X6.out (by omega) _) (by omega) _) (by omega), (B6.out.setCell (by simp) _).setCell (by simp) _⟩
    | true =>
      obtain ⟨_, h4, _, ha⟩ := vrel_parts hv
      have hp := (FN.out.place ha).unique (plc_pl ha)
      have hm := (FN.out.mem ha).symm
      have hyes : delOk n xss r = true := by simp only [delOk, hv, hm, Bool.and_self]
      have hyes2 : delR n xss r = xss.take p ++ xss.drop (p + 1) := by simp [delR, hyes, outR, hp]
      obtain rfl : true = ok := hyes.symm.trans hok
      rw [hyes2] at hzs
      have hmem : r ∈ xss := of_decide_eq_true hm
      obtain ⟨hpx, _⟩ := ((FN.out.place ha).mem ha).1 hmem
      have D := hid (lib_delete g xss.length g p vs xss w6 X6.out hpx)
      rw [hzs] at D
      clear hyes hyes2 hok hp hm hboth
      go_wp2_with fail
      refine D.out.mono ?_
      rintro e w7 ⟨rfl, hown7, hgr⟩
      have hs7 := hgr.size
      have hg3 : g < w3.heap.size := XG.out.2
      have M2 := hid (has2_far (has2_grown L2.out hgr (fun e => by have := Option.some.inj e; omega)) (c := w3.heap.size) (o := 1) (by omega) (.slice (some ⟨g, 0, none⟩) zss.length xss.length))
      have M3 := hid (has2_grown L3.out hgr (fun e => by have := Option.some.inj e; omega))
      obtain ⟨f0, f1, fz, f2, f3⟩ := M3.out
      obtain ⟨m0, m1, mz, m2, m3⟩ := has2_grown L2.out hgr (fun e => by have := Option.some.inj e; omega)
      have G8 := hid (hown7.grown (grown_set w7 w3.heap.size 1 (.slice (some ⟨g, 0, none⟩) zss.length xss.length)) (fun k hk e => by
        have t1 : g = k := Option.some.inj hk
        have t2 := Option.some.inj e
        omega) (fun j u k hu hk e => by
        have t2 := Option.some.inj e
        have hm := List.mem_of_getElem? hu
        have t3 : k < w3.heap.size := by
          rcases List.mem_append.1 hm with hm | hm
          · exact (XL.out.lt (List.mem_of_mem_take hm) k hk).2
          · exact (XL.out.lt (List.mem_of_mem_drop hm) k hk).2
        omega))
      have B8 := hid ((B6.out.grown hgr B6.out.size (fun k hk => by have := Option.some.inj hk; omega)).setCell (p := ⟨w3.heap.size, 1, none⟩) (by show w.heap.size ≤ w3.heap.size; omega) (.slice (some ⟨g, 0, none⟩) zss.length xss.length))
      have hset := has2_set (u := .int .i64 n) (v := .slice (some ⟨g, 0, none⟩) zss.length xss.length) M2.out
      clear hown7 hgr d0 d1 e0 e1 D X6
      go_wp2
      exact bodyPost_ret (v := .tuple #[.agg #[.int .i64 n, .slice (some ⟨g, 0, none⟩) zss.length xss.length], .bool true]) (by simp [results, Try.results22, go_sem, hset.1, hset.2.1]) rfl ⟨some ⟨g, 0, none⟩, xss.length, _, rfl, gown_mono (gown_set (gown_set G8.out (by omega) _) (by omega) _) (by omega), (B8.out.setCell (by simp) _).setCell (by simp) _⟩
end Go.Proofs.Ytlacmglkimkjaaa.DelI
