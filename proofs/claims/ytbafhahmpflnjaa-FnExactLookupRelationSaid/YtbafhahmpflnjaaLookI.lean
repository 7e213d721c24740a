/- A relation found by its table's name: the program's (impl.LookupRelation, impl.relationOfAtom). -/
import Derived.Test.YtbafhahmpflnjaaQryFor
import Derived.Test.YtbafhahmpflnjaaClones
namespace Go.Proofs.Ytbafhahmpflnjaa.LookI
open Go.RowKit
open Go.Proofs.Ytbafhahmpflnjaa.Grid Go.Proofs.Ytbafhahmpflnjaa.GridMore Go.Proofs.Ytbafhahmpflnjaa.GridLaw2 Go.Proofs.Ytbafhahmpflnjaa.RelKit Go.Proofs.Ytbafhahmpflnjaa.Clones
open Go.Proofs.Ytbafhahmpflnjaa.Num Go.Proofs.Ytbafhahmpflnjaa.IntRow Go.Proofs.Ytbafhahmpflnjaa.Rdr Go.Proofs.Ytbafhahmpflnjaa.Dat Go.Proofs.Ytbafhahmpflnjaa.HasL Go.Proofs.Ytbafhahmpflnjaa.QryP Go.Proofs.Ytbafhahmpflnjaa.DbP Go.Proofs.Ytbafhahmpflnjaa.TabFind Go.Proofs.Ytbafhahmpflnjaa.DbVI Go.Proofs.Ytbafhahmpflnjaa.DbVS Go.Proofs.Ytbafhahmpflnjaa.QryVI Go.Proofs.Ytbafhahmpflnjaa.QryVS Go.Proofs.Ytbafhahmpflnjaa.GridLaw Go.Proofs.Ytbafhahmpflnjaa.TableLaw Go.Proofs.Ytbafhahmpflnjaa.QryFor
set_option linter.unusedVariables false

set_option maxRecDepth 100000 in
set_option maxHeartbeats 4000000 in
theorem impl_look (cs : List Value) (ts : List TableD) (s : ByteArray) (lo hi : Nat) (w : World) (hs : szD ts ≤ 1048576) (h : rDb w lo hi cs ts) (hh : hi ≤ w.heap.size) :
    Calls Try.prog 38 #[.agg cs.toArray, .string s] w (Lks ts s.toList w) := by
  obtain ⟨a, cap, hcs, _, hels⟩ := db_open h
  subst hcs
  have K0 := hid ((hasl_new w [.slice a ts.length cap] 34).alloc (.cells #[.int .i64 0, .slice none 0 0] 58))
  have K1 := hid (hasl_new (w.alloc (.cells #[.slice a ts.length cap] 34)) [.int .i64 0, .slice none 0 0] 58)
  have B2 := hid (((Below.refl w.heap.size w).alloc (Nat.le_refl _) (.cells #[.slice a ts.length cap] 34)).alloc (by simp) (.cells #[.int .i64 0, .slice none 0 0] 58))
  have hn1 : ts.length ≤ 1048576 := by have := tots_len szT ts; unfold szD at hs; omega
  simp only [World.size_alloc] at K1
  have HS := hid (table_le hs)
  have HE := hid hels
  have HDB := hid h
  obtain ⟨vd, hvd⟩ : ∃ z, vDb ts = z := ⟨_, rfl⟩
  have V := hid (fun W (hW : Below w.heap.size w W) => by
    have := impl_vdb _ ts lo hi W hs (good_db.keep h (sm_below hW hh)) (Nat.le_trans hh hW.size)
    rw [hvd] at this
    exact this)
  have HV := hid hvd
  clear h hels hs hvd
  cases vd with
  | false =>
    go_enter Try.func38, Try.ntmps38
    obtain ⟨p0, _, p2⟩ := K0.out.one
    go_wp2_with fail
    with_reducible refine (V.out _ B2.out).mono ?_
    rintro e w2 ⟨rfl, hb2⟩
    have HB := hid (B2.out.trans (hb2.mono B2.out.size))
    have K := hid (K1.out.below hb2)
    obtain ⟨q0, q1, q2, q3, q4⟩ := K.out.two
    obtain ⟨r0, r1, _, _, _⟩ := HasL.two ((K.out.put 0 (.int .i64 0)).put 1 (.slice none 0 0))
    clear hb2 p0 p2
    go_wp2
    exact bodyPost_ret (v := .tuple #[.agg #[.int .i64 0, .slice none 0 0], .bool false]) (by simp [results, Try.results38, go_sem, r0, r1]) rfl ⟨(0, []), false, none, 0, [], rfl, ⟨fun e => (by cases e), fun _ => ⟨rfl, fun e => by rw [HV.out] at e; cases e⟩⟩, GOwn.nil _ _ _ _, (HB.out.setCell (by simp) _).setCell (by simp) _⟩
  | true =>
    have HAS := hid (asc_of HV.out)
    go_enter Try.func38, Try.ntmps38
    obtain ⟨p0, _, p2⟩ := K0.out.one
    go_wp2_with fail
    with_reducible refine (V.out _ B2.out).mono ?_
    rintro e w2 ⟨rfl, hb2⟩
    have HB := hid (B2.out.trans (hb2.mono B2.out.size))
    have KA := hid (K0.out.below hb2)
    have KB := hid (K1.out.below hb2)
    clear hb2 p0 p2
    obtain ⟨p0, _, p2⟩ := KA.out.one
    have F := hid (impl_findT _ ts s lo hi w2 hn1 HAS.out (good_db.keep HDB.out (sm_below HB.out hh)) (Nat.le_trans hh HB.out.size))
    go_wp2_with fail
    with_reducible refine F.out.mono ?_
    rintro e w3 ⟨p, bb, rfl, hf, hb3⟩
    have HF := hid hf
    have HB3 := hid (HB.out.trans (hb3.mono HB.out.size))
    have KA3 := hid (KA.out.below hb3)
    have KB3 := hid (KB.out.below hb3)
    clear hf hb3 p0 p2
    cases bb with
    | false =>
      obtain ⟨q0, q1, q2, q3, q4⟩ := KB3.out.two
      obtain ⟨r0, r1, _, _, _⟩ := HasL.two ((KB3.out.put 0 (.int .i64 0)).put 1 (.slice none 0 0))
      go_wp2
      exact bodyPost_ret (v := .tuple #[.agg #[.int .i64 0, .slice none 0 0], .bool false]) (by simp [results, Try.results38, go_sem, r0, r1]) rfl ⟨(0, []), false, none, 0, [], rfl, ⟨fun e => (by cases e), fun _ => ⟨rfl, fun _ => HF.out.no rfl⟩⟩, GOwn.nil _ _ _ _, (HB3.out.setCell (by simp) _).setCell (by simp) _⟩
    | true =>
      obtain ⟨hp, hpn⟩ := HF.out.yes rfl
      have HPN := hid hpn
      obtain ⟨bt, ot, at', capt, he, _, hbt, d0, d1, d2, rx⟩ := tables_at (HE.out.grow good_table HB3.out hh) p hp
      subst he
      obtain ⟨aa, cc, hcs, _, _, rr⟩ := table_open rx
      simp only [List.cons.injEq, Value.slice.injEq, and_true, true_and] at hcs
      obtain ⟨rfl, rfl⟩ := hcs
      have htot : tot ts[p].2.2 ≤ 1048576 := by
        have := HS.out p hp
        rw [← szG_tot]
        unfold szT at this
        omega
      have C := hid (impl_clone ts[p].2.1 at' capt hi ts[p].2.2 w3 htot (grd_of rr) (Nat.le_trans hh HB3.out.size))
      have hp' : (p : Int) < (ts.length : Int) := by omega
      have hp0 : (0 : Int) ≤ (p : Int) := by omega
      obtain ⟨k0, _, k2⟩ := KA3.out.one
      clear hpn rx rr htot
      go_wp2_with fail
      with_reducible refine C.out.mono ?_
      rintro e w4 ⟨g, vs, rfl, hg, hown, hb4⟩
      have HB4 := hid (HB3.out.trans (hb4.mono HB3.out.size))
      have K := hid (KB3.out.below hb4)
      have hlo : w.heap.size + 2 ≤ w3.heap.size := by have := KB3.out.1; omega
      have HG := hid ((gown_set (gown_set (o := 0) hown (b := w.heap.size + 1) (by omega) (.int .i64 ts[p].2.1)) (o := 1) (b := w.heap.size + 1) (by omega) (.slice (some ⟨g, 0, none⟩) ts[p].2.2.length ts[p].2.2.length)).mono (show w.heap.size ≤ g by omega))
      obtain ⟨q0, q1, q2, q3, q4⟩ := K.out.two
      obtain ⟨r0, r1, _, _, _⟩ := HasL.two ((K.out.put 0 (.int .i64 ts[p].2.1)).put 1 (.slice (some ⟨g, 0, none⟩) ts[p].2.2.length ts[p].2.2.length))
      clear hb4 hown d0 d1 d2 k0 k2
      go_wp2
      exact bodyPost_ret (v := .tuple #[.agg #[.int .i64 ts[p].2.1, .slice (some ⟨g, 0, none⟩) ts[p].2.2.length ts[p].2.2.length], .bool true]) (by simp [results, Try.results38, go_sem, r0, r1]) rfl ⟨ts[p].2, true, some ⟨g, 0, none⟩, ts[p].2.2.length, vs, rfl, ⟨fun _ => ⟨HV.out, p, hp, HPN.out, rfl⟩, fun e => (by cases e)⟩, HG.out, (HB4.out.setCell (by simp) _).setCell (by simp) _⟩
end Go.Proofs.Ytbafhahmpflnjaa.LookI
