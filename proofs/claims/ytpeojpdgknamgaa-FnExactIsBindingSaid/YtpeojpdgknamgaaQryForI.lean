/- Queries for a database: the program's test (impl.IsQueryFor). -/
import Derived.Test.YtpeojpdgknamgaaRelOf
namespace Go.Proofs.Ytpeojpdgknamgaa.QryForI
open Go.RowKit
open Go.Proofs.Ytpeojpdgknamgaa.Num Go.Proofs.Ytpeojpdgknamgaa.IntRow Go.Proofs.Ytpeojpdgknamgaa.Rdr Go.Proofs.Ytpeojpdgknamgaa.Dat Go.Proofs.Ytpeojpdgknamgaa.HasL Go.Proofs.Ytpeojpdgknamgaa.QryP Go.Proofs.Ytpeojpdgknamgaa.DbP Go.Proofs.Ytpeojpdgknamgaa.TabFind Go.Proofs.Ytpeojpdgknamgaa.DbVI Go.Proofs.Ytpeojpdgknamgaa.DbVS Go.Proofs.Ytpeojpdgknamgaa.QryVI Go.Proofs.Ytpeojpdgknamgaa.QryVS Go.Proofs.Ytpeojpdgknamgaa.QryFor Go.Proofs.Ytpeojpdgknamgaa.RelOf
set_option linter.unusedVariables false

set_option maxRecDepth 100000 in
set_option maxHeartbeats 4000000 in
theorem impl_qf (cs ds : List Value) (ts : List TableD) (x : QueryD) (lo hi lo' hi' : Nat) (w : World) (hs : szD ts ≤ 1048576) (hs' : szQ x ≤ 1048576) (h : rDb w lo hi cs ts) (h' : rQuery w lo' hi' ds x) (hh : hi ≤ w.heap.size) (hh' : hi' ≤ w.heap.size) :
    Calls Try.prog 26 #[.agg cs.toArray, .agg ds.toArray] w fun e w' => e = .returned (.bool (qf ts x)) ∧ Below w.heap.size w w' := by
  obtain ⟨a, cap, hcs, _, hels⟩ := db_open h
  subst hcs
  obtain ⟨q, capq, o, capo, hds, _, _, hqe, _⟩ := query_open h'
  subst hds
  have K0 := hid ((hasl_new w [.slice a ts.length cap] 44).alloc (.cells #[.int .i64 x.1, .slice q x.2.1.length capq, .slice o x.2.2.length capo] 56))
  have K1 := hid (hasl_new (w.alloc (.cells #[.slice a ts.length cap] 44)) [.int .i64 x.1, .slice q x.2.1.length capq, .slice o x.2.2.length capo] 56)
  have B2 := hid (((Below.refl w.heap.size w).alloc (Nat.le_refl _) (.cells #[.slice a ts.length cap] 44)).alloc (by simp) (.cells #[.int .i64 x.1, .slice q x.2.1.length capq, .slice o x.2.2.length capo] 56))
  simp only [World.size_alloc] at K1
  have hn1 : ts.length ≤ 1048576 := by have := tots_len szT ts; unfold szD at hs; omega
  have hn2 : x.2.1.length ≤ 1048576 := by have := tots_len szA x.2.1; unfold szQ at hs'; omega
  have HSA := hid (fun j (hj : j < x.2.1.length) => show x.2.1[j].2.length ≤ 1048576 by have := elem_le szA x.2.1 j hj; unfold szA at this; unfold szQ szA at hs'; omega)
  obtain ⟨vqb, hvq⟩ : ∃ z, vq x = z := ⟨_, rfl⟩
  obtain ⟨vdb, hvd⟩ : ∃ z, vDb ts = z := ⟨_, rfl⟩
  have VQ := hid (fun W (hW : Below w.heap.size w W) => by
    have := impl_vq _ x lo' hi' W hs' (good_query.keep h' (sm_below hW hh')) (Nat.le_trans hh' hW.size)
    rw [hvq] at this
    exact this)
  have VD := hid (fun W (hW : Below w.heap.size w W) => by
    have := impl_vdb _ ts lo hi W hs (good_db.keep h (sm_below hW hh)) (Nat.le_trans hh hW.size)
    rw [hvd] at this
    exact this)
  have HVQ := hid hvq
  have HVD := hid hvd
  have HE := hid hels
  have HQE := hid hqe
  have HDB := hid h
  clear h h' hels hqe hs hs' hvq hvd
  cases vqb with
  | false =>
    have hf := hid (qf_q (ts := ts) HVQ.out)
    go_enter Try.func26, Try.ntmps26
    go_wp2_with fail
    refine (VQ.out _ B2.out).mono ?_
    rintro e w1 ⟨rfl, hb⟩
    have HB := hid (B2.out.trans (hb.mono B2.out.size))
    clear hb
    go_wp2
    go_ret
    exact ⟨by rw [hf.out]; rfl, HB.out⟩
  | true =>
    cases vdb with
    | false =>
      have hf := hid (qf_db (x := x) HVD.out)
      go_enter Try.func26, Try.ntmps26
      go_wp2_with fail
      refine (VQ.out _ B2.out).mono ?_
      rintro e w1 ⟨rfl, hb⟩
      have HB := hid (B2.out.trans (hb.mono B2.out.size))
      obtain ⟨p0, _, p2⟩ := (K0.out.below hb).one
      clear hb
      go_wp2_with fail
      refine (VD.out _ HB.out).mono ?_
      rintro e w2 ⟨rfl, hb⟩
      have HB2 := hid (HB.out.trans (hb.mono HB.out.size))
      clear hb
      go_wp2
      go_ret
      exact ⟨by rw [hf.out]; rfl, HB2.out⟩
    | true =>
      have HAS := hid (asc_of HVD.out)
      go_enter Try.func26, Try.ntmps26
      go_wp2_with fail
      refine (VQ.out _ B2.out).mono ?_
      rintro e w1 ⟨rfl, hb⟩
      have HB := hid (B2.out.trans (hb.mono B2.out.size))
      have KA := hid (K0.out.below hb)
      have KB := hid (K1.out.below hb)
      obtain ⟨p0, _, p2⟩ := KA.out.one
      clear hb
      go_wp2_with fail
      refine (VD.out _ HB.out).mono ?_
      rintro e w2 ⟨rfl, hb⟩
      have HB2 := hid (HB.out.trans (hb.mono HB.out.size))
      have KA2 := hid (KA.out.below hb)
      have KB2 := hid (KB.out.below hb)
      obtain ⟨_, q1, _, _, _, _, _⟩ := KB2.out.three
      clear hb p0 p2
      go_wp2
      clear q1
      go_loopw [6, 7, 8, 20] (fun _ _ _ i wr => ∃ k : Nat, k ≤ x.2.1.length ∧ i = .int .i64 k ∧ Hid (∀ j (h : j < x.2.1.length), j < k → okF ts x.2.1[j] = true) ∧ Hid (HasL wr w.heap.size [.slice a ts.length cap]) ∧ Hid (Below w.heap.size w wr)) (fun _ _ _ i _ => x.2.1.length - (intOf i).toNat)
      case atStart => exact ⟨0, Nat.zero_le _, rfl, hid (fun j _ h => by omega), KA2, HB2⟩
      case round =>
        obtain ⟨k, hk, rfl, hall, k0, hb⟩ := hrel
        by_cases hlt : k < x.2.1.length
        · obtain ⟨b, off, aj, capj, rfl, _, hbB, c0, c1, rx⟩ := atoms_at (HQE.out.grow good_atom hb.out hh') k hlt
          have hsz := hb.out.size
          obtain ⟨p0, _, p2⟩ := k0.out.one
          have BX := hid ((Below.refl wr.heap.size wr).alloc (Nat.le_refl _) (.cells #[.string x.2.1[k].1, .slice aj x.2.1[k].2.length capj] 82))
          have HBX := hid (hb.out.trans (BX.out.mono hsz))
          have KX := hid (k0.out.alloc (.cells #[.string x.2.1[k].1, .slice aj x.2.1[k].2.length capj] 82))
          have KT := hid (hasl_new wr [.string x.2.1[k].1, .slice aj x.2.1[k].2.length capj] 82)
          have F := hid (impl_rof _ _ ts x.2.1[k] lo hi lo' hi' (wr.alloc (.cells #[.string x.2.1[k].1, .slice aj x.2.1[k].2.length capj] 82)) hn1 HAS.out (HSA.out k hlt) (good_db.keep HDB.out (sm_below HBX.out hh)) (good_atom.keep rx (sm_below BX.out (by omega))) (Nat.le_trans hh HBX.out.size) (Nat.le_trans hh' HBX.out.size))
          have hlt' : (k : Int) < (x.2.1.length : Int) := by omega
          have h0' : (0 : Int) ≤ (k : Int) := by omega
          clear rx
          go_wp2_with fail
          with_reducible refine F.out.mono ?_
          rintro e w3 ⟨r, f, ar, capr, rfl, hf, _, hb3⟩
          have HF := hid hf
          have HB3 := hid ((HBX.out.trans (hb3.mono HBX.out.size)).alloc (Nat.le_trans HBX.out.size hb3.size) (.cells #[.int .i64 r.1, .slice ar r.2.length capr] 27))
          have KX3 := hid ((KX.out.below hb3).alloc (.cells #[.int .i64 r.1, .slice ar r.2.length capr] 27))
          clear hf hb3 c0 c1 p0
          cases f with
          | false =>
            have hf := hid (qf_at (ts := ts) k hlt HF.out.ok)
            go_wp2
            go_ret
            exact ⟨by rw [hf.out]; rfl, HB3.out⟩
          | true =>
            have HA := hid (show ∀ j (h : j < x.2.1.length), j < k + 1 → okF ts x.2.1[j] = true from fun j hj hjk => by
              by_cases e : j = k
              · subst e; exact HF.out.ok
              · exact hall.out j hj (by omega))
            go_wp2
            go_roundw
            case rel => exact ⟨k + 1, by omega, by go_num, HA, KX3, HB3⟩
            case measure => simp [intOf]; omega
        · have hf := hid (show qf ts x = true by rw [qf_all (fun j hj => hall.out j hj (by omega)), HVQ.out, HVD.out]; rfl)
          go_wp2
          go_ret
          exact ⟨by rw [hf.out]; rfl, hb.out⟩

end Go.Proofs.Ytpeojpdgknamgaa.QryForI
