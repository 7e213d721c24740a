/- The program's test of a binding (impl.IsBinding). -/
import Derived.Test.YtpeojpdgknamgaaBndP
import Derived.Test.YtpeojpdgknamgaaQryForI
import Derived.Test.YtpeojpdgknamgaaRelPlaceI
import Derived.Test.YtpeojpdgknamgaaRelKit
import Derived.Deep.RegionHeld3
import Derived.Deep.DeepCutAuto
namespace Go.Proofs.Ytpeojpdgknamgaa.BndI
open Go.RowKit
open Go.Proofs.Ytpeojpdgknamgaa.Num Go.Proofs.Ytpeojpdgknamgaa.IntRow Go.Proofs.Ytpeojpdgknamgaa.Grid Go.Proofs.Ytpeojpdgknamgaa.GridLaw Go.Proofs.Ytpeojpdgknamgaa.RelKit Go.Proofs.Ytpeojpdgknamgaa.Rdr Go.Proofs.Ytpeojpdgknamgaa.Dat Go.Proofs.Ytpeojpdgknamgaa.HasL Go.Proofs.Ytpeojpdgknamgaa.Asc Go.Proofs.Ytpeojpdgknamgaa.QryP Go.Proofs.Ytpeojpdgknamgaa.DbP Go.Proofs.Ytpeojpdgknamgaa.TabFind Go.Proofs.Ytpeojpdgknamgaa.QryFor Go.Proofs.Ytpeojpdgknamgaa.QryForI Go.Proofs.Ytpeojpdgknamgaa.RelOf Go.Proofs.Ytpeojpdgknamgaa.RelPlaceI Go.Proofs.Ytpeojpdgknamgaa.Pck Go.Proofs.Ytpeojpdgknamgaa.BndP Go.Proofs.Ytpeojpdgknamgaa.Cells Go.Proofs.Ytpeojpdgknamgaa.Keep Go.Proofs.Ytpeojpdgknamgaa.Kept
set_option linter.unusedVariables false

theorem impl_findL (m : Nat) (n : Int) (a ar : Option Addr) (cap capr len B B' : Nat) (xss : List (List Int)) (r : List Int) (w : World) (hm : r.length = m) (hl : xss.length = len) (hlen : len ≤ 1048576) (hx : ∀ j (h : j < xss.length), xss[j].length ≤ 1048576) (hr : m ≤ 1048576) (h : GRd w B a xss) (h' : Rd w B' ar r) (hB : B ≤ w.heap.size) (hB' : B' ≤ w.heap.size) :
    Calls Try.prog 60 #[.agg #[.int .i64 n, .slice a len cap], .slice ar m capr] w fun e w' => ∃ (p : Nat) (b : Bool), e = .returned (.tuple #[.int .i64 (p : Nat), .bool b]) ∧ Fnd xss r p b ∧ Below w.heap.size w w' := by
  subst hm
  exact impl_find n a ar cap capr len B B' xss r w hl hlen hx hr h h' hB hB'
set_option maxRecDepth 100000 in
set_option maxHeartbeats 4000000 in
theorem impl_bnd (cs ds : List Value) (ts : List TableD) (x : QueryD) (br : Option Addr) (capr BR : Nat) (row : List Int) (lo hi lo' hi' : Nat) (w : World) (hs : szD ts ≤ 1048576) (hs' : szQ x ≤ 1048576) (hrl : row.length ≤ 1048576) (h : rDb w lo hi cs ts) (h' : rQuery w lo' hi' ds x) (hr : Rd w BR br row) (hh : hi ≤ w.heap.size) (hh' : hi' ≤ w.heap.size) (hBR : BR ≤ w.heap.size) :
    Calls Try.prog 29 #[.agg cs.toArray, .agg ds.toArray, .slice br row.length capr] w fun e w' => e = .returned (.bool (bnd ts x row)) ∧ Below w.heap.size w w' := by
  obtain ⟨a, cap, hcs, _, hels⟩ := db_open h
  subst hcs
  obtain ⟨q, capq, o, capo, hds, _, _, hqe, _⟩ := query_open h'
  subst hds
  have K0 := hid ((hasl_new w [.slice a ts.length cap] 44).alloc (.cells #[.int .i64 x.1, .slice q x.2.1.length capq, .slice o x.2.2.length capo] 56))
  have K1 := hid (hasl_new (w.alloc (.cells #[.slice a ts.length cap] 44)) [.int .i64 x.1, .slice q x.2.1.length capq, .slice o x.2.2.length capo] 56)
  have B2 := hid (((Below.refl w.heap.size w).alloc (Nat.le_refl _) (.cells #[.slice a ts.length cap] 44)).alloc (by simp) (.cells #[.int .i64 x.1, .slice q x.2.1.length capq, .slice o x.2.2.length capo] 56))
  simp only [World.size_alloc] at K1
  have hn1 : ts.length ≤ 1048576 := by have := tots_len szT ts; unfold szD at hs; omega
  have hn2 : x.2.1.length ≤ 1048576 := by have := tots_len szA x.2.1; unfold szQ at hs'; omega
  have HSA := hid (fun j (hj : j < x.2.1.length) => show x.2.1[j].2.length ≤ 1048576 by have := elem_le szA x.2.1 j hj; unfold szA at this; unfold szQ szA at hs'; omega)
  obtain ⟨qv, hqv⟩ : ∃ z, qf ts x = z := ⟨_, rfl⟩
  have VQ := hid (impl_qf _ _ ts x lo hi lo' hi' _ hs hs' (good_db.keep h (sm_below B2.out hh)) (good_query.keep h' (sm_below B2.out hh')) (Nat.le_trans hh B2.out.size) (Nat.le_trans hh' B2.out.size))
  rw [hqv] at VQ
  have HQV := hid hqv
  have HQE := hid hqe
  have HDB := hid h
  have HR := hid hr
  clear h h' hels hqe hs hs' hqv hr
  go_enter Try.func29, Try.ntmps29
  obtain ⟨p0, _, p2⟩ := K0.out.one
  obtain ⟨q0, q1, q2, _, _, _, q6⟩ := K1.out.three
  go_wp2_with fail
  with_reducible refine VQ.out.mono ?_
  rintro e w1 ⟨rfl, hb⟩
  have HB := hid (B2.out.trans (hb.mono B2.out.size))
  have KA := hid (K0.out.below hb)
  have KB := hid (K1.out.below hb)
  clear hb p0 p2 q0 q1 q2 q6
  cases qv with
  | false =>
    have hf := hid (bnd_q (row := row) HQV.out)
    go_wp2
    go_ret
    exact ⟨by rw [hf.out]; rfl, HB.out⟩
  | true =>
    obtain ⟨_, hvd, hok⟩ := qf_parts HQV.out
    have HVD := hid hvd
    have HOK := hid hok
    have HAS := hid (asc_of hvd)
    clear hvd hok
    obtain ⟨q0, q1, q2, _, _, _, q6⟩ := KB.out.three
    by_cases hl : (row.length : Int) = x.1
    · have t1 : ((row.length : Int) != x.1) = false := by simp [hl]
      have HL := hid hl
      clear hl
      go_wp2
      clear q0 q1 q2
      go_loopw [8, 9, 10, 11, 12, 27] (fun _ _ _ _ _ i wr => ∃ k : Nat, k ≤ x.2.1.length ∧ i = .int .i64 k ∧ Hid (∀ j (h : j < x.2.1.length), j < k → hits ts row x.2.1[j] = true) ∧ Hid (HasL wr w.heap.size [.slice a ts.length cap]) ∧ Hid (Below w.heap.size w wr)) (fun _ _ _ _ _ i _ => x.2.1.length - (intOf i).toNat)
      case atStart => exact ⟨0, Nat.zero_le _, rfl, hid (fun j _ h => by omega), KA, HB⟩
      case round =>
        obtain ⟨k, hk, rfl, hall, k0, hb⟩ := hrel
        by_cases hlt : k < x.2.1.length
        · obtain ⟨b, off, aj, capj, rfl, _, hbB, c0, c1, rx⟩ := atoms_at (HQE.out.grow good_atom hb.out hh') k hlt
          have hsz := hb.out.size
          obtain ⟨p0, _, p2⟩ := k0.out.one
          have BX := hid ((Below.refl wr.heap.size wr).alloc (Nat.le_refl _) (.cells #[.string x.2.1[k].1, .slice aj x.2.1[k].2.length capj] 82))
          have HBX := hid (hb.out.trans (BX.out.mono hsz))
          have KX := hid (k0.out.alloc (.cells #[.string x.2.1[k].1, .slice aj x.2.1[k].2.length capj] 82))
          have KT := hid (hasl_new wr [.string x.2.1[k].1, .slice aj x.2.1[k].2.length capj] 82)
          have F := hid (impl_rof _ _ ts x.2.1[k] lo hi lo' hi' (wr.alloc (.cells #[.string x.2.1[k].1, .slice aj x.2.1[k].2.length capj] 82)) hn1 HAS.out (HSA.out k hlt) (good_db.keep HDB.out (sm_below HBX.out hh)) (good_atom.keep rx (sm_below BX.out (by omega))) (Nat.le_trans hh HBX.out.size) (Nat.le_trans hh' HBX.out.size))
          have hlt' : (k : Int) < (x.2.1.length : Int) := by omega
          have h0' : (0 : Int) ≤ (k : Int) := by omega
          obtain ⟨_, _, hae, _, _, hvr⟩ := atom_open rx
          simp only [List.cons.injEq, Value.slice.injEq, and_true, true_and] at hae
          obtain ⟨rfl, rfl⟩ := hae
          have HVR := hid (rd_of hvr)
          have hvl := HSA.out k hlt
          clear rx hvr
          go_wp2_with fail
          with_reducible refine F.out.mono ?_
          rintro e w3 ⟨r, f, ar, capr', rfl, hf, hrel, hb3⟩
          obtain ⟨hre, hvrel⟩ := rof_ok HVD.out (HOK.out k hlt) hf
          have HRE := hid hre
          have HVREL := hid hvrel
          obtain ⟨hrl1, hrl2⟩ := vrel_len hvrel
          have HRL2 := hid hrl2
          obtain ⟨_, _, hre2, _, hgr⟩ := rel_open hrel
          simp only [List.cons.injEq, Value.slice.injEq, and_true, true_and] at hre2
          obtain ⟨rfl, rfl⟩ := hre2
          have hs3 := hb3.size
          simp only [World.size_alloc] at hs3
          have HB3 := hid ((HBX.out.trans (hb3.mono HBX.out.size)).alloc (Nat.le_trans HBX.out.size hb3.size) (.cells #[.int .i64 r.1, .slice ar r.2.length capr'] 27))
          have KX3 := hid ((KX.out.below hb3).alloc (.cells #[.int .i64 r.1, .slice ar r.2.length capr'] 27))
          have KT3 := hid ((KT.out.below hb3).alloc (.cells #[.int .i64 r.1, .slice ar r.2.length capr'] 27))
          have KR3 := hid (hasl_new w3 [.int .i64 r.1, .slice ar r.2.length capr'] 27)
          have HGR := hid ((grd_of hgr).below (((Below.refl w3.heap.size w3).alloc (Nat.le_refl _) (.cells #[.int .i64 r.1, .slice ar r.2.length capr'] 27)).mono (show hi ≤ w3.heap.size by omega)))
          have HBW := hid ((BX.out.trans (hb3.mono BX.out.size)).alloc (Nat.le_trans BX.out.size hb3.size) (.cells #[.int .i64 r.1, .slice ar r.2.length capr'] 27))
          clear hf hb3 c0 c1 p0 p2 hre hvrel hrl2 hrel hgr
          generalize hW4 : w3.alloc (.cells #[.int .i64 r.1, .slice ar r.2.length capr'] 27) = w4 at HB3 KX3 KT3 KR3 HGR HBW
          have hs4 : w3.heap.size < w4.heap.size := by rw [← hW4]; simp
          obtain ⟨d0, d1, _, _, dz⟩ := KT3.out.two
          obtain ⟨m0, m1, _, _, mz⟩ := KR3.out.two
          have hk2 := kp_refl w4
          have HVR4 := hid (HVR.out.below (HBW.out.mono (show hi' ≤ wr.heap.size by omega)))
          have HR4 := hid (HR.out.below (HB3.out.mono hBR))
          have HCO := hid (cols_q HQV.out HL.out k hlt)
          have hpl := hid (pick_len row x.2.1[k].2)
          have hiw : hi ≤ w4.heap.size := by have := HB3.out.size; omega
          have hiw' : hi' ≤ w4.heap.size := by have := HB3.out.size; omega
          have hBRw : BR ≤ w4.heap.size := by have := HB3.out.size; omega
          go_upto_region 7 with fail
          go_cut [11, 12] (fun s11 s12 wx => ∃ (p : Nat) (bb : Bool), s11 = .int .i64 (p : Nat) ∧ s12 = .bool bb ∧ Hid (bb = hits ts row x.2.1[k]) ∧ Kp w4 0 wx)
          case first =>
            go_region_held3 (fun w' => w'.cell? ⟨w3.heap.size, 0, none⟩ = some (.int .i64 r.1) ∧ w'.cell? ⟨w3.heap.size, 1, none⟩ = some (.slice ar r.2.length capr') ∧ w'.cell? ⟨wr.heap.size, 1, none⟩ = some (.slice aj x.2.1[k].2.length capj) ∧ Kp w4 0 w')
              (first
                | (go_split_ands
                   repeat' apply And.intro
                   all_goals (first | (with_reducible assumption) | (with_reducible exact cell_drew (by assumption)) | (with_reducible exact Kp.drew (by assumption)) | (with_reducible exact Kp.cell (by assumption) hb1 (by omega) (by assumption)) | (with_reducible exact Kp.call (by assumption) hb1))))
              (first
                | (go_split_ands; go_at_call 38; (with_reducible refine (impl_pick br aj capr capj BR hi' row x.2.1[k].2 _ hrl hvl HCO.out (rd_kp HR4.out (by with_reducible assumption) hBRw) (rd_kp HVR4.out (by with_reducible assumption) hiw') (kp_le (by with_reducible assumption) hBRw) (kp_le (by with_reducible assumption) hiw')).mono ?_); rintro e wP ⟨rfl, hatP, hb1⟩; have HP : RowKit.Hid (Rd wP wP.heap.size (some ⟨w4.heap.size, 0, none⟩) (pick row x.2.1[k].2)) := hid (at_rd hatP); clear hatP)
                | (go_split_ands; go_at_call 60; (with_reducible refine (impl_findL _ r.1 ar _ capr' _ r.2.length hi wP.heap.size r.2 (pick row x.2.1[k].2) _ hpl.out rfl hrl1 HRL2.out hvl (grd_kp HGR.out (by with_reducible assumption) hiw) (by first | (with_reducible exact HP.out) | (with_reducible exact HP.out.drew) | exact HP.out | exact HP.out.drew) (kp_le (by with_reducible assumption) hiw) (by first | exact Nat.le_refl _ | simp)).mono ?_); rintro e wF ⟨p, bb, rfl, hfnd, hb1⟩; have HF := hid hfnd; clear hfnd))
            all_goals
              go_wp2_with fail
              go_meet
              go_split_ands
              exact ⟨p, bb, rfl, rfl, hid (by
                obtain ⟨_, _, _, hasc⟩ := vrel_parts HVREL.out
                rw [HF.out.mem hasc, hits, HRE.out]), by with_reducible assumption⟩
          case rest =>
            obtain ⟨p, bb, rfl, rfl, hbb, hkp⟩ := hcut
            obtain ⟨w5, rfl⟩ : ∃ wo : World, wo = wc := ⟨_, rfl⟩
            have hb5 := hkp.bel
            have HB5 := hid (HB3.out.trans (hb5.mono HB3.out.size))
            have KX5 := hid (KX3.out.below hb5)
            clear hb5 hkp hk2 d0 d1 dz m0 m1 mz
            cases bb with
            | false =>
              have hf := hid (bnd_at (ts := ts) (row := row) k hlt hbb.out.symm)
              go_wp2
              go_ret
              exact ⟨by rw [hf.out]; rfl, HB5.out⟩
            | true =>
              have HA := hid (show ∀ j (h : j < x.2.1.length), j < k + 1 → hits ts row x.2.1[j] = true from fun j hj hjk => by
                by_cases e : j = k
                · subst e; exact hbb.out.symm
                · exact hall.out j hj (by omega))
              go_wp2
              go_roundw
              case rel => exact ⟨k + 1, by omega, by go_num, HA, KX5, HB5⟩
              case measure => simp [intOf]; omega
        · have hf := hid (bnd_all HQV.out HL.out (fun j hj => hall.out j hj (by omega)))
          go_wp2
          go_ret
          exact ⟨by rw [hf.out]; rfl, hb.out⟩
    · have t1 : ((row.length : Int) != x.1) = true := by simp [hl]
      have hf := hid (bnd_len (ts := ts) hl)
      clear hl
      go_wp2
      go_ret
      exact ⟨by rw [hf.out]; rfl, HB.out⟩
end Go.Proofs.Ytpeojpdgknamgaa.BndI
