/- Queries for a database: the model's test (spec.IsQueryFor). -/
import Derived.Test.YtpeojpdgknamgaaQryFor
import Derived.Deep.RegionHeld3
import Derived.Deep.DeepCutAuto
namespace Go.Proofs.Ytpeojpdgknamgaa.QryForW
open Go.RowKit
open Go.Proofs.Ytpeojpdgknamgaa.Num Go.Proofs.Ytpeojpdgknamgaa.IntRow Go.Proofs.Ytpeojpdgknamgaa.Rdr Go.Proofs.Ytpeojpdgknamgaa.Dat Go.Proofs.Ytpeojpdgknamgaa.HasL Go.Proofs.Ytpeojpdgknamgaa.QryP Go.Proofs.Ytpeojpdgknamgaa.DbP Go.Proofs.Ytpeojpdgknamgaa.TabFind Go.Proofs.Ytpeojpdgknamgaa.DbVI Go.Proofs.Ytpeojpdgknamgaa.DbVS Go.Proofs.Ytpeojpdgknamgaa.QryVI Go.Proofs.Ytpeojpdgknamgaa.QryVS Go.Proofs.Ytpeojpdgknamgaa.QryFor Go.Proofs.Ytpeojpdgknamgaa.Cells Go.Proofs.Ytpeojpdgknamgaa.Keep Go.Proofs.Ytpeojpdgknamgaa.Kept
set_option linter.unusedVariables false

set_option maxRecDepth 100000 in
set_option maxHeartbeats 4000000 in
theorem spec_qf (cs ds : List Value) (ts : List TableD) (x : QueryD) (lo hi lo' hi' : Nat) (w : World) (hs : szD ts ≤ 1048576) (hs' : szQ x ≤ 1048576) (h : rDb w lo hi cs ts) (h' : rQuery w lo' hi' ds x) (hh : hi ≤ w.heap.size) (hh' : hi' ≤ w.heap.size) :
    Calls Try.prog 24 #[.agg cs.toArray, .agg ds.toArray] w fun e w' => e = .returned (.bool (qf ts x)) ∧ Below w.heap.size w w' := by
  obtain ⟨a, cap, hcs, _, hels⟩ := db_open h
  subst hcs
  obtain ⟨q, capq, o, capo, hds, _, _, hqe, _⟩ := query_open h'
  subst hds
  have K0 := hid ((hasl_new w [.slice a ts.length cap] 44).alloc (.cells #[.int .i64 x.1, .slice q x.2.1.length capq, .slice o x.2.2.length capo] 56))
  have K1 := hid (hasl_new (w.alloc (.cells #[.slice a ts.length cap] 44)) [.int .i64 x.1, .slice q x.2.1.length capq, .slice o x.2.2.length capo] 56)
  have B2 := hid (((Below.refl w.heap.size w).alloc (Nat.le_refl _) (.cells #[.slice a ts.length cap] 44)).alloc (by simp) (.cells #[.int .i64 x.1, .slice q x.2.1.length capq, .slice o x.2.2.length capo] 56))
  simp only [World.size_alloc] at K1
  have hn2 : x.2.1.length ≤ 1048576 := by have := tots_len szA x.2.1; unfold szQ at hs'; omega
  have HSA := hid (fun j (hj : j < x.2.1.length) => show x.2.1[j].2.length ≤ 1048576 by have := elem_le szA x.2.1 j hj; unfold szA at this; unfold szQ szA at hs'; omega)
  have VQ := hid (fun W (hW : Below w.heap.size w W) => spec_vq _ x lo' hi' W hs' (good_query.keep h' (sm_below hW hh')) (Nat.le_trans hh' hW.size))
  have VD := hid (fun W (hW : Below w.heap.size w W) => spec_vdb _ ts lo hi W hs (good_db.keep h (sm_below hW hh)) (Nat.le_trans hh hW.size))
  have LK := hid (fun W (s : ByteArray) (hW : Below w.heap.size w W) => spec_lookup _ ts s lo hi W hs (good_db.keep h (sm_below hW hh)) (Nat.le_trans hh hW.size))
  have HQE := hid hqe
  clear h h' hels hqe hs hs'
  go_enter Try.func24, Try.ntmps24
  go_wp2
  go_loopw [5, 6, 7] (fun i _ _ wr => ∃ k : Nat, k ≤ x.2.1.length ∧ i = .int .i64 k ∧ Hid (∀ j (h : j < x.2.1.length), j < k → okF ts x.2.1[j] = true) ∧ Hid (HasL wr w.heap.size [.slice a ts.length cap]) ∧ Hid (HasL wr (w.heap.size + 1) [.int .i64 x.1, .slice q x.2.1.length capq, .slice o x.2.2.length capo]) ∧ Hid (Below w.heap.size w wr)) (fun i _ _ _ => x.2.1.length - (intOf i).toNat)
  case atStart => exact ⟨0, Nat.zero_le _, rfl, hid (fun j _ h => by omega), K0, K1, B2⟩
  case round =>
    obtain ⟨k, hk, rfl, hall, k0, k1, hb⟩ := hrel
    obtain ⟨p0, _, p2⟩ := k0.out.one
    obtain ⟨q0, q1, q2, _, _, _, q6⟩ := k1.out.three
    by_cases hlt : k < x.2.1.length
    · obtain ⟨b, off, aj, capj, he, _, hbB, c0, c1, rx⟩ := atoms_at (HQE.out.grow good_atom hb.out hh') k hlt
      subst he
      have hsz := hb.out.size
      have hlt' : (k : Int) < (x.2.1.length : Int) := by omega
      have h0' : (0 : Int) ≤ (k : Int) := by omega
      have hlen := HSA.out k hlt
      clear rx
      have hk2 := kp_refl wr
      have hbo0 : b < wr.heap.size := by omega
      go_upto_region 4 with fail
      go_cut [6, 7] (fun s6 s7 wx => ∃ (g : Nat) (ar : Int) (ac : Option Addr) (nc cc : Nat) (f : Bool), s6 = .pointer (some ⟨g, 0, none⟩) ∧ s7 = .bool f ∧ Hid (LkP ts x.2.1[k].1.toList ar f) ∧ Has2 wx g (.int .i64 ar) (.slice ac nc cc) ∧ wr.heap.size ≤ g ∧ Kp wr 0 wx)
      case first =>
        go_region_held3 (fun w' => w'.cell? ⟨w.heap.size, 0, none⟩ = some (.slice a ts.length cap) ∧ w'.cell? ⟨w.heap.size + 1, 1, none⟩ = some (.slice (some ⟨b, off, none⟩) x.2.1.length capq) ∧ w'.cell? ⟨b, off + k * 2, none⟩ = some (.string x.2.1[k].1) ∧ Kp wr 0 w')
          (first
            | (go_split_ands
               repeat' apply And.intro
               all_goals (first | (with_reducible assumption) | (with_reducible exact cell_drew (by assumption)) | (with_reducible exact Kp.drew (by assumption)) | (with_reducible exact Kp.cell (by assumption) hb1 (by omega) (by assumption)) | (with_reducible exact Kp.call (by assumption) hb1) | (with_reducible exact Kp.cell_alloc (by assumption) _ (by omega) (by assumption)) | (with_reducible exact Kp.alloc (by assumption) _) | (with_reducible exact Kp.cell_alloc_drew (by assumption) _ (by omega) (by assumption)) | (with_reducible exact Kp.alloc_drew (by assumption) _) | (with_reducible exact Kp.reall (by assumption) (by omega) _) | (with_reducible exact cell_realloc (by omega) (by assumption) _) | (with_reducible exact cell_set (by assumption) (by omega)) | (with_reducible exact Keep.Kp.set (by assumption) (by omega) _ _))))
          (first
            | (go_split_ands; go_at_call 18; (with_reducible refine (LK.out _ x.2.1[k].1 (hb.out.trans ((Kp.bel (n := 0) (by with_reducible assumption)).mono hsz))).mono ?_); rintro e wC ⟨ar, ac, nc, cc, f, rfl, hp, hb1⟩; have hz0 := hb1.size; (try simp only [World.size_alloc] at hz0); have hz1 : wr.heap.size ≤ wC.heap.size := (by have hk0 : Kp wr 0 _ := (by with_reducible assumption); have hk1 := hk0.sz; (try simp only [World.size_alloc] at hk1); omega); have HPX := hid hp; clear hp; (try (first | (with_reducible have HN := hid (new2_kept hb1)) | (with_reducible have HN := hid (new2_kept_drew hb1)))); (try (obtain ⟨m0, m1, mz, m2, m3⟩ := HN.out))))
        all_goals
          go_wp2_with fail
          go_meet
          go_split_ands
          first
            | exact ⟨_, ar, ac, nc, cc, f, rfl, rfl, HPX, has2_new _ _ _ _, by omega, by with_reducible assumption⟩
            | exact ⟨_, ar, ac, nc, cc, f, rfl, rfl, HPX, has2_set HN.out, by omega, by with_reducible assumption⟩
      case rest =>
      obtain ⟨g, ar, ac, nc, cc, f, rfl, rfl, HP, hz, hgz, hkp⟩ := hcut
      obtain ⟨w3, rfl⟩ : ∃ wo : World, wo = wc := ⟨_, rfl⟩
      have hb3 := hkp.bel
      have HB3 := hid (hb.out.trans (hb3.mono hsz))
      have HB4 := hid HB3.out
      have KA := hid (k0.out.below hb3)
      have KB := hid (k1.out.below hb3)
      obtain ⟨z0, z1, zz, _, _⟩ := hz
      obtain ⟨b2, off2, aj2, capj2, he2, _, hbB2, d0, d1, _⟩ := atoms_at (HQE.out.grow good_atom HB3.out hh') k hlt
      simp only [Option.some.injEq, Addr.mk.injEq, and_true] at he2
      obtain ⟨rfl, rfl⟩ := he2
      obtain ⟨r0, r1, r2, _, _, _, r6⟩ := (k1.out.below hb3).three
      have hbo : b < w3.heap.size := by have := HB3.out.size; omega
      clear hb3 hkp hk2 c0 c1 p0 q0 q1 q2
      cases f with
      | false =>
        have hf := hid (show qf ts x = false by
          cases hv : vDb ts with
          | false => exact qf_db hv
          | true => exact qf_at k hlt (okF_no (HP.out.no rfl hv)))
        go_wp2
        go_quiet (fail)
        go_wp2
        go_ret
        exact ⟨by rw [hf.out]; rfl, ⟨HB4.out.os, HB4.out.tape, HB4.out.output, HB4.out.size, HB4.out.block⟩⟩
      | true =>
        have hvd : vDb ts = true := by
          cases hv : vDb ts with
          | false => have := HP.out.bad hv; cases this
          | true => rfl
        obtain ⟨p, hp, hpn, hpa⟩ := HP.out.yes rfl
        have hok := okF_at (x := x.2.1[k]) (asc_of hvd) hp hpn
        rw [hpa] at hok
        clear hpn hpa hvd
        by_cases har : ar = (x.2.1[k].2.length : Int)
        · have t1 : (ar != (x.2.1[k].2.length : Int)) = false := by simp [har]
          have HA := hid (show ∀ j (h : j < x.2.1.length), j < k + 1 → okF ts x.2.1[j] = true from fun j hj hjk => by
            by_cases e : j = k
            · subst e; rw [hok]; simpa using har
            · exact hall.out j hj (by omega))
          clear har hok
          go_wp2
          go_quiet (fail)
          go_wp2
          go_roundw
          case rel => exact ⟨k + 1, by omega, by go_num, HA, hid ⟨KA.out.1, KA.out.2⟩, hid ⟨KB.out.1, KB.out.2⟩, hid ⟨HB4.out.os, HB4.out.tape, HB4.out.output, HB4.out.size, HB4.out.block⟩⟩
          case measure => simp [intOf]; omega
        · have t1 : (ar != (x.2.1[k].2.length : Int)) = true := by simp [har]
          have hf := hid (qf_at (ts := ts) k hlt (by rw [hok]; simpa using har))
          clear har hok
          go_wp2
          go_quiet (fail)
          go_wp2
          go_ret
          exact ⟨by rw [hf.out]; rfl, ⟨HB4.out.os, HB4.out.tape, HB4.out.output, HB4.out.size, HB4.out.block⟩⟩
    · have hqa := qf_all (ts := ts) (x := x) (fun j hj => hall.out j hj (by omega))
      obtain ⟨vqb, hvq⟩ : ∃ z, vq x = z := ⟨_, rfl⟩
      have VQ2 := hid (VQ.out)
      rw [hvq] at VQ2
      have HVQ := hid hvq
      have HQA := hid hqa
      have hsz := hb.out.size
      clear hqa hvq
      cases vqb with
      | false =>
        have hf := hid (qf_q (ts := ts) HVQ.out)
        go_wp2_with fail
        refine (VQ2.out _ hb.out).mono ?_
        rintro e w1 ⟨rfl, hb1⟩
        have HB := hid (hb.out.trans (hb1.mono hsz))
        clear hb1
        go_wp2
        go_ret
        exact ⟨by rw [hf.out]; rfl, HB.out⟩
      | true =>
        have hf := hid (show qf ts x = vDb ts by rw [HQA.out, HVQ.out]; simp)
        go_wp2_with fail
        refine (VQ2.out _ hb.out).mono ?_
        rintro e w1 ⟨rfl, hb1⟩
        have HB := hid (hb.out.trans (hb1.mono hsz))
        obtain ⟨u0, _, u2⟩ := (k0.out.below hb1).one
        clear hb1
        go_wp2_with fail
        refine (VD.out _ HB.out).mono ?_
        rintro e w2 ⟨rfl, hb1⟩
        have HB2 := hid (HB.out.trans (hb1.mono HB.out.size))
        clear hb1
        go_wp2
        go_ret
        exact ⟨by rw [hf.out]; rfl, HB2.out⟩
end Go.Proofs.Ytpeojpdgknamgaa.QryForW
