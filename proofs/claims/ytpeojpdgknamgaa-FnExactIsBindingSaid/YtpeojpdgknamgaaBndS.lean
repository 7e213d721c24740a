/- The model's test of a binding (spec.IsBinding). -/
import Derived.Test.YtpeojpdgknamgaaBndP
import Derived.Test.YtpeojpdgknamgaaQryForW
import Derived.Test.YtpeojpdgknamgaaRelPlaceI
import Derived.Test.YtpeojpdgknamgaaRelKit
namespace Go.Proofs.Ytpeojpdgknamgaa.BndS
open Go.RowKit
open Go.Proofs.Ytpeojpdgknamgaa.Num Go.Proofs.Ytpeojpdgknamgaa.IntRow Go.Proofs.Ytpeojpdgknamgaa.Grid Go.Proofs.Ytpeojpdgknamgaa.GridLaw Go.Proofs.Ytpeojpdgknamgaa.GridLaw2 Go.Proofs.Ytpeojpdgknamgaa.RelKit Go.Proofs.Ytpeojpdgknamgaa.Rdr Go.Proofs.Ytpeojpdgknamgaa.Dat Go.Proofs.Ytpeojpdgknamgaa.HasL Go.Proofs.Ytpeojpdgknamgaa.Asc Go.Proofs.Ytpeojpdgknamgaa.QryP Go.Proofs.Ytpeojpdgknamgaa.DbP Go.Proofs.Ytpeojpdgknamgaa.TabFind Go.Proofs.Ytpeojpdgknamgaa.QryFor Go.Proofs.Ytpeojpdgknamgaa.QryForW Go.Proofs.Ytpeojpdgknamgaa.RelPlaceI Go.Proofs.Ytpeojpdgknamgaa.Pck Go.Proofs.Ytpeojpdgknamgaa.BndP Go.Proofs.Ytpeojpdgknamgaa.Cells Go.Proofs.Ytpeojpdgknamgaa.Keep Go.Proofs.Ytpeojpdgknamgaa.Kept
set_option linter.unusedVariables false

theorem spec_containsL (m : Nat) (n : Int) (a ar : Option Addr) (cap capr len B B' : Nat) (xss : List (List Int)) (r : List Int) (bb : Bool) (w : World) (hm : r.length = m) (hl : xss.length = len) (hlen : len ≤ 1048576) (hx : ∀ j (h : j < xss.length), xss[j].length ≤ 1048576) (hr : m ≤ 1048576) (h : GRd w B a xss) (h' : Rd w B' ar r) (hB : B ≤ w.heap.size) (hB' : B' ≤ w.heap.size) (hb : (vrel n xss && decide (r ∈ xss)) = bb) :
    Calls Try.prog 59 #[.agg #[.int .i64 n, .slice a len cap], .slice ar m capr] w fun e w' => e = .returned (.bool bb) ∧ Below w.heap.size w w' := by
  subst hm
  subst hb
  exact spec_contains n a ar cap capr len B B' xss r w hl hlen hx hr h h' hB hB'
set_option maxRecDepth 100000 in
set_option maxHeartbeats 4000000 in
theorem spec_bnd (cs ds : List Value) (ts : List TableD) (x : QueryD) (br : Option Addr) (capr BR : Nat) (row : List Int) (lo hi lo' hi' : Nat) (w : World) (hs : szD ts ≤ 1048576) (hs' : szQ x ≤ 1048576) (hrl : row.length ≤ 1048576) (h : rDb w lo hi cs ts) (h' : rQuery w lo' hi' ds x) (hr : Rd w BR br row) (hh : hi ≤ w.heap.size) (hh' : hi' ≤ w.heap.size) (hBR : BR ≤ w.heap.size) :
    Calls Try.prog 28 #[.agg cs.toArray, .agg ds.toArray, .slice br row.length capr] w fun e w' => e = .returned (.bool (bnd ts x row)) ∧ Below w.heap.size w w' := by
  obtain ⟨a, cap, hcs, _, hels⟩ := db_open h
  subst hcs
  obtain ⟨q, capq, o, capo, hds, _, _, hqe, _⟩ := query_open h'
  subst hds
  have K0 := hid ((hasl_new w [.slice a ts.length cap] 44).alloc (.cells #[.int .i64 x.1, .slice q x.2.1.length capq, .slice o x.2.2.length capo] 56))
  have K1 := hid (hasl_new (w.alloc (.cells #[.slice a ts.length cap] 44)) [.int .i64 x.1, .slice q x.2.1.length capq, .slice o x.2.2.length capo] 56)
  have B2 := hid (((Below.refl w.heap.size w).alloc (Nat.le_refl _) (.cells #[.slice a ts.length cap] 44)).alloc (by simp) (.cells #[.int .i64 x.1, .slice q x.2.1.length capq, .slice o x.2.2.length capo] 56))
  simp only [World.size_alloc] at K1
  have hn1 : ts.length ≤ 1048576 := by have := tots_len szT ts; unfold szD at hs; omega
  have hn2 : x.2.1.length ≤ 1048576 := by have := tots_len szA x.2.1; unfold szQ at hs'; omega
  have HSA := hid (fun j (hj : j < x.2.1.length) => show x.2.1[j].2.length ≤ 1048576 by have := elem_le szA x.2.1 j hj; unfold szA at this; unfold szQ szA at hs'; omega)
  obtain ⟨qv, hqv⟩ : ∃ z, qf ts x = z := ⟨_, rfl⟩
  have VQ := hid (spec_qf _ _ ts x lo hi lo' hi' _ hs hs' (good_db.keep h (sm_below B2.out hh)) (good_query.keep h' (sm_below B2.out hh')) (Nat.le_trans hh B2.out.size) (Nat.le_trans hh' B2.out.size))
  rw [hqv] at VQ
  have HQV := hid hqv
  have HQE := hid hqe
  have LK := hid (fun W (s : ByteArray) (hW : Below w.heap.size w W) => spec_look _ ts s lo hi W hs (good_db.keep h (sm_below hW hh)) (Nat.le_trans hh hW.size))
  have HDB := hid h
  have HR := hid hr
  clear h h' hels hqe hs hs' hqv hr
  go_enter Try.func28, Try.ntmps28
  obtain ⟨p0, _, p2⟩ := K0.out.one
  obtain ⟨q0, q1, q2, _, _, _, q6⟩ := K1.out.three
  go_wp2_with fail
  with_reducible refine VQ.out.mono ?_
  rintro e w1 ⟨rfl, hb⟩
  have HB := hid (B2.out.trans (hb.mono B2.out.size))
  have KA := hid (K0.out.below hb)
  have KB := hid (K1.out.below hb)
  clear hb p0 p2 q0 q1 q2 q6
  cases qv with
  | false =>
    have hf := hid (bnd_q (row := row) HQV.out)
    go_wp2
    go_ret
    exact ⟨by rw [hf.out]; rfl, HB.out⟩
  | true =>
    obtain ⟨_, hvd, hok⟩ := qf_parts HQV.out
    have HVD := hid hvd
    have HOK := hid hok
    have HAS := hid (asc_of hvd)
    clear hvd hok
    obtain ⟨q0, q1, q2, _, _, _, q6⟩ := KB.out.three
    by_cases hl : (row.length : Int) = x.1
    · have t1 : ((row.length : Int) != x.1) = false := by simp [hl]
      have HL := hid hl
      clear hl
      go_wp2
      clear q0 q1 q2
      go_loopw [7, 8, 9] (fun i _ _ wr => ∃ k : Nat, k ≤ x.2.1.length ∧ i = .int .i64 k ∧ Hid (∀ j (h : j < x.2.1.length), j < k → hits ts row x.2.1[j] = true) ∧ Hid (HasL wr w.heap.size [.slice a ts.length cap]) ∧ Hid (HasL wr (w.heap.size + 1) [.int .i64 x.1, .slice q x.2.1.length capq, .slice o x.2.2.length capo]) ∧ Hid (Below w.heap.size w wr)) (fun i _ _ _ => x.2.1.length - (intOf i).toNat)
      case atStart => exact ⟨0, Nat.zero_le _, rfl, hid (fun j _ h => by omega), KA, KB, HB⟩
      case round =>
        obtain ⟨k, hk, rfl, hall, k0, k1, hb⟩ := hrel
        obtain ⟨p0, _, p2⟩ := k0.out.one
        obtain ⟨q0, q1, q2, _, _, _, q6⟩ := k1.out.three
        by_cases hlt : k < x.2.1.length
        · obtain ⟨b, off, aj, capj, he, _, hbB, c0, c1, rx⟩ := atoms_at (HQE.out.grow good_atom hb.out hh') k hlt
          subst he
          have hsz := hb.out.size
          have hlt' : (k : Int) < (x.2.1.length : Int) := by omega
          have h0' : (0 : Int) ≤ (k : Int) := by omega
          have hvl := HSA.out k hlt
          clear rx
          have hk2 := kp_refl wr
          have hbo0 : b < wr.heap.size := by omega
          go_upto_region 6 with fail
          go_cut [8, 9] (fun s6 s7 wx => ∃ (g : Nat) (r : RelD) (f : Bool) (ac : Option Addr) (cc : Nat) (vs : List Value), s6 = .pointer (some ⟨g, 0, none⟩) ∧ s7 = .bool f ∧ Hid (LkS ts x.2.1[k].1.toList r f) ∧ Has2 wx g (.int .i64 r.1) (.slice ac r.2.length cc) ∧ GOwn wx wr.heap.size eR eI (.slice ac r.2.length cc) vs r.2 ∧ wr.heap.size ≤ g ∧ Kp wr 0 wx)
          case first =>
            go_region_held3 (fun w' => w'.cell? ⟨w.heap.size, 0, none⟩ = some (.slice a ts.length cap) ∧ w'.cell? ⟨w.heap.size + 1, 1, none⟩ = some (.slice (some ⟨b, off, none⟩) x.2.1.length capq) ∧ w'.cell? ⟨b, off + k * 2, none⟩ = some (.string x.2.1[k].1) ∧ Kp wr 0 w')
              (first
                | (go_split_ands
                   repeat' apply And.intro
                   all_goals (first | (with_reducible assumption) | (with_reducible exact cell_drew (by assumption)) | (with_reducible exact Kp.drew (by assumption)) | (with_reducible exact Kp.cell (by assumption) hb1 (by omega) (by assumption)) | (with_reducible exact Kp.call (by assumption) hb1) | (with_reducible exact Kp.cell_alloc (by assumption) _ (by omega) (by assumption)) | (with_reducible exact Kp.alloc (by assumption) _) | (with_reducible exact Kp.cell_alloc_drew (by assumption) _ (by omega) (by assumption)) | (with_reducible exact Kp.alloc_drew (by assumption) _) | (with_reducible exact Kp.reall (by assumption) (by omega) _) | (with_reducible exact cell_realloc (by omega) (by assumption) _) | (with_reducible exact cell_set (by assumption) (by omega)) | (with_reducible exact Keep.Kp.set (by assumption) (by omega) _ _))))
              (first
                | (go_split_ands; go_at_call 18; (with_reducible refine (LK.out _ x.2.1[k].1 (hb.out.trans ((Kp.bel (n := 0) (by with_reducible assumption)).mono hsz))).mono ?_); rintro e wC ⟨r, f, ac, cc, vs, rfl, hp, hown, hb1⟩; have hz0 := hb1.size; (try simp only [World.size_alloc] at hz0); have hz1 : wr.heap.size ≤ wC.heap.size := (by have hk0 : Kp wr 0 _ := (by with_reducible assumption); have hk1 := hk0.sz; (try simp only [World.size_alloc] at hk1); omega); have HPX := hid hp; clear hp; have HO := hid hown; clear hown; (try (first | (with_reducible have HN := hid (new2_kept hb1)) | (with_reducible have HN := hid (new2_kept_drew hb1)))); (try (obtain ⟨m0, m1, mz, m2, m3⟩ := HN.out))))
            all_goals
              go_wp2_with fail
              go_meet
              go_split_ands
              first
                | exact ⟨_, r, f, ac, cc, vs, rfl, rfl, HPX, has2_new _ _ _ _, (HO.out.alloc _).mono (by (try simp only [World.size_alloc]); first | exact Nat.le_refl _ | omega | (show wr.heap.size ≤ _; simp)), by omega, by with_reducible assumption⟩
                | exact ⟨_, r, f, ac, cc, vs, rfl, rfl, HPX, has2_set HN.out, (gown_set (gown_set HO.out (by first | (simp; done) | ((try simp only [World.size_alloc]); omega)) _) (by first | (simp; done) | ((try simp only [World.size_alloc]); omega)) _).mono (by first | (simp; done) | ((try simp only [World.size_alloc]); omega)), by omega, by with_reducible assumption⟩
          case rest =>
          obtain ⟨g, r, f, ac, cc, vs, rfl, rfl, HP, hz, hown, hgz, hkp⟩ := hcut
          obtain ⟨w3, rfl⟩ : ∃ wo : World, wo = wc := ⟨_, rfl⟩
          obtain ⟨hre, hvrel⟩ := look_ok HVD.out (HOK.out k hlt) HP.out
          have HRE := hid hre
          have HVREL := hid hvrel
          obtain ⟨hrl1, hrl2⟩ := vrel_len hvrel
          have HRL2 := hid hrl2
          have hb3 := hkp.bel
          have HB3 := hid (hb.out.trans (hb3.mono hsz))
          have KA3 := hid (k0.out.below hb3)
          have KB3 := hid (k1.out.below hb3)
          have HGR := hid (gown_rd hown)
          obtain ⟨z0, z1, zz, _, _⟩ := hz
          obtain ⟨b2, off2, aj2, capj2, he2, _, hbB2, d0, d1, rx2⟩ := atoms_at (HQE.out.grow good_atom HB3.out hh') k hlt
          simp only [Option.some.injEq, Addr.mk.injEq, and_true] at he2
          obtain ⟨rfl, rfl⟩ := he2
          obtain ⟨_, _, hae, _, _, hvr⟩ := atom_open rx2
          simp only [List.cons.injEq, Value.slice.injEq, and_true, true_and] at hae
          obtain ⟨rfl, rfl⟩ := hae
          have HVR := hid (rd_of hvr)
          obtain ⟨r0, r1, r2, _, _, _, r6⟩ := (k1.out.below hb3).three
          have hbo : b < w3.heap.size := by have := HB3.out.size; omega
          have hwq : w.heap.size + 1 < w3.heap.size := r6
          have HR4 := hid (HR.out.below (HB3.out.mono hBR))
          have HCO := hid (cols_q HQV.out HL.out k hlt)
          have hpl := hid (pick_len row x.2.1[k].2)
          have hiw' : hi' ≤ w3.heap.size := by have := HB3.out.size; omega
          have hBRw : BR ≤ w3.heap.size := by have := HB3.out.size; omega
          obtain ⟨bb, hbb⟩ : ∃ z, hits ts row x.2.1[k] = z := ⟨_, rfl⟩
          have HBB := hid hbb
          have HCB := hid (show (vrel r.1 r.2 && decide (pick row x.2.1[k].2 ∈ r.2)) = bb by rw [← hbb, HVREL.out, HRE.out, hits]; simp)
          clear hb3 hkp hk2 c0 c1 p0 q0 q1 q2 hre hvrel hrl2 hown rx2 hvr hbb
          have hk3 := kp_refl w3
          go_upto_region 7 with fail
          go_cut [49] (fun s wx => s = .bool (!bb) ∧ Kp w3 0 wx)
          case first =>
            go_region_held3 (fun w' => w'.cell? ⟨g, 0, none⟩ = some (.int .i64 r.1) ∧ w'.cell? ⟨g, 1, none⟩ = some (.slice ac r.2.length cc) ∧ w'.cell? ⟨w.heap.size + 1, 1, none⟩ = some (.slice (some ⟨b, off, none⟩) x.2.1.length capq) ∧ w'.cell? ⟨b, off + k * 2 + 1, none⟩ = some (.slice aj2 x.2.1[k].2.length capj2) ∧ Kp w3 0 w')
              (first
                | (go_split_ands
                   repeat' apply And.intro
                   all_goals (first | (with_reducible assumption) | (with_reducible exact cell_drew (by assumption)) | (with_reducible exact Kp.drew (by assumption)) | (with_reducible exact Kp.cell (by assumption) hb1 (by omega) (by assumption)) | (with_reducible exact Kp.call (by assumption) hb1))))
              (first
                | (go_split_ands; go_at_call 33; (with_reducible refine (spec_pick br aj2 capr capj2 BR hi' row x.2.1[k].2 _ hrl hvl HCO.out (rd_kp HR4.out (by with_reducible assumption) hBRw) (rd_kp HVR.out (by with_reducible assumption) hiw') (kp_le (by with_reducible assumption) hBRw) (kp_le (by with_reducible assumption) hiw')).mono ?_); rintro e wP ⟨aP, cP, rfl, hatP, hb1⟩; have HP2 : RowKit.Hid (Rd wP wP.heap.size aP (pick row x.2.1[k].2)) := hid (own_rd' hatP hpl.out); clear hatP)
                | (go_split_ands; go_at_call 59; (with_reducible refine (spec_containsL _ r.1 ac _ cc _ r.2.length w3.heap.size wP.heap.size r.2 (pick row x.2.1[k].2) bb _ hpl.out rfl hrl1 HRL2.out hvl (grd_kp HGR.out (by with_reducible assumption) (Nat.le_refl _)) (by first | (with_reducible exact HP2.out) | (with_reducible exact HP2.out.drew)) (kp_le (by with_reducible assumption) (Nat.le_refl _)) (by first | exact Nat.le_refl _ | simp) HCB.out).mono ?_); rintro e wF ⟨rfl, hb1⟩))
            all_goals
              go_wp2_with fail
              go_meet
              go_split_ands
              exact ⟨rfl, by with_reducible assumption⟩
          case rest =>
          obtain ⟨rfl, hkp⟩ := hcut
          obtain ⟨w5, rfl⟩ : ∃ wo : World, wo = wc := ⟨_, rfl⟩
          have hb5 := hkp.bel
          have HB5 := hid (HB3.out.trans (hb5.mono HB3.out.size))
          have KA5 := hid (KA3.out.below hb5)
          have KB5 := hid (KB3.out.below hb5)
          clear hb5 hkp hk3 d0 d1 z0 z1 zz r0 r1 r2
          cases bb with
          | false =>
            have hf := hid (bnd_at (ts := ts) (row := row) k hlt HBB.out)
            go_wp2
            go_ret
            exact ⟨by rw [hf.out]; rfl, HB5.out⟩
          | true =>
            have HA := hid (show ∀ j (h : j < x.2.1.length), j < k + 1 → hits ts row x.2.1[j] = true from fun j hj hjk => by
              by_cases e : j = k
              · subst e; exact HBB.out
              · exact hall.out j hj (by omega))
            go_wp2
            go_roundw
            case rel => exact ⟨k + 1, by omega, by go_num, HA, KA5, KB5, HB5⟩
            case measure => simp [intOf]; omega
        · have hf := hid (bnd_all HQV.out HL.out (fun j hj => hall.out j hj (by omega)))
          go_wp2
          go_ret
          exact ⟨by rw [hf.out]; rfl, hb.out⟩
    · have t1 : ((row.length : Int) != x.1) = true := by simp [hl]
      have hf := hid (bnd_len (ts := ts) hl)
      clear hl
      go_wp2
      go_ret
      exact ⟨by rw [hf.out]; rfl, HB.out⟩
end Go.Proofs.Ytpeojpdgknamgaa.BndS
