/- FormatQuery, the model's and the program's. -/
import Derived.Test.YtaeeogighoobdaaFmtQ
namespace Go.Proofs.Ytaeeogighoobdaa.FmtR
open Go.RowKit
open Go.Proofs.Ytaeeogighoobdaa.VarName Go.Proofs.Ytaeeogighoobdaa.Num Go.Proofs.Ytaeeogighoobdaa.IntRow Go.Proofs.Ytaeeogighoobdaa.IntLaw Go.Proofs.Ytaeeogighoobdaa.Rdr Go.Proofs.Ytaeeogighoobdaa.Dat Go.Proofs.Ytaeeogighoobdaa.HasL Go.Proofs.Ytaeeogighoobdaa.QryP Go.Proofs.Ytaeeogighoobdaa.QryVI Go.Proofs.Ytaeeogighoobdaa.QryVS Go.Proofs.Ytaeeogighoobdaa.SetJ Go.Proofs.Ytaeeogighoobdaa.FmtP Go.Proofs.Ytaeeogighoobdaa.FmtQ Go.Proofs.Ytaeeogighoobdaa.LawKit Go.Proofs.Ytaeeogighoobdaa.Keep Go.Proofs.Ytaeeogighoobdaa.Kept
set_option linter.unusedVariables false

theorem vq_atoms4 {x : QueryD} (h : vq x = true) : x.2.1.length ≤ 4 := by
  unfold vq at h
  simp only [Bool.and_eq_true] at h
  obtain ⟨_, h2, _, _⟩ := h
  unfold okAs at h2
  simp only [Bool.and_eq_true] at h2
  have := h2.1
  unfold inR at this
  simp at this
  omega
theorem sz_one : (⟨#[44]⟩ : ByteArray).size = 1 := rfl
theorem sz_eq : (⟨#[61]⟩ : ByteArray).size = 1 := rfl

set_option maxRecDepth 100000 in
set_option maxHeartbeats 4000000 in
theorem spec_fq (cs : List Value) (x : QueryD) (lo hi : Nat) (w : World) (hs : szQ x ≤ 1048576) (h : rQuery w lo hi cs x) (hh : hi ≤ w.heap.size) :
    Calls Try.prog 34 #[.agg cs.toArray] w fun e w' => e = .returned (.string (fq x)) ∧ Below w.heap.size w w' := by
  obtain ⟨q, capq, o, capo, hcs, _, _, hqe, hoe⟩ := query_open h
  subst hcs
  have K := hid (hasl_new w [.int .i64 x.1, .slice q x.2.1.length capq, .slice o x.2.2.length capo] 30)
  have B1 := hid ((Below.refl w.heap.size w).alloc (Nat.le_refl _) (.cells #[.int .i64 x.1, .slice q x.2.1.length capq, .slice o x.2.2.length capo] 30))
  obtain ⟨qv, hqv⟩ : ∃ z, vq x = z := ⟨_, rfl⟩
  have VQ := hid (fun W (hW : Below w.heap.size w W) => by
    have := spec_vq _ x lo hi W hs (good_query.keep h (sm_below hW hh)) (Nat.le_trans hh hW.size)
    rw [hqv] at this
    exact this)
  have hso : x.2.2.length ≤ 1048576 := by unfold szQ at hs; omega
  have HSA := hid (fun j (hj : j < x.2.1.length) => show szA x.2.1[j] ≤ 1048576 by have := elem_le szA x.2.1 j hj; unfold szQ at hs; omega)
  have VO := hid (fun W (hW : Below w.heap.size w W) => spec_vars o capo hi x.2.2 W hso ((rd_of hoe).below (hW.mono hh)))
  have HQV := hid hqv
  have HQE := hid hqe
  have HOL := hid (fv_len x.2.2)
  clear h hqe hoe hs hqv
  go_enter Try.func34, Try.ntmps34
  obtain ⟨q0, q1, q2, _, _, _, q6⟩ := K.out.three
  go_wp2_with fail
  with_reducible refine (VQ.out _ B1.out).mono ?_
  rintro e w1 ⟨rfl, hb1⟩
  have HB := hid (B1.out.trans (hb1.mono B1.out.size))
  have KB := hid (K.out.below hb1)
  clear hb1 q0 q1 q2 q6
  cases qv with
  | false =>
    have HF := hid (fq_no HQV.out)
    go_wp2
    go_ret
    exact ⟨by rw [HF.out]; rfl, HB.out⟩
  | true =>
    have HF := hid (fq_yes HQV.out)
    have H4 := hid (vq_atoms4 HQV.out)
    obtain ⟨q0, q1, q2, _, _, _, q6⟩ := KB.out.three
    have V1 := hid (VO.out w1 HB.out)
    obtain ⟨fo, hfo⟩ : ∃ z, mkB (fv x.2.2) = z := ⟨_, rfl⟩
    rw [hfo] at V1
    have hfs : fo.size ≤ 1048578 := by rw [← hfo, size_mk]; have := HOL.out; omega
    have hz1 : ¬ (9223372036854775807 < fo.size + (⟨#[61]⟩ : ByteArray).size) := by rw [sz_eq]; omega
    have HFO := hid hfo
    clear hfo
    go_wp2_with fail
    with_reducible refine V1.out.mono ?_
    rintro e w2 ⟨rfl, rfl⟩
    go_wp2
    clear q0 q1 q2 q6 hz1
    go_loopw [3, 4] (fun s i wr => ∃ (k : Nat) (t : ByteArray), k ≤ x.2.1.length ∧ i = .int .i64 k ∧ s = .string t ∧ t.size ≤ 1048579 + k * 1048579 ∧ Hid (t = mkB (fv x.2.2 ++ 61 :: jn x.2.1 k)) ∧ Hid (HasL wr w.heap.size [.int .i64 x.1, .slice q x.2.1.length capq, .slice o x.2.2.length capo]) ∧ Hid (Below w.heap.size w wr)) (fun _ i _ => x.2.1.length - (intOf i).toNat)
    case atStart => exact ⟨0, fo ++ ⟨#[61]⟩, Nat.zero_le _, rfl, rfl, by rw [ByteArray.size_append, sz_eq]; omega, hid (by rw [← HFO.out, jn_zero]; exact mk_app _ [61]), KB, HB⟩
    case round =>
      obtain ⟨k, t, hk, rfl, rfl, hts, ht, hkb, hb⟩ := hrel
      obtain ⟨q0, q1, q2, _, _, _, q6⟩ := hkb.out.three
      have h4 := H4.out
      by_cases hlt : k < x.2.1.length
      · have hlt' : (k : Int) < (x.2.1.length : Int) := by omega
        have h0' : (0 : Int) ≤ (k : Int) := by omega
        obtain ⟨b, off, aj, capj, he, _, hbB, c0, c1, rx⟩ := atoms_at (HQE.out.grow good_atom hb.out hh) k hlt
        subst he
        obtain ⟨_, _, hae, _, _, hr⟩ := atom_open rx
        simp only [List.cons.injEq, Value.slice.injEq, and_true, true_and] at hae
        obtain ⟨rfl, rfl⟩ := hae
        have hsa := HSA.out k hlt
        have hfa := fa_len x.2.1[k]
        have hvl : x.2.1[k].2.length ≤ 1048576 := by unfold szA at hsa; omega
        have hnl : x.2.1[k].1.size ≤ 1048576 := by unfold szA at hsa; omega
        have hvv := fv_len x.2.1[k].2
        have hszz : x.2.1[k].1.size + x.2.1[k].2.length ≤ 1048576 := hsa
        have V := hid (fun W (hW : Below wr.heap.size wr W) => spec_vars aj capj hi x.2.1[k].2 W hvl ((rd_of hr).below (hW.mono (Nat.le_trans hh hb.out.size))))
        obtain ⟨vs, hvs⟩ : ∃ z, mkB (fv x.2.1[k].2) = z := ⟨_, rfl⟩
        rw [hvs] at V
        have hvz : vs.size ≤ x.2.1[k].2.length + 2 := by rw [← hvs, size_mk]; exact hvv
        have HVS := hid hvs
        have HNM := hid (show (∀ (r : ByteArray), (r ++ x.2.1[k].1) ++ vs = mkB (bl r ++ fa x.2.1[k])) from fun r => by
          rw [← hvs]
          conv => lhs; rw [← mk_bl r, ← mk_bl x.2.1[k].1]
          rw [mk_app, mk_app, List.append_assoc]
          rfl)
        obtain ⟨nm, hnm⟩ : ∃ z, x.2.1[k].1 = z := ⟨_, rfl⟩
        obtain ⟨xn, hxn⟩ : ∃ z, x.2.1[k].2.length = z := ⟨_, rfl⟩
        rw [hnm] at c0 HNM
        rw [hxn] at c1 V hvz
        rw [hnm, hxn] at hszz
        clear rx hr hsa hfa hvl hnl hvv hvs hnm hxn
        by_cases hk0 : k = 0
        · have t1 : ¬ (0 : Int) < (k : Int) := by omega
          have hs1 := fun (W : World) => run_string_add_sum (P := Try.prog) W t nm (by omega)
          have hs2 := fun (W : World) => run_string_add_sum (P := Try.prog) W (t ++ nm) vs (by rw [ByteArray.size_append]; omega)
          have hsz2 : ((t ++ nm) ++ vs).size ≤ 1048579 + (k + 1) * 1048579 := by rw [ByteArray.size_append, ByteArray.size_append]; omega
          have HN := hid (show (t ++ nm) ++ vs = mkB (fv x.2.2 ++ 61 :: jn x.2.1 (k + 1)) by
            rw [HNM.out, ht.out, bl_mk]
            congr 1
            have e0 : jn x.2.1 k = [] := by rw [hk0]; rfl
            have e1 : jn x.2.1 (k + 1) = fa x.2.1[k] := by
              have h1 := jn_one x.2.1 (by omega)
              simp only [hk0]
              exact h1
            rw [e0, e1]
            simp)
          clear ht hk0
          have hkr := kp_refl wr
          have hwz := hb.out.size
          have hkz := hkb.out.1
          go_upto_region 9 with fail
          go_region_held3 (fun w' => w'.cell? ⟨w.heap.size, 1, none⟩ = some (.slice (some ⟨b, off, none⟩) x.2.1.length capq) ∧ w'.cell? ⟨b, off + k * 2, none⟩ = some (.string nm) ∧ w'.cell? ⟨b, off + k * 2 + 1, none⟩ = some (.slice aj xn capj) ∧ Kp wr 0 w')
            (first
              | (go_split_ands
                 repeat' apply And.intro
                 all_goals (first | (with_reducible assumption) | (with_reducible exact cell_drew (by assumption)) | (with_reducible exact Kp.drew (by assumption)) | (with_reducible exact Kp.cell (by assumption) hb1 (by omega) (by assumption)) | (with_reducible exact Kp.call (by assumption) hb1))))
            (first
              | (go_split_ands; go_at_call 54; (with_reducible refine (V.out _ (Kp.bel (n := 0) (w := wr) (by with_reducible assumption))).mono ?_); rintro e wC ⟨rfl, rfl⟩) | fail)
          all_goals
            go_split_ands
            go_wp2
            go_roundw
            case rel => exact ⟨k + 1, (t ++ nm) ++ vs, by omega, by go_num, rfl, hsz2, HN, hid (hkb.out.below (Kp.bel (n := 0) (w := wr) (by with_reducible assumption))), hid (hb.out.trans ((Kp.bel (n := 0) (w := wr) (by with_reducible assumption)).mono hb.out.size))⟩
            case measure => simp [intOf]; omega
        · have t1 : (0 : Int) < (k : Int) := by omega
          have hz0 : ¬ (9223372036854775807 < t.size + (⟨#[44]⟩ : ByteArray).size) := by rw [sz_one]; omega
          have ht2 : (t ++ ⟨#[44]⟩).size ≤ t.size + 1 := by rw [ByteArray.size_append, sz_one]; exact Nat.le_refl _
          have HT2 := hid (show bl (t ++ ⟨#[44]⟩) = (fv x.2.2 ++ 61 :: jn x.2.1 k) ++ [44] by
            rw [ht.out]
            show bl (mkB _ ++ mkB [44]) = _
            rw [mk_app, bl_mk])
          obtain ⟨t2, htt⟩ : ∃ z, t ++ (⟨#[44]⟩ : ByteArray) = z := ⟨_, rfl⟩
          rw [htt] at ht2 HT2
          have hs1 := fun (W : World) => run_string_add_sum (P := Try.prog) W t2 nm (by omega)
          have hs2 := fun (W : World) => run_string_add_sum (P := Try.prog) W (t2 ++ nm) vs (by rw [ByteArray.size_append]; omega)
          have hsz2 : ((t2 ++ nm) ++ vs).size ≤ 1048579 + (k + 1) * 1048579 := by rw [ByteArray.size_append, ByteArray.size_append]; omega
          have HN := hid (show (t2 ++ nm) ++ vs = mkB (fv x.2.2 ++ 61 :: jn x.2.1 (k + 1)) by
            rw [HNM.out, HT2.out, jn_step x.2.1 k hlt (by omega)]
            congr 1
            simp)
          clear ht
          have hkr := kp_refl wr
          have hwz := hb.out.size
          have hkz := hkb.out.1
          go_upto_region 9 with fail
          go_region_held3 (fun w' => w'.cell? ⟨w.heap.size, 1, none⟩ = some (.slice (some ⟨b, off, none⟩) x.2.1.length capq) ∧ w'.cell? ⟨b, off + k * 2, none⟩ = some (.string nm) ∧ w'.cell? ⟨b, off + k * 2 + 1, none⟩ = some (.slice aj xn capj) ∧ Kp wr 0 w')
            (first
              | (go_split_ands
                 repeat' apply And.intro
                 all_goals (first | (with_reducible assumption) | (with_reducible exact cell_drew (by assumption)) | (with_reducible exact Kp.drew (by assumption)) | (with_reducible exact Kp.cell (by assumption) hb1 (by omega) (by assumption)) | (with_reducible exact Kp.call (by assumption) hb1))))
            (first
              | (go_split_ands; go_at_call 54; (with_reducible refine (V.out _ (Kp.bel (n := 0) (w := wr) (by with_reducible assumption))).mono ?_); rintro e wC ⟨rfl, rfl⟩) | fail)
          all_goals
            go_split_ands
            go_wp2
            go_roundw
            case rel => exact ⟨k + 1, (t2 ++ nm) ++ vs, by omega, by go_num, rfl, hsz2, HN, hid (hkb.out.below (Kp.bel (n := 0) (w := wr) (by with_reducible assumption))), hid (hb.out.trans ((Kp.bel (n := 0) (w := wr) (by with_reducible assumption)).mono hb.out.size))⟩
            case measure => simp [intOf]; omega
      · have hlt' : ¬ (k : Int) < (x.2.1.length : Int) := by omega
        have e : k = x.2.1.length := by omega
        have HE := hid (show t = fq x by rw [ht.out, HF.out, e])
        clear ht e
        go_wp2
        go_ret
        exact ⟨by rw [← HE.out]; rfl, hb.out⟩

set_option maxRecDepth 100000 in
set_option maxHeartbeats 4000000 in
theorem impl_fq (cs : List Value) (x : QueryD) (lo hi : Nat) (w : World) (hs : szQ x ≤ 1048576) (h : rQuery w lo hi cs x) (hh : hi ≤ w.heap.size) :
    Calls Try.prog 35 #[.agg cs.toArray] w fun e w' => e = .returned (.string (fq x)) ∧ Below w.heap.size w w' := by
  obtain ⟨i0, hi0, hz0, hz1, hz2⟩ := info_parts infoS
  obtain ⟨q, capq, o, capo, hcs, _, _, hqe, hoe⟩ := query_open h
  subst hcs
  have K := hid (hasl_new w [.int .i64 x.1, .slice q x.2.1.length capq, .slice o x.2.2.length capo] 30)
  have B1 := hid ((Below.refl w.heap.size w).alloc (Nat.le_refl _) (.cells #[.int .i64 x.1, .slice q x.2.1.length capq, .slice o x.2.2.length capo] 30))
  obtain ⟨qv, hqv⟩ : ∃ z, vq x = z := ⟨_, rfl⟩
  have VQ := hid (fun W (hW : Below w.heap.size w W) => by
    have := impl_vq _ x lo hi W hs (good_query.keep h (sm_below hW hh)) (Nat.le_trans hh hW.size)
    rw [hqv] at this
    exact this)
  have hso : x.2.2.length ≤ 1048576 := by unfold szQ at hs; omega
  have HSA := hid (fun j (hj : j < x.2.1.length) => show szA x.2.1[j] ≤ 1048576 by have := elem_le szA x.2.1 j hj; unfold szQ at hs; omega)
  have VO := hid (fun W (hW : Below w.heap.size w W) => impl_vars o capo hi x.2.2 W hso ((rd_of hoe).below (hW.mono hh)) (Nat.le_trans hh hW.size))
  have HQV := hid hqv
  have HQE := hid hqe
  have HOL := hid (fv_len x.2.2)
  clear h hqe hoe hs hqv
  go_enter Try.func35, Try.ntmps35
  obtain ⟨q0, q1, q2, _, _, _, q6⟩ := K.out.three
  go_wp2_with fail
  with_reducible refine (VQ.out _ B1.out).mono ?_
  rintro e w1 ⟨rfl, hb1⟩
  have HB := hid (B1.out.trans (hb1.mono B1.out.size))
  have KB := hid (K.out.below hb1)
  clear hb1 q0 q1 q2 q6
  cases qv with
  | false =>
    have HF := hid (fq_no HQV.out)
    go_wp2
    go_ret
    exact ⟨by rw [HF.out]; rfl, HB.out⟩
  | true =>
    have HF := hid (fq_yes HQV.out)
    have h4 := vq_atoms4 HQV.out
    obtain ⟨q0, q1, q2, _, _, _, q6⟩ := KB.out.three
    have hmk := make_k (P := Try.prog) w1 72 9 i0 _ 1 16 Try.underlying72 hi0 hz0 hz1 hz2 (by omega) x.2.1.length (by omega)
    rw [made_s] at hmk
    have H0 := hid (hasl_new w1 (sc (List.replicate x.2.1.length ⟨#[]⟩)) 9)
    have KB0 := hid (KB.out.alloc (.cells (sc (List.replicate x.2.1.length ⟨#[]⟩)).toArray 9))
    have HB0 := hid (HB.out.alloc HB.out.size (.cells (sc (List.replicate x.2.1.length ⟨#[]⟩)).toArray 9))
    obtain ⟨p0, p1, p2, _, _, _, p6⟩ := KB0.out.three
    have hgw := HB.out.size
    have hgK := KB.out.1
    go_wp2
    clear q0 q1 q2 q6 p0 p1 p2 p6
    go_loopw [4, 5, 16] (fun _ _ i wr => ∃ (k : Nat) (ns : List ByteArray), k ≤ x.2.1.length ∧ i = .int .i64 k ∧ ns.length = x.2.1.length ∧ Hid (HasL wr w1.heap.size (sc ns)) ∧ Hid (Nms (fun a => mkB (fa a)) x.2.1 ns k) ∧ Hid (HasL wr w.heap.size [.int .i64 x.1, .slice q x.2.1.length capq, .slice o x.2.2.length capo]) ∧ Hid (Below w.heap.size w wr)) (fun _ _ i _ => x.2.1.length - (intOf i).toNat)
    case atStart => exact ⟨0, _, Nat.zero_le _, rfl, by simp, H0, hid (Nms.zero _ _), KB0, HB0⟩
    case round =>
      obtain ⟨k, ns, hk, rfl, hnl, hH, hN, hkb, hb⟩ := hrel
      clear hmk
      by_cases hlt : k < x.2.1.length
      · have hlt' : (k : Int) < (x.2.1.length : Int) := by omega
        have h0' : (0 : Int) ≤ (k : Int) := by omega
        obtain ⟨b, off, aj, capj, he, _, hbB, c0, c1, rx⟩ := atoms_at (HQE.out.grow good_atom hb.out hh) k hlt
        subst he
        obtain ⟨_, _, hae, _, _, hr⟩ := atom_open rx
        simp only [List.cons.injEq, Value.slice.injEq, and_true, true_and] at hae
        obtain ⟨rfl, rfl⟩ := hae
        have hsa := HSA.out k hlt
        have hvl : x.2.1[k].2.length ≤ 1048576 := by unfold szA at hsa; omega
        have hvv := fv_len x.2.1[k].2
        have hszz : x.2.1[k].1.size + x.2.1[k].2.length ≤ 1048576 := hsa
        have hwz := hb.out.size
        have B2 := hid ((Below.refl wr.heap.size wr).alloc (Nat.le_refl _) (.cells #[.string x.2.1[k].1, .slice aj x.2.1[k].2.length capj] 66))
        have K2 := hid ((hasl_new wr [.string x.2.1[k].1, .slice aj x.2.1[k].2.length capj] 66).drew)
        have V := hid (impl_vars aj capj hi x.2.1[k].2 (wr.alloc (.cells #[.string x.2.1[k].1, .slice aj x.2.1[k].2.length capj] 66)).drew hvl ((rd_of hr).below (B2.out.drew.mono (by omega))) (by show hi ≤ (wr.alloc _).heap.size; simp; omega))
        have HNs := hid ((hH.out.alloc (.cells #[.string x.2.1[k].1, .slice aj x.2.1[k].2.length capj] 66)).drew)
        have KBs := hid ((hkb.out.alloc (.cells #[.string x.2.1[k].1, .slice aj x.2.1[k].2.length capj] 66)).drew)
        have HBs := hid ((hb.out.alloc hb.out.size (.cells #[.string x.2.1[k].1, .slice aj x.2.1[k].2.length capj] 66)).drew)
        obtain ⟨vs, hvs⟩ : ∃ z, mkB (fv x.2.1[k].2) = z := ⟨_, rfl⟩
        rw [hvs] at V
        have hvz : vs.size ≤ x.2.1[k].2.length + 2 := by rw [← hvs, size_mk]; exact hvv
        have HN2 := hid (by
          have h1 := hN.out.step hlt
          have h2 : mkB (fa x.2.1[k]) = x.2.1[k].1 ++ vs := by rw [← hvs, app_mk]; rfl
          rw [h2] at h1
          exact h1)
        obtain ⟨nm, hnm⟩ : ∃ z, x.2.1[k].1 = z := ⟨_, rfl⟩
        obtain ⟨xn, hxn⟩ : ∃ z, x.2.1[k].2.length = z := ⟨_, rfl⟩
        rw [hxn] at hvz
        rw [hnm] at c0
        rw [hxn] at c1
        rw [hnm, hxn] at hszz K2 HNs KBs HBs
        rw [hnm, hxn] at V
        rw [hnm] at HN2
        have hs1 := fun (W : World) => run_string_add_sum (P := Try.prog) W nm vs (by omega)
        obtain ⟨k0, k1, _, _, kz⟩ := K2.out.two
        obtain ⟨k0', k1', _, _, kz'⟩ := (hasl_new wr [.string nm, .slice aj xn capj] 66).two
        have hnk : k < ns.length := by omega
        have hnl2 : (ns.set k (nm ++ vs)).length = x.2.1.length := by simp [hnl]
        clear rx hr hsa hvl hvv hvs hnm hxn hN hH hkb hb B2
        go_upto_region 7 with fail
        clear c0 c1
        go_region_with (go_at_call 55; (with_reducible refine V.out.mono ?_); rintro e wC ⟨rfl, hb1⟩; have KC := hid (K2.out.below hb1); have HNC := hid (HNs.out.below hb1); have KBC := hid (KBs.out.below hb1); have HBC := hid (HBs.out.trans (hb1.mono HBs.out.size)); obtain ⟨m0, m1, _, _, mz⟩ := KC.out.two; obtain ⟨u, d1⟩ : ∃ u, wC.cell? ⟨w1.heap.size, k, none⟩ = some u := ⟨_, sc_cell HNC.out k hnk⟩; have d2 := sc_free HNC.out k hnk; have HPC := hid (show HasL (wC.setCell ⟨w1.heap.size, k, none⟩ (.string (nm ++ vs))) w1.heap.size (sc (ns.set k (nm ++ vs))) by have := HNC.out.put k (.string (nm ++ vs)); rw [sc_set] at this; exact this); have KPC := hid (KBC.out.far (c := w1.heap.size) (o := k) (by omega) (.string (nm ++ vs))); have BPC := hid (HBC.out.setCell (p := ⟨w1.heap.size, k, none⟩) hgw (.string (nm ++ vs))))
        all_goals
          go_wp2
          go_roundw
          case rel => exact ⟨k + 1, ns.set k (nm ++ vs), by omega, by go_num, hnl2, HPC, HN2, KPC, BPC⟩
          case measure => simp [intOf]; omega
      · have e : k = x.2.1.length := by omega
        have hlt' : ¬ (k : Int) < (x.2.1.length : Int) := by omega
        obtain ⟨q0, q1, q2, _, _, _, q6⟩ := hkb.out.three
        have hm : ns = x.2.1.map (fun a => mkB (fa a)) := Nms.done (by have := hN.out; rw [e] at this; exact this)
        have V1 := hid (VO.out wr hb.out)
        have hfs : (mkB (fv x.2.2)).size ≤ 1048578 := by rw [size_mk]; have := HOL.out; omega
        have hjl := jn_len x.2.1 1048576 HSA.out x.2.1.length (Nat.le_refl _)
        have hjl2 : (jn x.2.1 x.2.1.length).length ≤ 4194316 := Nat.le_trans hjl (Nat.mul_le_mul_right 1048579 h4)
        have hjn : Lib.join ((x.2.1.map (fun a => mkB (fa a))).map (·.data.toList)) [44] = jn x.2.1 x.2.1.length := by
          unfold jn
          rw [List.take_length, List.map_map]
          congr 1
        have J := hid (fun (W : World) (hW : Below wr.heap.size wr W) => by
          have hHm := hH.out.below hW
          rw [hm] at hHm
          have := Try.strings_Join w1.heap.size 0 x.2.1.length (x.2.1.map (fun a => mkB (fa a))) ⟨#[44]⟩ W (fun j y hy => by
            obtain ⟨hj, hy'⟩ := List.getElem?_eq_some_iff.1 hy
            have := sc_cell hHm j hj
            rw [Nat.zero_add, this, hy']) hHm.1 (by rw [List.length_map]; omega) (by rw [List.length_map]; exact Nat.le_refl _) (by
            show (Lib.join ((x.2.1.map (fun a => mkB (fa a))).map (·.data.toList)) [44]).length ≤ _
            rw [hjn]
            omega)
          rw [show ((⟨#[44]⟩ : ByteArray).data.toList) = [44] from rfl, hjn, List.length_map] at this
          exact (show Calls Try.prog 56 #[.slice (some ⟨w1.heap.size, 0, none⟩) x.2.1.length x.2.1.length, .string ⟨#[44]⟩] W (fun e w' => e = .returned (.string (mkB (jn x.2.1 x.2.1.length))) ∧ Below W.heap.size W w') from this))
        have hjs : (mkB (jn x.2.1 x.2.1.length)).size ≤ 4194316 := by rw [size_mk]; exact hjl2
        have HE := hid (show (mkB (fv x.2.2) ++ ⟨#[61]⟩) ++ mkB (jn x.2.1 x.2.1.length) = fq x by
          rw [HF.out]
          show (mkB (fv x.2.2) ++ mkB [61]) ++ mkB (jn x.2.1 x.2.1.length) = _
          rw [mk_app, mk_app]
          (try simp))
        obtain ⟨fo, hfo⟩ : ∃ z, mkB (fv x.2.2) = z := ⟨_, rfl⟩
        obtain ⟨jo, hjo⟩ : ∃ z, mkB (jn x.2.1 x.2.1.length) = z := ⟨_, rfl⟩
        rw [hfo] at V1 hfs
        rw [hjo] at J hjs
        rw [hfo, hjo] at HE
        have hz1' : ¬ (9223372036854775807 < fo.size + (⟨#[61]⟩ : ByteArray).size) := by rw [sz_eq]; omega
        have hz2' : ¬ (9223372036854775807 < (fo ++ (⟨#[61]⟩ : ByteArray)).size + jo.size) := by rw [ByteArray.size_append, sz_eq]; omega
        clear e hm hN hfo hjo hjn hjl hjl2 hH
        go_wp2_with fail
        with_reducible refine V1.out.mono ?_
        rintro e w2 ⟨rfl, hb2⟩
        go_wp2_with fail
        with_reducible refine (J.out _ hb2).mono ?_
        rintro e w3 ⟨rfl, hb3⟩
        have HB2 := hid (hb.out.trans (hb2.mono hb.out.size))
        have HB3 := hid (HB2.out.trans (hb3.mono HB2.out.size))
        clear hb2 hb3 q0 q1 q2 q6
        go_wp2
        go_ret
        exact ⟨by rw [← HE.out]; rfl, HB3.out⟩
end Go.Proofs.Ytaeeogighoobdaa.FmtR
