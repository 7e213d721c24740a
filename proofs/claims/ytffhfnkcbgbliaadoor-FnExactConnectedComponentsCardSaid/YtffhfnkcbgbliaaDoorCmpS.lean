/- The connected components of a query: the model's function (spec.ConnectedComponents). -/
import Derived.Test.YtffhfnkcbgbliaaDoorCmpI
import Derived.IntWalk
import Derived.StillTailTactics
namespace Go.Proofs.YtffhfnkcbgbliaaDoor.CmpS
open Go.RowKit
open Go.Proofs.YtffhfnkcbgbliaaDoor.Num Go.Proofs.YtffhfnkcbgbliaaDoor.IntRow Go.Proofs.YtffhfnkcbgbliaaDoor.IntLaw Go.Proofs.YtffhfnkcbgbliaaDoor.Grid Go.Proofs.YtffhfnkcbgbliaaDoor.GridMore Go.Proofs.YtffhfnkcbgbliaaDoor.GridLaw Go.Proofs.YtffhfnkcbgbliaaDoor.GridLaw2 Go.Proofs.YtffhfnkcbgbliaaDoor.GridApp Go.Proofs.YtffhfnkcbgbliaaDoor.GridHead Go.Proofs.YtffhfnkcbgbliaaDoor.RelKit Go.Proofs.YtffhfnkcbgbliaaDoor.Rdr Go.Proofs.YtffhfnkcbgbliaaDoor.Dat Go.Proofs.YtffhfnkcbgbliaaDoor.HasL Go.Proofs.YtffhfnkcbgbliaaDoor.VarName Go.Proofs.YtffhfnkcbgbliaaDoor.VarIn Go.Proofs.YtffhfnkcbgbliaaDoor.QryP Go.Proofs.YtffhfnkcbgbliaaDoor.QryVI Go.Proofs.YtffhfnkcbgbliaaDoor.QryVS Go.Proofs.YtffhfnkcbgbliaaDoor.SetV Go.Proofs.YtffhfnkcbgbliaaDoor.SetI Go.Proofs.YtffhfnkcbgbliaaDoor.SetA Go.Proofs.YtffhfnkcbgbliaaDoor.Nbr Go.Proofs.YtffhfnkcbgbliaaDoor.CmpP Go.Proofs.YtffhfnkcbgbliaaDoor.CmpI
set_option linter.unusedVariables false

theorem gown_lit (w : World) (base : Nat) (hb : base ≤ w.heap.size) : GOwn (w.alloc (.cells #[] eR)) base eR eI (.slice (some ⟨w.heap.size, 0, none⟩) 0 0) [] [] :=
  ⟨rfl, World.ownsRow_made (size := 1) (e := eR) (base := base) w #[] 0 hb (Nat.zero_le _) rfl, fun j h => by simp at h, fun i j u u' k _ h => by simp at h⟩
theorem at_grown2 {w w' : World} {g : Nat} {e : TypeId} {cap : Nat} {xs : List Int} {row : Option Nat} (h : At w g e cap xs) (hg : w.grownBy w' row) (hr : row ≠ some g) : At w' g e cap xs :=
  Own.grown (lo := g) h hg (fun k hk => by simp [Value.ownBlock] at hk; subst hk; exact hr)
/-- Rows of headers and a row of ints never lie in one block. -/
theorem head_far {w : World} {lo g cap : Nat} {v : Value} {vs : List Value} {xss : List (List Int)} {xs : List Int} (h : GOwn w lo eR eI v vs xss) (k : At w g eI cap xs) : v.ownBlock ≠ some g := fun e => by
  obtain ⟨c1, h1⟩ := own_block h.row e
  obtain ⟨c2, h2⟩ := own_block (w := w) (lo := g) (e := eI) (k := g) k rfl
  rw [h1] at h2
  simp only [Option.some.injEq, Obj.cells.injEq] at h2
  exact eRI h2.2.1
theorem getD_of {l : List Int} {j : Nat} (h : j < l.length) : l.getD j 0 = l[j] := by
  rw [List.getD_eq_getElem?_getD, List.getElem?_eq_getElem h]; rfl
theorem prt_yes {ms : List Int} {v w : Nat} (h : (ms.getD w 0 == (v : Int)) = true) : prt ms v (w + 1) = prt ms v w ++ [(w : Int)] := fl_yes (by simpa using h)
theorem prt_no {ms : List Int} {v w : Nat} (h : (ms.getD w 0 == (v : Int)) = false) : prt ms v (w + 1) = prt ms v w := fl_no (by simpa using h)

set_option maxRecDepth 100000 in
set_option maxHeartbeats 2000000 in
theorem spec_cc (cs : List Value) (x : QueryD) (lo hi : Nat) (w : World) (hs : szQ x ≤ 1048576) (h : rQuery w lo hi cs x) (hh : hi ≤ w.heap.size) :
    Calls Tryd.prog 17 #[.agg cs.toArray] w fun e w' => ∃ a cap vs, e = .returned (.slice a (ccs x).length cap) ∧ GOwn w' w.heap.size eR eI (.slice a (ccs x).length cap) vs (ccs x) ∧ Below w.heap.size w w' := by
  obtain ⟨i0, hi0, hz0, hz1, hz2⟩ := info_parts IntLaw.info
  obtain ⟨i1, hj, hy0, hy1, hy2⟩ := info_parts GridLaw.info
  obtain ⟨q, capq, o, capo, hcs, _, _, hqe, _⟩ := query_open h
  subst hcs
  have K := hid (hasl_new w [.int .i64 x.1, .slice q x.2.1.length capq, .slice o x.2.2.length capo] 48)
  have B1 := hid ((Below.refl w.heap.size w).alloc (Nat.le_refl _) (.cells #[.int .i64 x.1, .slice q x.2.1.length capq, .slice o x.2.2.length capo] 48))
  obtain ⟨wq, hwq⟩ : ∃ z, w.alloc (.cells #[.int .i64 x.1, .slice q x.2.1.length capq, .slice o x.2.2.length capo] 48) = z := ⟨_, rfl⟩
  have hwqs : wq.heap.size = w.heap.size + 1 := by rw [← hwq]; simp
  rw [hwq] at K B1
  have G0 := hid (gown_lit wq (w.heap.size + 1) (by omega))
  rw [hwqs] at G0
  replace K := hid (K.out.alloc (.cells #[] eR))
  replace B1 := hid (B1.out.alloc (by omega) (.cells #[] eR))
  obtain ⟨w0, hw0⟩ : ∃ z, wq.alloc (.cells #[] eR) = z := ⟨_, rfl⟩
  have hw0s : w0.heap.size = w.heap.size + 2 := by rw [← hw0]; simp; omega
  rw [hw0] at K B1 G0
  obtain ⟨qv, hqv⟩ : ∃ z, vq x = z := ⟨_, rfl⟩
  have VQ := hid (fun W (hW : Below w.heap.size w W) => by
    have := spec_vq _ x lo hi W hs (good_query.keep h (sm_below hW hh)) (Nat.le_trans hh hW.size)
    rw [hqv] at this
    exact this)
  have NB := hid (fun (v : Int) W (hW : Below w.heap.size w W) => spec_nbr _ x v lo hi W hs (good_query.keep h (sm_below hW hh)) (Nat.le_trans hh hW.size))
  have HQV := hid hqv
  clear h hqe hs hqv
  go_enter Tryd.func17, Tryd.ntmps17
  obtain ⟨q0, q1, q2, _, _, _, q6⟩ := K.out.three
  go_wp2_with fail
  with_reducible refine (VQ.out w0 B1.out).mono ?_
  rintro e w1 ⟨rfl, hb1⟩
  have hs1 := hb1.size
  have HB := hid (B1.out.trans (hb1.mono B1.out.size))
  have KB := hid (K.out.below hb1)
  have G1 := hid (G0.out.below' hb1)
  clear hb1 q0 q1 q2 q6 hwq hw0 hwqs K B1 G0
  cases qv with
  | false =>
    have HF := hid (ccs_no HQV.out)
    go_wp2
    go_ret
    refine ⟨_, 0, [], by rw [HF.out]; rfl, ?_, HB.out⟩
    rw [HF.out]
    exact G1.out.mono (by omega)
  | true =>
    obtain ⟨n, hn, hn1, hn5, hva⟩ := vq_vars HQV.out
    have HA := hid (adj_gph hva)
    have HF := hid (show ccs x = pts (rds (adj x.2.1) n n) n n by rw [ccs_yes HQV.out hn, pts_cps HA.out hn5 n (Nat.le_refl _)])
    have HNB := hid (fun k => show nbr x ((k : Nat) : Int) = fl (adj x.2.1 k) n from nbr_yes HQV.out hn)
    have HL := hid (fun k => (cps_len (adj x.2.1) k).1)
    have HPC := hid (fun k (hk : k ≤ n) => pts_cps HA.out hn5 k hk)
    rw [hn] at KB
    simp only [hn] at NB
    obtain ⟨q0, q1, q2, _, _, _, q6⟩ := KB.out.three
    have hmk := make_ints (P := Tryd.prog) w1 22 3 i0 Tryd.underlying22 hi0 hz0 hz1 hz2 n (by omega)
    have hat0 := hid (at_made w1 3 n (by omega))
    obtain ⟨gm, hgm⟩ : ∃ z, w1.heap.size = z := ⟨_, rfl⟩
    have hgm2 : w.heap.size + 2 ≤ gm := by omega
    have hst := start_len n
    have KA := hid (KB.out.alloc (.cells (Array.replicate n (.int .i64 0)) 3))
    have HBA := hid (HB.out.alloc HB.out.size (.cells (Array.replicate n (.int .i64 0)) 3))
    have HB12 := hid ((Below.refl gm w1).alloc (by omega) (.cells (Array.replicate n (.int .i64 0)) 3))
    obtain ⟨w2, hw2⟩ : ∃ z, w1.alloc (.cells (Array.replicate n (.int .i64 0)) 3) = z := ⟨_, rfl⟩
    have hw2s : gm + 1 ≤ w2.heap.size := by rw [← hw2]; simp; omega
    rw [hw2, hgm] at hat0
    rw [hw2] at KA HBA HB12
    rw [hw2, hgm] at hmk
    clear hn hva KB HB
    go_wp2
    go_loopw [5] (fun i wr => ∃ k : Nat, k ≤ n ∧ i = .int .i64 k ∧ Hid (At wr gm 3 n (filled (marks0 n) k)) ∧ Hid (HasL wr w.heap.size [.int .i64 (n : Int), .slice q x.2.1.length capq, .slice o x.2.2.length capo]) ∧ Hid (Below gm w2 wr)) (fun i _ => n - (intOf i).toNat)
    case atStart => exact ⟨0, Nat.zero_le _, rfl, by rw [filled_zero, hst]; exact hat0, KA, hid (Below.refl _ _)⟩
    case round =>
      obtain ⟨k, hk, rfl, hat, kb, hb⟩ := hrel
      clear q0 q1 q2 q6
      obtain ⟨q0, q1, q2, _, _, _, q6⟩ := kb.out.three
      by_cases hlt : k < n
      · have hlt' : (k : Int) < (n : Int) := by omega
        have h0' : (0 : Int) ≤ (k : Int) := by omega
        have hfl := filled_length (marks0 n) k (by omega)
        obtain ⟨u, c1⟩ : ∃ u, wr.cell? ⟨gm, k, none⟩ = some u := ⟨_, hat.out.cell k (by omega)⟩
        have c2 := hat.out.free k
        have hset := hid (hat.out.set k (k : Int))
        have hsk : (marks0 n)[k]'(by omega) = (k : Int) := by rw [← getD_of]; exact start_at hlt
        have hstp := filled_step (marks0 n) k (by omega)
        rw [hsk] at hstp
        rw [hstp] at hset
        have KF := hid (kb.out.far (c := gm) (o := k) (by omega) (.int .i64 (k : Int)))
        have HBF := hid (hb.out.setCell (p := ⟨gm, k, none⟩) (Nat.le_refl _) (.int .i64 (k : Int)))
        clear hfl hsk hstp hat kb hb hmk
        go_wp2
        go_roundw
        case rel => exact ⟨k + 1, by omega, by go_num, hset, KF, HBF⟩
        case measure => simp [intOf]; omega
      · have e : k = n := by omega
        subst e
        have hfa := filled_all (marks0 k)
        rw [hst] at hfa
        rw [hfa] at hat
        have HB3 := hid hb.out
        have K3 := hid kb.out
        have AT3 := hid hat.out
        clear hmk hfa hat kb hb
        go_wp2
        clear q0 q1 q2 q6
        go_loopw [6, 7, 8, 9] (fun i _ _ _ wr => ∃ r : Nat, r ≤ k ∧ i = .int .i64 r ∧ Hid (At wr gm 3 k (rds (adj x.2.1) k r)) ∧ Hid (HasL wr w.heap.size [.int .i64 (k : Int), .slice q x.2.1.length capq, .slice o x.2.2.length capo]) ∧ Hid (Below gm w2 wr)) (fun i _ _ _ _ => k - (intOf i).toNat)
        case atStart => exact ⟨0, Nat.zero_le _, rfl, AT3, K3, HB3⟩
        case round =>
          obtain ⟨r, hr, rfl, hat, kb, hb⟩ := hrel
          obtain ⟨q0, q1, q2, _, _, _, q6⟩ := kb.out.three
          by_cases hltr : r < k
          · have hltr' : (r : Int) < (k : Int) := by omega
            go_wp2
            clear q0 q1 q2 q6
            go_loopw [7, 8, 9] (fun i _ _ wr => ∃ v : Nat, v ≤ k ∧ i = .int .i64 v ∧ Hid (At wr gm 3 k (rnd (adj x.2.1) k (rds (adj x.2.1) k r) v)) ∧ Hid (HasL wr w.heap.size [.int .i64 (k : Int), .slice q x.2.1.length capq, .slice o x.2.2.length capo]) ∧ Hid (Below gm w2 wr)) (fun i _ _ _ => k - (intOf i).toNat)
            case atStart => exact ⟨0, Nat.zero_le _, rfl, hat, kb, hb⟩
            case round =>
              obtain ⟨v, hv, rfl, hat, kb, hb⟩ := hrel
              obtain ⟨q0, q1, q2, _, _, _, q6⟩ := kb.out.three
              by_cases hltv : v < k
              · have hltv' : (v : Int) < (k : Int) := by omega
                have hv0 : (0 : Int) ≤ (v : Int) := by omega
                have hszr : gm + 1 ≤ wr.heap.size := Nat.le_trans hw2s hb.out.size
                have N := hid (NB.out (v : Int) wr (HBA.out.trans (hb.out.mono (by omega))))
                have hok := rnd_ok HA.out (rds_ok HA.out r) v hv
                obtain ⟨ms, hms⟩ : ∃ z, rnd (adj x.2.1) k (rds (adj x.2.1) k r) v = z := ⟨_, rfl⟩
                rw [hms] at hok hat
                have hml := hok.1
                have HFA := hid (fun j (hj : j < (fl (adj x.2.1 v) k).length) => fl_at hj)
                have hnx := HNB.out v
                obtain ⟨near, hne⟩ : ∃ z, fl (adj x.2.1 v) k = z := ⟨_, rfl⟩
                rw [hne] at HFA hnx
                have HMS := hid (show rnd (adj x.2.1) k (rds (adj x.2.1) k r) (v + 1) = inn near v ms near.length by rw [rnd, hms, hne])
                have hnl : near.length ≤ 5 := by rw [← hne]; exact Nat.le_trans (fl_len _ _) hn5
                clear hok hms hne
                go_wp2_with fail
                with_reducible refine N.out.mono ?_
                rintro e w4 ⟨an, capn, rfl, hnear, hb4⟩
                rw [hnx] at hnear
                have hnx2 : (nbr x (v : Int)).length = near.length := by rw [hnx]
                rw [hnx2]
                have hs4 := hb4.size
                have HN4 := hid hnear
                have AT4 := hid (hat.out.below hb4 (by omega))
                have K4 := hid (kb.out.below hb4)
                have HB4 := hid (hb.out.trans (hb4.mono (by omega)))
                obtain ⟨lo4, hlo4⟩ : ∃ z, wr.heap.size = z := ⟨_, rfl⟩
                rw [hlo4] at HN4 hszr hs4
                clear hnear hb4 hat kb hb q0 q1 q2 q6 N hnx hnx2
                go_wp2
                go_loopw [9] (fun i wr => ∃ m : Nat, m ≤ near.length ∧ i = .int .i64 m ∧ Hid (At wr gm 3 k (inn near v ms m)) ∧ Hid (Own wr lo4 3 (.slice an near.length capn) near) ∧ Hid (HasL wr w.heap.size [.int .i64 (k : Int), .slice q x.2.1.length capq, .slice o x.2.2.length capo]) ∧ Hid (Below gm w2 wr)) (fun i _ => near.length - (intOf i).toNat)
                case atStart => exact ⟨0, Nat.zero_le _, rfl, AT4, HN4, K4, HB4⟩
                case round =>
                  obtain ⟨m, hm, rfl, hat, hnr, kb, hb⟩ := hrel
                  by_cases hltm : m < near.length
                  · have hltm' : (m : Int) < (near.length : Int) := by omega
                    have hm0 : (0 : Int) ≤ (m : Int) := by omega
                    obtain ⟨u, hu, huk, _⟩ := HFA.out m hltm
                    have hil := inn_len near v ms m
                    obtain ⟨b, off, rfl, hbB, hc⟩ := (own_rd hnr.out) (by omega)
                    have g1 := hc m hltm
                    rw [← getD_of hltm, hu] at g1
                    have g2 := hat.out.cell v (by omega)
                    have g3 := hat.out.cell u (by omega)
                    have g4 := hat.out.free v
                    have HI := hid (show inn near v ms (m + 1) = (inn near v ms m).set v (min ((inn near v ms m)[v]'(by omega)) ((inn near v ms m)[u]'(by omega))) by
                      rw [inn, hu, show (u : Int).toNat = u from rfl, getD_of (show v < (inn near v ms m).length by omega), getD_of (show u < (inn near v ms m).length by omega)])
                    obtain ⟨y, hy⟩ : ∃ y, (inn near v ms m)[v]'(by omega) = y := ⟨_, rfl⟩
                    obtain ⟨z, hz⟩ : ∃ z, (inn near v ms m)[u]'(by omega) = z := ⟨_, rfl⟩
                    rw [hy] at g2 HI
                    rw [hz] at g3 HI
                    rw [show min y z = (if z < y then z else y) by split <;> omega] at HI
                    have huk' : (u : Int) < (k : Int) := by omega
                    have hu0 : (0 : Int) ≤ (u : Int) := by omega
                    have hset := hid (hat.out.set v (if z < y then z else y))
                    rw [← HI.out] at hset
                    have hf1 := hid (own_far hnr.out (p := ⟨gm, v, none⟩) (show gm < lo4 by omega) (.int .i64 (if z < y then z else y)))
                    have hf2 := hid (kb.out.far (c := gm) (o := v) (by omega) (.int .i64 (if z < y then z else y)))
                    have hf3 := hid (hb.out.setCell (p := ⟨gm, v, none⟩) (Nat.le_refl _) (.int .i64 (if z < y then z else y)))
                    clear hc hy hz hil hat hnr kb hb hu HI
                    go_wp2
                    go_still_tail 15, (by kernel_rfl)
                    change wpList _ _ _ _ _ wr.drew
                    go_wp2
                    go_roundw
                    case rel => exact ⟨m + 1, by omega, by go_num, hid hset.out.drew, hid hf1.out.drew, hid hf2.out.drew, hid hf3.out.drew⟩
                    case measure => simp [intOf]; omega
                  · have e : m = near.length := by omega
                    subst e
                    rw [← HMS.out] at hat
                    have HAT := hid hat.out
                    clear hat
                    go_wp2
                    go_roundw
                    case rel => exact ⟨v + 1, by omega, by go_num, HAT, kb, hb⟩
                    case measure => simp [intOf]; omega
              · have e : v = k := by omega
                subst e
                have HAT := hid hat.out
                clear hat
                go_wp2
                go_roundw
                case rel => exact ⟨r + 1, by omega, by go_num, HAT, kb, hb⟩
                case measure => simp [intOf]; omega
          · have e : r = k := by omega
            subst e
            obtain ⟨ms, hms⟩ : ∃ z, rds (adj x.2.1) r r = z := ⟨_, rfl⟩
            rw [hms] at hat HF HPC
            have hml : ms.length = r := by rw [← hms]; exact (rds_ok HA.out r).1
            have GO := hid (G1.out.below (HB12.out.trans hb.out) (by omega))
            have HB5 := hid (HBA.out.trans (hb.out.mono (by omega)))
            have hsz5 : gm + 1 ≤ wr.heap.size := Nat.le_trans hw2s hb.out.size
            have AT5 := hid hat.out
            have K5 := hid kb.out
            clear hms hat kb hb NB HNB G1 HB12 HBA AT3 K3 HB3
            go_wp2
            clear q0 q1 q2 q6
            go_loopw [3, 10, 11, 12] (fun s3 i _ _ wr => ∃ (v : Nat) (val : Value) (vs : List Value), v ≤ r ∧ i = .int .i64 v ∧ val = s3 ∧ Hid (GOwn wr (w.heap.size + 1) eR eI val vs (pts ms r v)) ∧ Hid (At wr gm 3 r ms) ∧ Hid (HasL wr w.heap.size [.int .i64 (r : Int), .slice q x.2.1.length capq, .slice o x.2.2.length capo]) ∧ Hid (Below w.heap.size w wr) ∧ gm + 1 ≤ wr.heap.size) (fun _ i _ _ _ => r - (intOf i).toNat)
            case atStart => exact ⟨0, _, [], Nat.zero_le _, rfl, rfl, GO, AT5, K5, HB5, hsz5⟩
            case round =>
              obtain ⟨v, val, vs, hv, rfl, rfl, go, hat, kb, hb, hsz⟩ := hrel
              obtain ⟨w5, rfl⟩ : ∃ wo : World, wo = wr := ⟨_, rfl⟩
              obtain ⟨q0, q1, q2, _, _, _, q6⟩ := kb.out.three
              by_cases hltv : v < r
              · have hltv' : (v : Int) < (r : Int) := by omega
                have hv0 : (0 : Int) ≤ (v : Int) := by omega
                obtain ⟨lo5, hlo5⟩ : ∃ z, w5.heap.size = z := ⟨_, rfl⟩
                have OL := hid (own_lit w5 lo5 3 (by omega))
                have BL := hid ((Below.refl lo5 w5).alloc (by omega) (.cells #[] 3))
                have hpl := HL.out v
                rw [← HPC.out v hv] at hpl
                rw [hlo5] at OL
                rw [hlo5] at hsz q6
                go_wp2
                clear q0 q1 q2 q6
                go_loopw [11, 12] (fun pv i w6 => ∃ (j : Nat) (p : Value), j ≤ r ∧ i = .int .i64 j ∧ p = pv ∧ Own w6 lo5 3 p (prt ms v j) ∧ Hid (Below lo5 w5 w6) ∧ lo5 ≤ w6.heap.size) (fun _ i _ => r - (intOf i).toNat)
                case atStart => exact ⟨0, _, Nat.zero_le _, rfl, rfl, OL.out, BL, by simp; omega⟩
                case round =>
                  obtain ⟨j, p, hjr, rfl, rfl, hp, hb6, hs6⟩ := hrel
                  have K6 := hid (kb.out.under hb6.out (by omega))
                  have A6 := hid (hat.out.below hb6.out (by omega))
                  obtain ⟨q0, q1, q2, _, _, _, q6'⟩ := K6.out.three
                  by_cases hltj : j < r
                  · have hltj' : (j : Int) < (r : Int) := by omega
                    have hj0 : (0 : Int) ≤ (j : Int) := by omega
                    have g1 := A6.out.cell j (by omega)
                    obtain ⟨y, hy⟩ : ∃ y, ms[j]'(by omega) = y := ⟨_, rfl⟩
                    rw [hy] at g1
                    have hyd : ms.getD j 0 = y := by rw [getD_of (show j < ms.length by omega)]; exact hy
                    have hpl2 : (prt ms v j).length ≤ j := fl_len _ _
                    obtain ⟨c, hc⟩ : ∃ c, (y == (v : Int)) = c := ⟨_, rfl⟩
                    clear hy
                    cases c with
                    | true =>
                      have E := hid (prt_yes (ms := ms) (v := v) (w := j) (by rw [hyd]; exact hc))
                      clear hyd
                      go_wp2_with (at_builtin; refine append_int rfl _ _ 22 rfl lo5 3 i0 Tryd.underlying22 hi0 hz0 hz1 hz2 w5 wr _ (prt ms v j) (j : Int) hp (by rfl) hb6.out hs6 _ rfl (by rfl) (by omega) ?_)
                      intro v1 w7 hown1 hbel1 hsz2 hgr
                      have HB7 := hid hbel1
                      rw [← E.out] at hown1
                      clear hp hb6 hs6 hbel1 hgr q0 q1 q2 q6' K6 A6 g1
                      go_wp2
                      go_roundw
                      case rel => exact ⟨j + 1, _, by omega, by go_num, rfl, hown1, HB7, hsz2⟩
                      case measure => simp [intOf]; omega
                    | false =>
                      have E := hid (prt_no (ms := ms) (v := v) (w := j) (by rw [hyd]; exact hc))
                      rw [← E.out] at hp
                      clear hyd
                      go_wp2
                      go_roundw
                      case rel => exact ⟨j + 1, _, by omega, by go_num, rfl, hp, hb6, hs6⟩
                      case measure => simp [intOf]; omega
                  · have e : j = r := by omega
                    subst e
                    obtain ⟨ap, capp, hpf, _, _, _⟩ := hp.form
                    subst hpf
                    have HP := hid hp
                    have HB7 := hid (hb.out.trans (hb6.out.mono (by omega)))
                    have GO6 := hid (go.out.below hb6.out (by omega))
                    have HW := hid (fun u (hu : u ∈ vs) => (rws_of go.out).lt hu)
                    clear hp hb6 kb hat hb go
                    by_cases hz : (prt ms v j).length = 0
                    · have E := hid (show pts ms j (v + 1) = pts ms j v by rw [pts, if_pos hz])
                      have hd : decide ((0 : Int) < ((prt ms v j).length : Int)) = false := by simp [hz]
                      have hd2 : decide (0 < (prt ms v j).length) = false := by simp [hz]
                      rw [← E.out] at GO6
                      clear hz
                      go_wp2
                      go_roundw
                      case rel => exact ⟨v + 1, _, vs, by omega, by go_num, rfl, GO6, A6, K6, HB7, by omega⟩
                      case measure => simp [intOf]; omega
                    · have E := hid (show pts ms j (v + 1) = pts ms j v ++ [prt ms v j] by rw [pts, if_neg hz])
                      have hd : decide ((0 : Int) < ((prt ms v j).length : Int)) = true := by simp; omega
                      have hd2 : decide (0 < (prt ms v j).length) = true := by simp; omega
                      have HZ := hid hz
                      have hfar := hid (show ∀ u' ∈ vs, Far (.slice ap (prt ms v j).length capp) u' from fun u' hu2 q hq hq2 => by have t1 := (HP.out.lt q hq).1; have t2 := (HW.out u' hu2 q hq2).2; omega)
                      have HFG := hid (head_far GO6.out A6.out)
                      clear hz
                      go_wp2_with (at_builtin; refine wpList_head rfl _ _ 23 rfl eR eI eRI i1 Tryd.underlying23 hj hy0 hy1 hy2 wr (w.heap.size + 1) val (.slice ap (prt ms v j).length capp) vs (pts ms j v) (prt ms v j) rfl GO6.out (HP.out.mono (by omega)) hfar.out rfl (by omega) (by omega) ?_; intro v' w8 hg2 hgr2 hs8; have hg2' := hid hg2; have hgr2' := hid hgr2; clear hg2 hgr2)
                      have HV := hid GO6.out.lt
                      have K8 := hid (show HasL w8 w.heap.size [.int .i64 (j : Int), .slice q x.2.1.length capq, .slice o x.2.2.length capo] from K6.out.under (B := w.heap.size + 1) ((Below.refl _ wr).grown hgr2'.out (by omega) (fun q hq => by have t1 := (HV.out q hq).1; omega)) (by omega))
                      have HB8 := hid (HB7.out.grown hgr2'.out (by omega) (fun q hq => by have t1 := (HV.out q hq).1; omega))
                      have A8 := hid (at_grown2 A6.out hgr2'.out HFG.out)
                      have r5 := hg2'.out
                      rw [← E.out] at r5
                      have HO8 := hid r5
                      clear r5 hg2' hgr2' GO6 HV HB7 K6 A6 q0 q1 q2 q6'
                      go_wp2
                      go_roundw
                      case rel => exact ⟨v + 1, _, _, by omega, by go_num, rfl, HO8, A8, K8, HB8, by omega⟩
                      case measure => simp [intOf]; omega
              · have e : v = r := by omega
                subst e
                obtain ⟨av, capv, hvf, _, _, _⟩ := go.out.form
                subst hvf
                have HO := hid (go.out.mono (show w.heap.size ≤ w.heap.size + 1 by omega))
                clear go
                go_wp2
                go_ret
                refine ⟨av, capv, vs, by rw [HF.out]; rfl, ?_, hb.out⟩
                rw [HF.out]
                exact HO.out
end Go.Proofs.YtffhfnkcbgbliaaDoor.CmpS
