/- Fractional covers, the program's test; the degree of a variable, the program's function. -/
import Derived.Test.YthghggnlfnbbgabAwv
import Derived.Test.YthghggnlfnbbgabSmqI
import Derived.Test.YthghggnlfnbbgabSmqS
import Derived.Test.YthghggnlfnbbgabQryVI
import Derived.Deep.RegionHeld3
import Derived.Deep.DeepCutAuto
namespace Go.Proofs.Ythghggnlfnbbgab.CovI
open Go.RowKit
open Go.Proofs.Ythghggnlfnbbgab.Num Go.Proofs.Ythghggnlfnbbgab.Rat Go.Proofs.Ythghggnlfnbbgab.IntRow Go.Proofs.Ythghggnlfnbbgab.Rdr Go.Proofs.Ythghggnlfnbbgab.Dat Go.Proofs.Ythghggnlfnbbgab.HasL Go.Proofs.Ythghggnlfnbbgab.QryP Go.Proofs.Ythghggnlfnbbgab.QryVI Go.Proofs.Ythghggnlfnbbgab.Rats Go.Proofs.Ythghggnlfnbbgab.Smq Go.Proofs.Ythghggnlfnbbgab.SmqI Go.Proofs.Ythghggnlfnbbgab.SmqS Go.Proofs.Ythghggnlfnbbgab.Wgt Go.Proofs.Ythghggnlfnbbgab.CmpCalls Go.Proofs.Ythghggnlfnbbgab.CovP Go.Proofs.Ythghggnlfnbbgab.Awv Go.Proofs.Ythghggnlfnbbgab.Keep Go.Proofs.Ythghggnlfnbbgab.Kept
set_option linter.unusedVariables false

theorem geOne_no {o : Option RatD} (h : okQ o = false) : geOne o = false := by rw [okQ_none h]; rfl
theorem geOne_is {o : Option RatD} {s : Int} (h : okQ o = true) (hs : sgn (fstQ o * 1) (1 * sndQ o) = s) : geOne o = decide (¬ s < 0) := by
  cases o with
  | none => cases h
  | some p => subst hs; rfl
theorem leOne_no {o : Option RatD} (h : okQ o = false) : leOne o = false := by rw [okQ_none h]; rfl
theorem leOne_is {o : Option RatD} {s : Int} (h : okQ o = true) (hs : sgn (fstQ o * 1) (1 * sndQ o) = s) : leOne o = decide (¬ 0 < s) := by
  cases o with
  | none => cases h
  | some p => subst hs; rfl
theorem sumQ_fst {xs : List RatD} (h : okQ (sumQ xs) = true) : vr (fstQ (sumQ xs)) (sndQ (sumQ xs)) = true := by
  have := okQ_some h
  exact sumQ_vr this

set_option maxRecDepth 100000 in
set_option maxHeartbeats 2000000 in
theorem impl_cover (cs : List Value) (x : QueryD) (a : Option Addr) (cap : Nat) (ws : List RatD) (lo hi lo' hi' : Nat) (w : World) (hs : szQ x ≤ 1048576) (hn : ws.length ≤ 1048576) (h : rQuery w lo hi cs x) (h' : Els 2 rRat w lo' hi' a ws) (hh : hi ≤ w.heap.size) (hh' : hi' ≤ w.heap.size) :
    Calls Try.prog 15 #[.agg cs.toArray, .slice a ws.length cap] w fun e w' => e = .returned (.bool (cov x ws)) ∧ Below w.heap.size w w' := by
  obtain ⟨q, capq, o, capo, hcs, _, _, hqe, _⟩ := query_open h
  subst hcs
  have K := hid (hasl_new w [.int .i64 x.1, .slice q x.2.1.length capq, .slice o x.2.2.length capo] 41)
  have B1 := hid ((Below.refl w.heap.size w).alloc (Nat.le_refl _) (.cells #[.int .i64 x.1, .slice q x.2.1.length capq, .slice o x.2.2.length capo] 41))
  obtain ⟨qv, hqv⟩ : ∃ z, vq x = z := ⟨_, rfl⟩
  have VQ := hid (fun W (hW : Below w.heap.size w W) => by
    have := impl_vq _ x lo hi W hs (good_query.keep h (sm_below hW hh)) (Nat.le_trans hh hW.size)
    rw [hqv] at this
    exact this)
  have RQ := hid (fun W (hW : Below w.heap.size w W) (v : Int) => impl_idx _ x v lo hi W hs (good_query.keep h (sm_below hW hh)) (Nat.le_trans hh hW.size))
  have HW := hid (fun W (hW : Below w.heap.size w W) => h'.grow good_rat hW hh')
  have HBD := hid (rats_bd h')
  have AD := hid (fun W (hW : Below w.heap.size w W) => impl_adm a cap ws lo' hi' W (by omega) (h'.grow good_rat hW hh') (Nat.le_trans hh' hW.size))
  have HQV := hid hqv
  clear h h' hqe hs hqv
  obtain ⟨q0, q1, q2, q3, q4, q5, q6⟩ := K.out.three
  go_enter Try.func15, Try.ntmps15
  go_wp2_with fail
  with_reducible refine (VQ.out _ B1.out).mono ?_
  rintro e w1 ⟨rfl, hb1⟩
  have HB := hid (B1.out.trans (hb1.mono B1.out.size))
  have KB := hid (K.out.below hb1)
  clear hb1 q0 q1 q2 q3 q4 q5 q6 B1 K
  obtain ⟨q0, q1, q2, q3, q4, q5, q6⟩ := KB.out.three
  cases qv with
  | false =>
    have HF := hid (cov_q (ws := ws) HQV.out)
    go_wp2
    go_ret
    exact ⟨by rw [HF.out]; rfl, HB.out⟩
  | true =>
    by_cases hlen : (ws.length : Int) = (x.2.1.length : Int)
    · have hnl : ((ws.length : Int) != (x.2.1.length : Int)) = false := by simp [hlen]
      have HLN := hid hlen
      clear hlen
      obtain ⟨z, hz⟩ : ∃ z, adm ws = z := ⟨_, rfl⟩
      have AD2 := hid (by have := AD.out; rw [hz] at this; exact this)
      go_wp2_with fail
      with_reducible refine (AD2.out _ HB.out).mono ?_
      rintro e w2 ⟨rfl, hb2⟩
      replace HB := hid (HB.out.trans (hb2.mono HB.out.size))
      replace KB := hid (KB.out.below hb2)
      clear hb2 q0 q1 q2 q3 q4 q5 q6 AD AD2
      obtain ⟨q0, q1, q2, q3, q4, q5, q6⟩ := KB.out.three
      cases z with
      | false =>
        have HF := hid (cov_a (x := x) (ws := ws) (by rw [hz]; rfl))
        clear hz
        go_wp2
        go_ret
        exact ⟨by rw [HF.out]; rfl, HB.out⟩
      | true =>
        have HA := hid (show (adm ws && ((ws.length : Int) == (x.2.1.length : Int))) = true by rw [hz, Bool.true_and, beq_iff_eq]; exact HLN.out)
        have hvb := vq_bd HQV.out
        clear hz hnl
        go_wp2
        clear q0 q1 q2 q3 q4 q5 q6
        go_loopw [5, 6, 7, 26] (fun _ _ _ i wr => ∃ k : Nat, (k : Int) ≤ x.1 ∧ i = .int .i64 k ∧ Hid (∀ v : Nat, (v : Int) < k → geOne (sumQ (sel x.2.1 ws (v : Int) x.2.1.length)) = true) ∧ Hid (HasL wr w.heap.size [.int .i64 x.1, .slice q x.2.1.length capq, .slice o x.2.2.length capo]) ∧ Hid (Below w.heap.size w wr)) (fun _ _ _ i _ => (x.1 - intOf i).toNat)
        case atStart => exact ⟨0, by omega, rfl, hid (fun v hv => by omega), KB, HB⟩
        case round =>
          obtain ⟨k, hk, rfl, hge, kk, hb⟩ := hrel
          by_cases hlt : (k : Int) < x.1
          · obtain ⟨q0, q1, q2, q3, q4, q5, q6⟩ := kk.out.three
            have h0' : (0 : Int) ≤ (k : Int) := by omega
            go_wp2_with fail
            with_reducible refine (RQ.out _ hb.out k).mono ?_
            rintro e w3 ⟨ai, capi, rfl, hown, hb3⟩
            have HB3 := hid (hb.out.trans (hb3.mono hb.out.size))
            have K3 := hid (kk.out.below hb3)
            have hil := idx_len x.2.1 (k : Int) x.2.1.length
            have VA := hid (impl_vals a ai cap capi ws (idx x.2.1 (k : Int) x.2.1.length) lo' hi' _ w3 (by omega) (by omega) (fun j hj => by
              obtain ⟨i, h1, h2⟩ := idx_lt x.2.1 (k : Int) x.2.1.length j hj
              exact ⟨i, by have := HLN.out; omega, h2⟩) (HW.out _ HB3.out) (own_rd hown) (Nat.le_trans hh' HB3.out.size) (Nat.le_refl _))
            clear hb3 hown q0 q1 q2 q3 q4 q5 q6 kk
            go_wp2_with fail
            with_reducible refine VA.out.mono ?_
            rintro e w4 ⟨rfl, hel, hb4, hlt4⟩
            have HB4 := hid (HB3.out.trans (hb4.mono HB3.out.size))
            have K4 := hid (K3.out.below hb4)
            have hvl := vals_len ws (idx x.2.1 (k : Int) x.2.1.length)
            have SU := hid (by
              have := impl_sum (some ⟨w3.heap.size, 0, none⟩) (idx x.2.1 (k : Int) x.2.1.length).length (sel x.2.1 ws (k : Int) x.2.1.length) _ _ w4 (by rw [sel, hvl]; omega) hel hlt4
              rw [show (sel x.2.1 ws (k : Int) x.2.1.length).length = (idx x.2.1 (k : Int) x.2.1.length).length from hvl] at this
              exact this)
            clear hb4 hel VA HB3 K3
            go_wp2_with fail
            with_reducible refine SU.out.mono ?_
            rintro e w5 ⟨rfl, hb5⟩
            have HB5 := hid (HB4.out.trans (hb5.mono HB4.out.size))
            have K5 := hid (K4.out.below hb5)
            have hz5 := HB5.out.size
            clear hb5 SU HB4 K4 hvl hil
            rw [endQ_any]
            obtain ⟨O, hO⟩ : ∃ O, sumQ (sel x.2.1 ws (k : Int) x.2.1.length) = O := ⟨_, rfl⟩
            rw [hO]
            have HVR := hid (fun (e : okQ O = true) => by have := sumQ_fst (xs := sel x.2.1 ws (k : Int) x.2.1.length) (by rw [hO]; exact e); rw [hO] at this; exact this)
            have HO := hid hO
            have hgn := hid (geOne_no (o := O))
            have hgi := hid (fun s => geOne_is (o := O) (s := s))
            generalize fstQ O = X at *
            generalize sndQ O = Y at *
            obtain ⟨ok, hok⟩ : ∃ ok, okQ O = ok := ⟨_, rfl⟩
            rw [hok]
            clear hO
            have KN := hid (hasl_new w5 [.int .i64 X, .int .i64 Y] 25)
            have K6 := hid (K5.out.alloc (.cells #[.int .i64 X, .int .i64 Y] 25))
            have HB6 := hid (HB5.out.alloc hz5 (.cells #[.int .i64 X, .int .i64 Y] 25))
            cases ok with
            | false =>
              have HG := hid (hgn.out hok)
              have HF := hid (cov_b HQV.out HA.out (covB_no k hlt (by rw [HO.out]; exact HG.out)))
              clear HVR hgn hgi hok
              go_wp2
              go_quiet (fail)
              go_wp2
              go_ret
              exact ⟨by rw [HF.out]; rfl, by exact ⟨HB6.out.os, HB6.out.tape, HB6.out.output, HB6.out.size, HB6.out.block⟩⟩
            | true =>
              have hv := HVR.out hok
              have CM := hid (fun W => impl_cmp_yes X Y 1 1 W hv one_vr)
              obtain ⟨s, hs⟩ : ∃ s, sgn (X * 1) (1 * Y) = s := ⟨_, rfl⟩
              rw [hs] at CM
              have HGI := hid (hgi.out s hok hs)
              have WH := hid (fun W => whole 1 W)
              clear HVR hgn hgi hok hs hv
              obtain ⟨n0, n1, n2, n3, n4⟩ := KN.out.two
              have hk0 := kp_refl (w5.alloc (.cells #[.int .i64 X, .int .i64 Y] 25))
              have hsz6 : (w5.alloc (.cells #[.int .i64 X, .int .i64 Y] 25)).heap.size = w5.heap.size + 1 := by simp
              go_upto_region 7 with fail
              go_cut [45] (fun s' wx => s' = .bool (decide (s < 0)) ∧ Kp (w5.alloc (.cells #[.int .i64 X, .int .i64 Y] 25)) 0 wx)
              case first =>
                go_region_held3 (fun w' => w'.cell? ⟨w5.heap.size, 0, none⟩ = some (.int .i64 X) ∧ w'.cell? ⟨w5.heap.size, 1, none⟩ = some (.int .i64 Y) ∧ Kp (w5.alloc (.cells #[.int .i64 X, .int .i64 Y] 25)) 0 w')
                  (first
                    | (go_split_ands
                       repeat' apply And.intro
                       all_goals (first | (with_reducible assumption) | (with_reducible exact cell_drew (by assumption)) | (with_reducible exact Kp.drew (by assumption)) | (with_reducible exact Kp.cell (by assumption) hb1 (by omega) (by assumption)) | (with_reducible exact Kp.call (by assumption) hb1))))
                  (first
                    | (go_split_ands; go_at_call 25; (with_reducible refine (WH.out _).mono ?_); rintro e wT ⟨rfl, hb1⟩)
                    | (go_split_ands; go_at_call 39; (with_reducible refine (CM.out _).mono ?_); rintro e wU ⟨rfl, hb1⟩))
                all_goals
                  go_wp2_with fail
                  go_meet
                  go_split_ands
                  exact ⟨rfl, by with_reducible assumption⟩
              case rest =>
                obtain ⟨rfl, hkp⟩ := hcut
                have HB7 := hid (HB6.out.trans (hkp.bel.mono HB6.out.size))
                have K7 := hid (K6.out.below hkp.bel)
                clear hkp hk0 n0 n1 n2 n3 n4
                by_cases hsn : s < 0
                · have hd : decide (s < 0) = true := decide_eq_true hsn
                  rw [hd]
                  have HG := hid (show geOne O = false by rw [HGI.out]; simp; omega)
                  have HF := hid (cov_b HQV.out HA.out (covB_no k hlt (by rw [HO.out]; exact HG.out)))
                  clear HGI hd
                  go_wp2
                  go_ret
                  exact ⟨by rw [HF.out]; rfl, HB7.out⟩
                · have hd : decide (s < 0) = false := decide_eq_false hsn
                  rw [hd]
                  have HG := hid (show geOne O = true by rw [HGI.out]; simp; omega)
                  have HGE := hid (fun (v : Nat) (hv : (v : Int) < ((k + 1 : Nat) : Int)) => show geOne (sumQ (sel x.2.1 ws (v : Int) x.2.1.length)) = true by
                    by_cases e : v = k
                    · subst e; rw [HO.out]; exact HG.out
                    · exact hge.out v (by omega))
                  clear HGI hd hge
                  go_wp2
                  go_roundw
                  case rel => exact ⟨k + 1, by omega, by go_num, HGE, K7, HB7⟩
                  case measure => simp [intOf]; omega
          · have HF := hid (cov_b HQV.out HA.out (covB_yes (fun v hv => hge.out v (by omega))))
            go_wp2
            go_ret
            exact ⟨by rw [HF.out]; rfl, hb.out⟩
    · have hnl : ((ws.length : Int) != (x.2.1.length : Int)) = true := by simp; omega
      have HF := hid (cov_a (x := x) (ws := ws) (by rw [show ((ws.length : Int) == (x.2.1.length : Int)) = false by simp; omega, Bool.and_false]))
      go_wp2
      go_ret
      exact ⟨by rw [HF.out]; rfl, HB.out⟩
end Go.Proofs.Ythghggnlfnbbgab.CovI
