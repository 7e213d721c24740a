/- Fractional packings, the program's test. -/
import Derived.Test.YthghggnlfnbbgabDoorAwv
import Derived.Test.YthghggnlfnbbgabDoorPakP
import Derived.Test.YthghggnlfnbbgabDoorQryVI
import Derived.Test.YthghggnlfnbbgabDoorSetA
import Derived.Deep.RegionHeld3
import Derived.Deep.DeepCutAuto
namespace Go.Proofs.YthghggnlfnbbgabDoor.PakI
open Go.RowKit
open Go.Proofs.YthghggnlfnbbgabDoor.Num Go.Proofs.YthghggnlfnbbgabDoor.Rat Go.Proofs.YthghggnlfnbbgabDoor.IntRow Go.Proofs.YthghggnlfnbbgabDoor.Rdr Go.Proofs.YthghggnlfnbbgabDoor.Dat Go.Proofs.YthghggnlfnbbgabDoor.HasL Go.Proofs.YthghggnlfnbbgabDoor.QryP Go.Proofs.YthghggnlfnbbgabDoor.QryVI Go.Proofs.YthghggnlfnbbgabDoor.Rats Go.Proofs.YthghggnlfnbbgabDoor.Smq Go.Proofs.YthghggnlfnbbgabDoor.SmqI Go.Proofs.YthghggnlfnbbgabDoor.SmqS Go.Proofs.YthghggnlfnbbgabDoor.Wgt Go.Proofs.YthghggnlfnbbgabDoor.CmpCalls Go.Proofs.YthghggnlfnbbgabDoor.CovP Go.Proofs.YthghggnlfnbbgabDoor.PakP Go.Proofs.YthghggnlfnbbgabDoor.AtmVars Go.Proofs.YthghggnlfnbbgabDoor.SetI Go.Proofs.YthghggnlfnbbgabDoor.SetA Go.Proofs.YthghggnlfnbbgabDoor.Awv Go.Proofs.YthghggnlfnbbgabDoor.Keep Go.Proofs.YthghggnlfnbbgabDoor.Kept
set_option linter.unusedVariables false

set_option maxRecDepth 100000 in
set_option maxHeartbeats 2000000 in
theorem impl_pack (cs : List Value) (x : QueryD) (a : Option Addr) (cap : Nat) (ws : List RatD) (lo hi lo' hi' : Nat) (w : World) (hs : szQ x ≤ 1048576) (hn : ws.length ≤ 1048576) (h : rQuery w lo hi cs x) (h' : Els 2 rRat w lo' hi' a ws) (hh : hi ≤ w.heap.size) (hh' : hi' ≤ w.heap.size) (hT : Tab w) :
    Calls Tryd.prog 9 #[.agg cs.toArray, .slice a ws.length cap] w fun e w' => e = .returned (.bool (pak x ws)) ∧ Below w.heap.size w w' := by
  obtain ⟨q, capq, o, capo, hcs, _, _, hqe, _⟩ := query_open h
  subst hcs
  have K := hid (hasl_new w [.int .i64 x.1, .slice q x.2.1.length capq, .slice o x.2.2.length capo] 32)
  have B1 := hid ((Below.refl w.heap.size w).alloc (Nat.le_refl _) (.cells #[.int .i64 x.1, .slice q x.2.1.length capq, .slice o x.2.2.length capo] 32))
  obtain ⟨qv, hqv⟩ : ∃ z, vq x = z := ⟨_, rfl⟩
  have VQ := hid (fun W (hW : Below w.heap.size w W) => by
    have := impl_vq _ x lo hi W hs (good_query.keep h (sm_below hW hh)) (Nat.le_trans hh hW.size)
    rw [hqv] at this
    exact this)
  have HSA := hid (fun j (hj : j < x.2.1.length) => show x.2.1[j].2.length ≤ 1048576 by have := elem_le szA x.2.1 j hj; unfold szA at this; unfold szQ szA at hs; omega)
  have HQE := hid (fun W (hW : Below w.heap.size w W) => hqe.grow good_atom hW hh)
  have HT := hid (fun W (hW : Below w.heap.size w W) => hT.below hW)
  have HW := hid (fun W (hW : Below w.heap.size w W) => h'.grow good_rat hW hh')
  have HBD := hid (rats_bd h')
  have AD := hid (fun W (hW : Below w.heap.size w W) => impl_adm a cap ws lo' hi' W (by omega) (h'.grow good_rat hW hh') (Nat.le_trans hh' hW.size))
  have HQV := hid hqv
  clear h h' hqe hs hqv hT
  obtain ⟨q0, q1, q2, q3, q4, q5, q6⟩ := K.out.three
  go_enter Tryd.func9, Tryd.ntmps9
  go_wp2_with fail
  with_reducible refine (VQ.out _ B1.out).mono ?_
  rintro e w1 ⟨rfl, hb1⟩
  have HB := hid (B1.out.trans (hb1.mono B1.out.size))
  have KB := hid (K.out.below hb1)
  clear hb1 q0 q1 q2 q3 q4 q5 q6 B1 K
  obtain ⟨q0, q1, q2, q3, q4, q5, q6⟩ := KB.out.three
  cases qv with
  | false =>
    have HF := hid (pak_q (ws := ws) HQV.out)
    go_wp2
    go_ret
    exact ⟨by rw [HF.out]; rfl, HB.out⟩
  | true =>
    by_cases hlen : (ws.length : Int) = x.1
    · have hnl : ((ws.length : Int) != x.1) = false := by simp [hlen]
      have HLN := hid hlen
      clear hlen
      obtain ⟨z, hz⟩ : ∃ z, adm ws = z := ⟨_, rfl⟩
      have AD2 := hid (by have := AD.out; rw [hz] at this; exact this)
      go_wp2_with fail
      with_reducible refine (AD2.out _ HB.out).mono ?_
      rintro e w2 ⟨rfl, hb2⟩
      replace HB := hid (HB.out.trans (hb2.mono HB.out.size))
      replace KB := hid (KB.out.below hb2)
      clear hb2 q0 q1 q2 q3 q4 q5 q6 AD AD2
      obtain ⟨q0, q1, q2, q3, q4, q5, q6⟩ := KB.out.three
      cases z with
      | false =>
        have HF := hid (pak_a (x := x) (ws := ws) (by rw [hz]; rfl))
        clear hz
        go_wp2
        go_ret
        exact ⟨by rw [HF.out]; rfl, HB.out⟩
      | true =>
        have HA := hid (show (adm ws && ((ws.length : Int) == x.1)) = true by rw [hz, Bool.true_and, beq_iff_eq]; exact HLN.out)
        have hvb := vq_bd HQV.out
        clear hz hnl
        go_wp2
        clear q0 q1 q2 q3 q4 q5 q6
        go_loopw [6, 7, 8, 27] (fun _ _ _ i wr => ∃ k : Nat, k ≤ x.2.1.length ∧ i = .int .i64 k ∧ Hid (∀ j (h : j < x.2.1.length), j < k → leOne (sumQ (selA x.2.1[j].2 ws x.1.toNat)) = true) ∧ Hid (HasL wr w.heap.size [.int .i64 x.1, .slice q x.2.1.length capq, .slice o x.2.2.length capo]) ∧ Hid (Below w.heap.size w wr)) (fun _ _ _ i _ => x.2.1.length - (intOf i).toNat)
        case atStart => exact ⟨0, Nat.zero_le _, rfl, hid (fun v _ hv => by omega), KB, HB⟩
        case round =>
          obtain ⟨k, hk, rfl, hge, kk, hb⟩ := hrel
          clear KB HB
          by_cases hlt : k < x.2.1.length
          · have hlt' : (k : Int) < (x.2.1.length : Int) := by omega
            have h0' : (0 : Int) ≤ (k : Int) := by omega
            obtain ⟨b, off, aj, capj, he, _, hbB, c0, c1, rx⟩ := atoms_at (HQE.out _ hb.out) k hlt
            subst he
            have hsb := hb.out.size
            have KA := hid (hasl_new wr [.string x.2.1[k].1, .slice aj x.2.1[k].2.length capj] 45)
            have K1 := hid (kk.out.alloc (.cells #[.string x.2.1[k].1, .slice aj x.2.1[k].2.length capj] 45))
            have B1 := hid (hb.out.alloc hsb (.cells #[.string x.2.1[k].1, .slice aj x.2.1[k].2.length capj] 45))
            have AV := hid (impl_avars _ x.2.1[k] lo hi _ (HSA.out k hlt) (good_atom.keep rx (sm_below ((Below.refl wr.heap.size wr).alloc (Nat.le_refl _) (.cells #[.string x.2.1[k].1, .slice aj x.2.1[k].2.length capj] 45)) (by omega))) (Nat.le_trans hh B1.out.size) (HT.out _ B1.out))
            have E5 := hid (avs_five HQV.out k hlt)
            obtain ⟨p0, p1, p2, p3, p4⟩ := KA.out.two
            clear rx kk hb
            go_wp2_with fail
            with_reducible refine AV.out.mono ?_
            rintro e w3 ⟨ai, capi, rfl, hown, hb3⟩
            have HB3 := hid (B1.out.trans (hb3.mono B1.out.size))
            have K3 := hid (K1.out.below hb3)
            have hil := avs_len x.2.1[k].2 5
            have VA := hid (impl_vals a ai cap capi ws (avs x.2.1[k].2 5) lo' hi' _ w3 (by omega) (by omega) (fun j hj => by
              have hj2 := hj
              simp only [E5.out] at hj2 ⊢
              obtain ⟨i, h1, h2⟩ := avs_at x.2.1[k].2 x.1.toNat j hj2
              exact ⟨i, by have := HLN.out; omega, h2⟩) (HW.out _ HB3.out) (own_rd hown) (Nat.le_trans hh' HB3.out.size) (Nat.le_refl _))
            clear hb3 hown p0 p1 p2 p3 p4 c0 c1 KA K1 B1 AV
            go_wp2_with fail
            with_reducible refine VA.out.mono ?_
            rintro e w4 ⟨rfl, hel, hb4, hlt4⟩
            have HB4 := hid (HB3.out.trans (hb4.mono HB3.out.size))
            have K4 := hid (K3.out.below hb4)
            have hvl := vals_len ws (avs x.2.1[k].2 5)
            have SU := hid (by
              have := impl_sum (some ⟨w3.heap.size, 0, none⟩) (avs x.2.1[k].2 5).length (selA x.2.1[k].2 ws 5) _ _ w4 (by rw [selA, hvl]; omega) hel hlt4
              rw [show (selA x.2.1[k].2 ws 5).length = (avs x.2.1[k].2 5).length from hvl] at this
              rw [show selA x.2.1[k].2 ws 5 = selA x.2.1[k].2 ws x.1.toNat by unfold selA; rw [E5.out]] at this
              exact this)
            clear hb4 hel VA HB3 K3
            go_wp2_with fail
            with_reducible refine SU.out.mono ?_
            rintro e w5 ⟨rfl, hb5⟩
            have HB5 := hid (HB4.out.trans (hb5.mono HB4.out.size))
            have K5 := hid (K4.out.below hb5)
            have hz5 := HB5.out.size
            clear hb5 SU HB4 K4 hvl hil
            rw [endQ_any]
            obtain ⟨O, hO⟩ : ∃ O, sumQ (selA x.2.1[k].2 ws x.1.toNat) = O := ⟨_, rfl⟩
            rw [hO]
            have HVR := hid (fun (e : okQ O = true) => by have := sumQ_fst (xs := selA x.2.1[k].2 ws x.1.toNat) (by rw [hO]; exact e); rw [hO] at this; exact this)
            have HO := hid hO
            have hgn := hid (leOne_no (o := O))
            have hgi := hid (fun s => leOne_is (o := O) (s := s))
            generalize fstQ O = X at *
            generalize sndQ O = Y at *
            obtain ⟨ok, hok⟩ : ∃ ok, okQ O = ok := ⟨_, rfl⟩
            rw [hok]
            clear hO
            have KN := hid (hasl_new w5 [.int .i64 X, .int .i64 Y] 47)
            have K6 := hid (K5.out.alloc (.cells #[.int .i64 X, .int .i64 Y] 47))
            have HB6 := hid (HB5.out.alloc hz5 (.cells #[.int .i64 X, .int .i64 Y] 47))
            cases ok with
            | false =>
              have HG := hid (hgn.out hok)
              have HF := hid (pak_b HQV.out HA.out (pakB_no k hlt (by rw [HO.out]; exact HG.out)))
              clear HVR hgn hgi hok
              go_wp2
              go_quiet (fail)
              go_wp2
              go_ret
              exact ⟨by rw [HF.out]; rfl, by exact ⟨HB6.out.os, HB6.out.tape, HB6.out.output, HB6.out.size, HB6.out.block⟩⟩
            | true =>
              have hv := HVR.out hok
              have CM := hid (fun W => impl_cmp_yes X Y 1 1 W hv one_vr)
              obtain ⟨s, hs⟩ : ∃ s, sgn (X * 1) (1 * Y) = s := ⟨_, rfl⟩
              rw [hs] at CM
              have HGI := hid (hgi.out s hok hs)
              have WH := hid (fun W => whole 1 W)
              clear HVR hgn hgi hok hs hv
              obtain ⟨n0, n1, n2, n3, n4⟩ := KN.out.two
              have hk0 := kp_refl (w5.alloc (.cells #[.int .i64 X, .int .i64 Y] 47))
              have hsz6 : (w5.alloc (.cells #[.int .i64 X, .int .i64 Y] 47)).heap.size = w5.heap.size + 1 := by simp
              go_upto_region 7 with fail
              go_cut [46] (fun s' wx => s' = .bool (decide (0 < s)) ∧ Kp (w5.alloc (.cells #[.int .i64 X, .int .i64 Y] 47)) 0 wx)
              case first =>
                go_region_held3 (fun w' => w'.cell? ⟨w5.heap.size, 0, none⟩ = some (.int .i64 X) ∧ w'.cell? ⟨w5.heap.size, 1, none⟩ = some (.int .i64 Y) ∧ Kp (w5.alloc (.cells #[.int .i64 X, .int .i64 Y] 47)) 0 w')
                  (first
                    | (go_split_ands
                       repeat' apply And.intro
                       all_goals (first | (with_reducible assumption) | (with_reducible exact cell_drew (by assumption)) | (with_reducible exact Kp.drew (by assumption)) | (with_reducible exact Kp.cell (by assumption) hb1 (by omega) (by assumption)) | (with_reducible exact Kp.call (by assumption) hb1))))
                  (first
                    | (go_split_ands; go_at_call 28; (with_reducible refine (WH.out _).mono ?_); rintro e wT ⟨rfl, hb1⟩)
                    | (go_split_ands; go_at_call 27; (with_reducible refine (CM.out _).mono ?_); rintro e wU ⟨rfl, hb1⟩))
                all_goals
                  go_wp2_with fail
                  go_meet
                  go_split_ands
                  exact ⟨rfl, by with_reducible assumption⟩
              case rest =>
                obtain ⟨rfl, hkp⟩ := hcut
                have HB7 := hid (HB6.out.trans (hkp.bel.mono HB6.out.size))
                have K7 := hid (K6.out.below hkp.bel)
                clear hkp hk0 n0 n1 n2 n3 n4
                by_cases hsn : 0 < s
                · have hd : decide (0 < s) = true := decide_eq_true hsn
                  rw [hd]
                  have HG := hid (show leOne O = false by rw [HGI.out]; simp; omega)
                  have HF := hid (pak_b HQV.out HA.out (pakB_no k hlt (by rw [HO.out]; exact HG.out)))
                  clear HGI hd
                  go_wp2
                  go_ret
                  exact ⟨by rw [HF.out]; rfl, HB7.out⟩
                · have hd : decide (0 < s) = false := decide_eq_false hsn
                  rw [hd]
                  have HG := hid (show leOne O = true by rw [HGI.out]; simp; omega)
                  have HGE := hid (fun v (hvl : v < x.2.1.length) (hv : v < k + 1) => show leOne (sumQ (selA x.2.1[v].2 ws x.1.toNat)) = true by
                    by_cases e : v = k
                    · subst e; rw [HO.out]; exact HG.out
                    · exact hge.out v hvl (by omega))
                  clear HGI hd hge
                  go_wp2
                  go_roundw
                  case rel => exact ⟨k + 1, by omega, by go_num, HGE, K7, HB7⟩
                  case measure => simp [intOf]; omega
          · have HF := hid (pak_b HQV.out HA.out (pakB_yes (fun v hv => hge.out v hv (by omega))))
            go_wp2
            go_ret
            exact ⟨by rw [HF.out]; rfl, hb.out⟩
    · have hnl : ((ws.length : Int) != x.1) = true := by simp; omega
      have HF := hid (pak_a (x := x) (ws := ws) (by rw [show ((ws.length : Int) == x.1) = false by simp; omega, Bool.and_false]))
      go_wp2
      go_ret
      exact ⟨by rw [HF.out]; rfl, HB.out⟩
end Go.Proofs.YthghggnlfnbbgabDoor.PakI
