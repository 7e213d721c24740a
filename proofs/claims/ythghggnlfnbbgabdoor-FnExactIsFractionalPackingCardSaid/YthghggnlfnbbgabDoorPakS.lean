/- Fractional packings, the model's test. -/
import Derived.Test.YthghggnlfnbbgabDoorPakP
import Derived.Test.YthghggnlfnbbgabDoorRatRow
import Derived.Test.YthghggnlfnbbgabDoorQryVS
import Derived.Test.YthghggnlfnbbgabDoorVarIn
namespace Go.Proofs.YthghggnlfnbbgabDoor.PakS
open Go.RowKit
open Go.Proofs.YthghggnlfnbbgabDoor.Num Go.Proofs.YthghggnlfnbbgabDoor.Rat Go.Proofs.YthghggnlfnbbgabDoor.IntRow Go.Proofs.YthghggnlfnbbgabDoor.Rdr Go.Proofs.YthghggnlfnbbgabDoor.Dat Go.Proofs.YthghggnlfnbbgabDoor.HasL Go.Proofs.YthghggnlfnbbgabDoor.VarIn Go.Proofs.YthghggnlfnbbgabDoor.QryP Go.Proofs.YthghggnlfnbbgabDoor.QryVS Go.Proofs.YthghggnlfnbbgabDoor.Rats Go.Proofs.YthghggnlfnbbgabDoor.RatRow Go.Proofs.YthghggnlfnbbgabDoor.Smq Go.Proofs.YthghggnlfnbbgabDoor.SmqI Go.Proofs.YthghggnlfnbbgabDoor.SmqS Go.Proofs.YthghggnlfnbbgabDoor.Wgt Go.Proofs.YthghggnlfnbbgabDoor.CmpCalls Go.Proofs.YthghggnlfnbbgabDoor.CovP Go.Proofs.YthghggnlfnbbgabDoor.PakP Go.Proofs.YthghggnlfnbbgabDoor.Keep Go.Proofs.YthghggnlfnbbgabDoor.Kept
set_option linter.unusedVariables false

set_option maxRecDepth 100000 in
set_option maxHeartbeats 2000000 in
theorem spec_pack (cs : List Value) (x : QueryD) (a : Option Addr) (cap : Nat) (ws : List RatD) (lo hi lo' hi' : Nat) (w : World) (hs : szQ x ≤ 1048576) (hn : ws.length ≤ 1048576) (h : rQuery w lo hi cs x) (h' : Els 2 rRat w lo' hi' a ws) (hh : hi ≤ w.heap.size) (hh' : hi' ≤ w.heap.size) :
    Calls Tryd.prog 6 #[.agg cs.toArray, .slice a ws.length cap] w fun e w' => e = .returned (.bool (pak x ws)) ∧ Below w.heap.size w w' := by
  obtain ⟨i0, hi0, hz0, hz1, hz2⟩ := info_parts infoRat
  obtain ⟨q, capq, o, capo, hcs, _, _, hqe, _⟩ := query_open h
  subst hcs
  have K := hid (hasl_new w [.int .i64 x.1, .slice q x.2.1.length capq, .slice o x.2.2.length capo] 32)
  have B1 := hid ((Below.refl w.heap.size w).alloc (Nat.le_refl _) (.cells #[.int .i64 x.1, .slice q x.2.1.length capq, .slice o x.2.2.length capo] 32))
  have HSA := hid (fun j (hj : j < x.2.1.length) => show x.2.1[j].2.length ≤ 1048576 by have := elem_le szA x.2.1 j hj; unfold szA at this; unfold szQ szA at hs; omega)
  obtain ⟨qv, hqv⟩ : ∃ z, vq x = z := ⟨_, rfl⟩
  have VQ := hid (fun W (hW : Below w.heap.size w W) => by
    have := spec_vq _ x lo hi W hs (good_query.keep h (sm_below hW hh)) (Nat.le_trans hh hW.size)
    rw [hqv] at this
    exact this)
  have HQE := hid (fun W (hW : Below w.heap.size w W) => hqe.grow good_atom hW hh)
  have HW := hid (fun W (hW : Below w.heap.size w W) => h'.grow good_rat hW hh')
  have HBD := hid (rats_bd h')
  have SM := hid (fun W (n : Int) (hW : Below w.heap.size w W) => spec_small a cap ws n lo' hi' W (by omega) (h'.grow good_rat hW hh') (Nat.le_trans hh' hW.size))
  have HQV := hid hqv
  clear h h' hqe hs hqv
  obtain ⟨q0, q1, q2, q3, q4, q5, q6⟩ := K.out.three
  go_enter Tryd.func6, Tryd.ntmps6
  go_wp2_with fail
  with_reducible refine (VQ.out _ B1.out).mono ?_
  rintro e w1 ⟨rfl, hb1⟩
  have HB := hid (B1.out.trans (hb1.mono B1.out.size))
  have KB := hid (K.out.below hb1)
  clear hb1 q0 q1 q2 q3 q4 q5 q6 B1 K
  obtain ⟨q0, q1, q2, q3, q4, q5, q6⟩ := KB.out.three
  cases qv with
  | false =>
    have HF := hid (pak_q (ws := ws) HQV.out)
    go_wp2
    go_ret
    exact ⟨by rw [HF.out]; rfl, HB.out⟩
  | true =>
    obtain ⟨z, hz⟩ : ∃ z, (adm ws && ((ws.length : Int) == x.1)) = z := ⟨_, rfl⟩
    have SM2 := hid (fun W hW => by have := SM.out W x.1 hW; rw [hz] at this; exact this)
    go_wp2_with fail
    with_reducible refine (SM2.out _ HB.out).mono ?_
    rintro e w2 ⟨rfl, hb2⟩
    replace HB := hid (HB.out.trans (hb2.mono HB.out.size))
    replace KB := hid (KB.out.below hb2)
    clear hb2 q0 q1 q2 q3 q4 q5 q6 SM SM2
    have HA := hid hz
    clear hz
    cases z with
    | false =>
      have HF := hid (pak_a (x := x) (ws := ws) HA.out)
      go_wp2
      go_ret
      exact ⟨by rw [HF.out]; rfl, HB.out⟩
    | true =>
      have hvb := vq_bd HQV.out
      have HLN := hid (adm_both HA.out).2
      go_wp2
      go_loopw [5, 6, 7, 8, 9] (fun i _ _ _ _ wr => ∃ k : Nat, k ≤ x.2.1.length ∧ i = .int .i64 k ∧ Hid (∀ j (h : j < x.2.1.length), j < k → leOne (sumQ (selA x.2.1[j].2 ws x.1.toNat)) = true) ∧ Hid (HasL wr w.heap.size [.int .i64 x.1, .slice q x.2.1.length capq, .slice o x.2.2.length capo]) ∧ Hid (Below w.heap.size w wr)) (fun i _ _ _ _ _ => x.2.1.length - (intOf i).toNat)
      case atStart => exact ⟨0, Nat.zero_le _, rfl, hid (fun v _ hv => by omega), KB, HB⟩
      case round =>
        obtain ⟨k, hk, rfl, hge, kk, hb⟩ := hrel
        clear KB HB
        obtain ⟨q0, q1, q2, q3, q4, q5, q6⟩ := kk.out.three
        by_cases hlt : k < x.2.1.length
        · have h0' : (0 : Int) ≤ (k : Int) := by omega
          have hltk : (k : Int) < (x.2.1.length : Int) := by omega
          have O0 := hid (ownR_lit wr (w.heap.size + 1) 47 (Nat.succ_le_of_lt kk.out.1))
          have K1 := hid (kk.out.alloc (.cells #[] 47))
          have B1 := hid (hb.out.alloc hb.out.size (.cells #[] 47))
          clear kk hb
          go_wp2
          clear q0 q1 q2 q3 q4 q5 q6
          go_loopw [6, 7] (fun v i wr => ∃ j : Nat, (j : Int) ≤ x.1 ∧ i = .int .i64 j ∧ OwnR wr (w.heap.size + 1) 47 v (selA x.2.1[k].2 ws j) ∧ Hid (HasL wr w.heap.size [.int .i64 x.1, .slice q x.2.1.length capq, .slice o x.2.2.length capo]) ∧ Hid (Below w.heap.size w wr) ∧ w.heap.size + 1 ≤ wr.heap.size) (fun _ i _ => (x.1 - intOf i).toNat)
          case atStart => exact ⟨0, by omega, rfl, O0.out, K1, B1, by have := K1.out.1; omega⟩
          case round =>
            obtain ⟨j, hj, rfl, hown, kk, hb, hsz⟩ := hrel
            clear O0 K1 B1
            by_cases hjx : (j : Int) < x.1
            · have hjl : j < ws.length := by have := HLN.out; omega
              obtain ⟨q0, q1, q2, q3, q4, q5, q6⟩ := kk.out.three
              obtain ⟨b, off, aj, capj, he, _, hbB, c0, c1, rx⟩ := atoms_at (HQE.out _ hb.out) k hlt
              subst he
              have hjl' : (j : Int) < (ws.length : Int) := by omega
              have h0j : (0 : Int) ≤ (j : Int) := by omega
              have C := hid (spec_has _ x.2.1[k] (j : Int) lo hi wr (HSA.out k hlt) rx (Nat.le_trans hh hb.out.size))
              have hsl := selA_len x.2.1[k].2 ws j
              clear rx
              cases hin : decide ((j : Int) ∈ x.2.1[k].2) with
              | true =>
                have HS := hid (selA_yes (ws := ws) j hjl hin)
                have C2 := hid (by have := C.out; rw [hin] at this; exact this)
                clear C hin
                go_wp2_with fail
                with_reducible refine C2.out.mono ?_
                rintro e w3 ⟨rfl, hb3⟩
                have HB3 := hid (hb.out.trans (hb3.mono hb.out.size))
                have K3 := hid (kk.out.below hb3)
                have HO := hown.below' hb3
                have hsz3 : w.heap.size + 1 ≤ w3.heap.size := Nat.le_trans hsz hb3.size
                clear hb3 q0 q1 q2 q3 q4 q5 q6 c0 c1 kk hb hown hsz
                obtain ⟨b2, off2, he, _, hbB2, d0, d1⟩ := rats_at (HW.out _ HB3.out) j hjl
                subst he
                go_wp2_with (at_builtin; refine append_rat rfl _ _ 34 rfl (w.heap.size + 1) 47 i0 Tryd.underlying34 hi0 hz0 hz1 hz2 w3 _ (selA x.2.1[k].2 ws j) ws[j] HO (by rfl) hsz3 (by rfl) (by omega) ?_)
                intro v1 w4 hown1 hbel1 hsz4
                have HB4 := hid (HB3.out.trans (hbel1.mono (by omega)))
                have K4 := hid (K3.out.under hbel1 (by omega))
                rw [← HS.out] at hown1
                clear HB3 K3 HO hsz3 hbel1 d0 d1
                go_wp2
                go_roundw
                case rel => exact ⟨j + 1, by omega, by go_num, hown1, K4, HB4, hsz4⟩
                case measure => simp [intOf]; omega
              | false =>
                have HS := hid (selA_no (ws := ws) j hin)
                have C2 := hid (by have := C.out; rw [hin] at this; exact this)
                clear C hin
                go_wp2_with fail
                with_reducible refine C2.out.mono ?_
                rintro e w3 ⟨rfl, hb3⟩
                have HB3 := hid (hb.out.trans (hb3.mono hb.out.size))
                have K3 := hid (kk.out.below hb3)
                have HO := hown.below' hb3
                have hsz3 : w.heap.size + 1 ≤ w3.heap.size := Nat.le_trans hsz hb3.size
                rw [← HS.out] at HO
                clear hb3 q0 q1 q2 q3 q4 q5 q6 c0 c1 kk hb hown hsz
                go_wp2
                go_roundw
                case rel => exact ⟨j + 1, by omega, by go_num, HO, K3, HB3, hsz3⟩
                case measure => simp [intOf]; omega
            · have ej : j = x.1.toNat := by omega
              obtain ⟨q0, q1, q2, q3, q4, q5, q6⟩ := kk.out.three
              have hown2 : OwnR wr (w.heap.size + 1) 47 _ (selA x.2.1[k].2 ws x.1.toNat) := ej ▸ hown
              obtain ⟨al, capl, rfl, hel⟩ := hown2.els (selA_bd HBD.out)
              have hsl := selA_len x.2.1[k].2 ws x.1.toNat
              have SU := hid (spec_sum al capl (selA x.2.1[k].2 ws x.1.toNat) _ _ wr (by omega) hel (Nat.le_refl _))
              clear hown hown2 hel ej
              go_wp2_with fail
              with_reducible refine SU.out.mono ?_
              rintro e w5 ⟨rfl, hb5⟩
              have HB5 := hid (hb.out.trans (hb5.mono hb.out.size))
              have K5 := hid (kk.out.below hb5)
              have hz5 := HB5.out.size
              clear hb5 SU kk hb q0 q1 q2 q3 q4 q5 q6
              rw [endQ_any]
              obtain ⟨O, hO⟩ : ∃ O, sumQ (selA x.2.1[k].2 ws x.1.toNat) = O := ⟨_, rfl⟩
              rw [hO]
              have HVR := hid (fun (e : okQ O = true) => by have := sumQ_fst (xs := selA x.2.1[k].2 ws x.1.toNat) (by rw [hO]; exact e); rw [hO] at this; exact this)
              have HO := hid hO
              have hgn := hid (leOne_no (o := O))
              have hgi := hid (fun s => leOne_is (o := O) (s := s))
              generalize fstQ O = X at *
              generalize sndQ O = Y at *
              obtain ⟨ok, hok⟩ : ∃ ok, okQ O = ok := ⟨_, rfl⟩
              rw [hok]
              clear hO
              have KN := hid (hasl_new w5 [.int .i64 X, .int .i64 Y] 47)
              have K6 := hid (K5.out.alloc (.cells #[.int .i64 X, .int .i64 Y] 47))
              have HB6 := hid (HB5.out.alloc hz5 (.cells #[.int .i64 X, .int .i64 Y] 47))
              cases ok with
              | false =>
                have HG := hid (hgn.out hok)
                have HF := hid (pak_b HQV.out HA.out (pakB_no k hlt (by rw [HO.out]; exact HG.out)))
                clear HVR hgn hgi hok
                go_wp2
                go_ret
                exact ⟨by rw [HF.out]; rfl, HB6.out⟩
              | true =>
                have hv := HVR.out hok
                have CM := hid (fun W => spec_cmp_yes X Y 1 1 W hv one_vr)
                obtain ⟨s, hs⟩ : ∃ s, sgn (X * 1) (1 * Y) = s := ⟨_, rfl⟩
                rw [hs] at CM
                have HGI := hid (hgi.out s hok hs)
                clear HVR hgn hgi hok hs hv
                obtain ⟨n0, n1, n2, n3, n4⟩ := KN.out.two
                have hsz6 : (w5.alloc (.cells #[.int .i64 X, .int .i64 Y] 47)).heap.size = w5.heap.size + 1 := by simp
                go_wp2_with fail
                with_reducible refine (CM.out _).mono ?_
                rintro e w6 ⟨rfl, hb6⟩
                have HB7 := hid (HB6.out.trans (hb6.mono HB6.out.size))
                have K7 := hid (K6.out.below hb6)
                clear hb6 n0 n1 n2 n3 n4
                by_cases hsn : 0 < s
                · have HG := hid (show leOne O = false by rw [HGI.out]; simp; omega)
                  have HF := hid (pak_b HQV.out HA.out (pakB_no k hlt (by rw [HO.out]; exact HG.out)))
                  clear HGI
                  go_wp2
                  go_ret
                  exact ⟨by rw [HF.out]; rfl, HB7.out⟩
                · have HG := hid (show leOne O = true by rw [HGI.out]; simp; omega)
                  have HGE := hid (fun v (hvl : v < x.2.1.length) (hv : v < k + 1) => show leOne (sumQ (selA x.2.1[v].2 ws x.1.toNat)) = true by
                    by_cases e : v = k
                    · subst e; rw [HO.out]; exact HG.out
                    · exact hge.out v hvl (by omega))
                  clear HGI hge
                  go_wp2
                  go_roundw
                  case rel => exact ⟨k + 1, by omega, by go_num, HGE, K7, HB7⟩
                  case measure => simp [intOf]; omega
        · have HF := hid (pak_b HQV.out HA.out (pakB_yes (fun v hv => hge.out v hv (by omega))))
          go_wp2
          go_ret
          exact ⟨by rw [HF.out]; rfl, hb.out⟩
end Go.Proofs.YthghggnlfnbbgabDoor.PakS
