/- How many atoms of a query hold a variable: the model's function and the program's. -/
import Derived.Test.YtehbkgmpnkmgjaaDoorQryVI
import Derived.Test.YtehbkgmpnkmgjaaDoorQryVS
namespace Go.Proofs.YtehbkgmpnkmgjaaDoor.VDeg
open Go.RowKit
open Go.Proofs.YtehbkgmpnkmgjaaDoor.Num Go.Proofs.YtehbkgmpnkmgjaaDoor.IntRow Go.Proofs.YtehbkgmpnkmgjaaDoor.Rdr Go.Proofs.YtehbkgmpnkmgjaaDoor.Dat Go.Proofs.YtehbkgmpnkmgjaaDoor.HasL Go.Proofs.YtehbkgmpnkmgjaaDoor.VarIn Go.Proofs.YtehbkgmpnkmgjaaDoor.QryP Go.Proofs.YtehbkgmpnkmgjaaDoor.QryVI Go.Proofs.YtehbkgmpnkmgjaaDoor.QryVS
set_option linter.unusedVariables false

/-- Among the first k atoms. -/
def dg (us : List AtomD) (v : Int) (k : Nat) : Nat := ((us.take k).filter (fun a => decide (v ∈ a.2))).length
theorem dg_le (us : List AtomD) (v : Int) (k : Nat) : dg us v k ≤ k := by
  unfold dg
  have h1 := List.length_filter_le (fun a : AtomD => decide (v ∈ a.2)) (us.take k)
  have h2 : (us.take k).length ≤ k := by simp; omega
  omega
theorem dg_yes {us : List AtomD} {v : Int} (k : Nat) (h : k < us.length) (e : decide (v ∈ us[k].2) = true) : dg us v (k + 1) = dg us v k + 1 := by
  unfold dg
  rw [List.take_succ_eq_append_getElem h, List.filter_append, List.length_append, List.filter_cons, if_pos e]
  rfl
theorem dg_no {us : List AtomD} {v : Int} (k : Nat) (h : k < us.length) (e : decide (v ∈ us[k].2) = false) : dg us v (k + 1) = dg us v k := by
  unfold dg
  rw [List.take_succ_eq_append_getElem h, List.filter_append, List.length_append, List.filter_cons, if_neg (by rw [e]; decide)]
  rfl
def dgV (x : QueryD) (v : Int) : Nat := if vq x = true then dg x.2.1 v x.2.1.length else 0
theorem dgV_yes {x : QueryD} {v : Int} (h : vq x = true) : dgV x v = dg x.2.1 v x.2.1.length := if_pos h
theorem dgV_no {x : QueryD} {v : Int} (h : vq x = false) : dgV x v = 0 := if_neg (by rw [h]; decide)

set_option maxRecDepth 100000 in
theorem spec_deg (cs : List Value) (x : QueryD) (v : Int) (lo hi : Nat) (w : World) (hs : szQ x ≤ 1048576) (h : rQuery w lo hi cs x) (hh : hi ≤ w.heap.size) :
    Calls Tryd.prog 58 #[.agg cs.toArray, .int .i64 v] w fun e w' => e = .returned (.int .i64 (dgV x v)) ∧ Below w.heap.size w w' := by
  obtain ⟨q, capq, o, capo, hcs, _, _, hqe, _⟩ := query_open h
  subst hcs
  have K := hid (hasl_new w [.int .i64 x.1, .slice q x.2.1.length capq, .slice o x.2.2.length capo] 30)
  have B1 := hid ((Below.refl w.heap.size w).alloc (Nat.le_refl _) (.cells #[.int .i64 x.1, .slice q x.2.1.length capq, .slice o x.2.2.length capo] 30))
  have hn2 : x.2.1.length ≤ 1048576 := by have := tots_len szA x.2.1; unfold szQ at hs; omega
  have HSA := hid (fun j (hj : j < x.2.1.length) => show x.2.1[j].2.length ≤ 1048576 by have := elem_le szA x.2.1 j hj; unfold szA at this; unfold szQ szA at hs; omega)
  obtain ⟨qv, hqv⟩ : ∃ z, vq x = z := ⟨_, rfl⟩
  have VQ := hid (fun W (hW : Below w.heap.size w W) => by
    have := spec_vq _ x lo hi W hs (good_query.keep h (sm_below hW hh)) (Nat.le_trans hh hW.size)
    rw [hqv] at this
    exact this)
  have HQV := hid hqv
  have HQE := hid hqe
  clear h hqe hs hqv
  go_enter Tryd.func58, Tryd.ntmps58
  go_wp2
  go_loopw [5, 6] (fun s i wr => ∃ k m : Nat, k ≤ x.2.1.length ∧ i = .int .i64 k ∧ s = .int .i64 m ∧ m ≤ k ∧ Hid (qv = true → dg x.2.1 v k = m) ∧ Hid (qv = false → m = 0) ∧ Hid (HasL wr w.heap.size [.int .i64 x.1, .slice q x.2.1.length capq, .slice o x.2.2.length capo]) ∧ Hid (Below w.heap.size w wr)) (fun _ i _ => x.2.1.length - (intOf i).toNat)
  case atStart => exact ⟨0, 0, Nat.zero_le _, rfl, rfl, Nat.le_refl _, hid (fun _ => rfl), hid (fun _ => rfl), K, B1⟩
  case round =>
    obtain ⟨k, m, hk, rfl, rfl, hmk, hm1, hm2, kk, hb⟩ := hrel
    obtain ⟨q0, q1, q2, _, _, _, q6⟩ := kk.out.three
    by_cases hlt : k < x.2.1.length
    · have hlt' : (k : Int) < (x.2.1.length : Int) := by omega
      have h0' : (0 : Int) ≤ (k : Int) := by omega
      go_wp2_with fail
      with_reducible refine (VQ.out _ hb.out).mono ?_
      rintro e w1 ⟨rfl, hb1⟩
      have HB := hid (hb.out.trans (hb1.mono hb.out.size))
      have KB := hid (kk.out.below hb1)
      clear hb1 q0 q1 q2 q6
      obtain ⟨q0, q1, q2, _, _, _, q6⟩ := KB.out.three
      cases qv with
      | false =>
        have hm0 : m = 0 := hm2.out rfl
        subst hm0
        have HF := hid (dgV_no (v := v) HQV.out)
        go_wp2
        go_ret
        exact ⟨by rw [HF.out]; rfl, HB.out⟩
      | true =>
        have hmv := hid (hm1.out rfl)
        clear hm1 hm2
        obtain ⟨b, off, aj, capj, he, _, hbB, c0, c1, rx⟩ := atoms_at (HQE.out.grow good_atom HB.out hh) k hlt
        subst he
        have C := hid (spec_has _ x.2.1[k] v lo hi w1 (HSA.out k hlt) rx (Nat.le_trans hh HB.out.size))
        clear rx
        cases hin : decide (v ∈ x.2.1[k].2) with
        | true =>
          have HS := hid (dg_yes k hlt hin)
          have C2 := hid (by have := C.out; rw [hin] at this; exact this)
          clear C hin
          go_wp2_with fail
          with_reducible refine C2.out.mono ?_
          rintro e w2 ⟨rfl, hb2⟩
          have HB2 := hid (HB.out.trans (hb2.mono HB.out.size))
          have KB2 := hid (KB.out.below hb2)
          clear hb2 q0 q1 q2 q6 c0 c1
          go_wp2
          go_roundw
          case rel => exact ⟨k + 1, m + 1, by omega, by go_num, by go_num, by omega, hid (fun _ => by rw [HS.out, hmv.out]), hid (fun h => by cases h), KB2, HB2⟩
          case measure => simp [intOf]; omega
        | false =>
          have HS := hid (dg_no k hlt hin)
          have C2 := hid (by have := C.out; rw [hin] at this; exact this)
          clear C hin
          go_wp2_with fail
          with_reducible refine C2.out.mono ?_
          rintro e w2 ⟨rfl, hb2⟩
          have HB2 := hid (HB.out.trans (hb2.mono HB.out.size))
          have KB2 := hid (KB.out.below hb2)
          clear hb2 q0 q1 q2 q6 c0 c1
          go_wp2
          go_roundw
          case rel => exact ⟨k + 1, m, by omega, by go_num, rfl, by omega, hid (fun _ => by rw [HS.out, hmv.out]), hid (fun h => by cases h), KB2, HB2⟩
          case measure => simp [intOf]; omega
    · have hlt' : ¬ (k : Int) < (x.2.1.length : Int) := by omega
      have HF := hid (show (m : Int) = dgV x v by
        cases qv with
        | false => rw [dgV_no HQV.out, hm2.out rfl]
        | true => rw [dgV_yes HQV.out, ← hm1.out rfl]; congr 2; omega)
      go_wp2
      go_ret
      exact ⟨by rw [← HF.out]; rfl, hb.out⟩

set_option maxRecDepth 100000 in
theorem impl_deg (cs : List Value) (x : QueryD) (v : Int) (lo hi : Nat) (w : World) (hs : szQ x ≤ 1048576) (h : rQuery w lo hi cs x) (hh : hi ≤ w.heap.size) :
    Calls Tryd.prog 39 #[.agg cs.toArray, .int .i64 v] w fun e w' => e = .returned (.int .i64 (dgV x v)) ∧ Below w.heap.size w w' := by
  obtain ⟨q, capq, o, capo, hcs, _, _, hqe, _⟩ := query_open h
  subst hcs
  have K := hid (hasl_new w [.int .i64 x.1, .slice q x.2.1.length capq, .slice o x.2.2.length capo] 30)
  have B1 := hid ((Below.refl w.heap.size w).alloc (Nat.le_refl _) (.cells #[.int .i64 x.1, .slice q x.2.1.length capq, .slice o x.2.2.length capo] 30))
  have hn2 : x.2.1.length ≤ 1048576 := by have := tots_len szA x.2.1; unfold szQ at hs; omega
  have HSA := hid (fun j (hj : j < x.2.1.length) => show x.2.1[j].2.length ≤ 1048576 by have := elem_le szA x.2.1 j hj; unfold szA at this; unfold szQ szA at hs; omega)
  obtain ⟨qv, hqv⟩ : ∃ z, vq x = z := ⟨_, rfl⟩
  have VQ := hid (fun W (hW : Below w.heap.size w W) => by
    have := impl_vq _ x lo hi W hs (good_query.keep h (sm_below hW hh)) (Nat.le_trans hh hW.size)
    rw [hqv] at this
    exact this)
  have HQV := hid hqv
  have HQE := hid hqe
  clear h hqe hs hqv
  go_enter Tryd.func39, Tryd.ntmps39
  obtain ⟨q0, q1, q2, _, _, _, q6⟩ := K.out.three
  go_wp2_with fail
  with_reducible refine (VQ.out _ B1.out).mono ?_
  rintro e w1 ⟨rfl, hb1⟩
  have HB := hid (B1.out.trans (hb1.mono B1.out.size))
  have KB := hid (K.out.below hb1)
  clear hb1 q0 q1 q2 q6
  cases qv with
  | false =>
    have HF := hid (dgV_no (v := v) HQV.out)
    go_wp2
    go_ret
    exact ⟨by rw [HF.out]; rfl, HB.out⟩
  | true =>
    have HF := hid (dgV_yes (v := v) HQV.out)
    obtain ⟨q0, q1, q2, _, _, _, q6⟩ := KB.out.three
    go_wp2
    clear q0 q1 q2 q6
    go_loopw [5, 7, 14] (fun s _ i wr => ∃ k m : Nat, k ≤ x.2.1.length ∧ i = .int .i64 k ∧ s = .int .i64 m ∧ m ≤ k ∧ Hid (dg x.2.1 v k = m) ∧ Hid (Below w.heap.size w wr)) (fun _ _ i _ => x.2.1.length - (intOf i).toNat)
    case atStart => exact ⟨0, 0, Nat.zero_le _, rfl, rfl, Nat.le_refl _, hid rfl, HB⟩
    case round =>
      obtain ⟨k, m, hk, rfl, rfl, hmk, hm1, hb⟩ := hrel
      by_cases hlt : k < x.2.1.length
      · have hlt' : (k : Int) < (x.2.1.length : Int) := by omega
        have h0' : (0 : Int) ≤ (k : Int) := by omega
        obtain ⟨b, off, aj, capj, he, _, hbB, c0, c1, rx⟩ := atoms_at (HQE.out.grow good_atom hb.out hh) k hlt
        subst he
        have hsz := hb.out.size
        have B2 := hid ((Below.refl wr.heap.size wr).alloc (Nat.le_refl _) (.cells #[.string x.2.1[k].1, .slice aj x.2.1[k].2.length capj] 46))
        have HB2 := hid (hb.out.trans (B2.out.mono hsz))
        have C := hid (impl_has _ x.2.1[k] v lo hi _ (HSA.out k hlt) (good_atom.keep rx (sm_below B2.out (by omega))) (by simp; omega))
        clear rx
        cases hin : decide (v ∈ x.2.1[k].2) with
        | true =>
          have HS := hid (dg_yes k hlt hin)
          have C2 := hid (by have := C.out; rw [hin] at this; exact this)
          clear C hin
          go_wp2_with fail
          with_reducible refine C2.out.mono ?_
          rintro e w2 ⟨rfl, hb2⟩
          have HB3 := hid (HB2.out.trans (hb2.mono (by simp; omega)))
          clear hb2 c0 c1
          go_wp2
          go_roundw
          case rel => exact ⟨k + 1, m + 1, by omega, by go_num, by go_num, by omega, hid (by rw [HS.out, hm1.out]), HB3⟩
          case measure => simp [intOf]; omega
        | false =>
          have HS := hid (dg_no k hlt hin)
          have C2 := hid (by have := C.out; rw [hin] at this; exact this)
          clear C hin
          go_wp2_with fail
          with_reducible refine C2.out.mono ?_
          rintro e w2 ⟨rfl, hb2⟩
          have HB3 := hid (HB2.out.trans (hb2.mono (by simp; omega)))
          clear hb2 c0 c1
          go_wp2
          go_roundw
          case rel => exact ⟨k + 1, m, by omega, by go_num, rfl, by omega, hid (by rw [HS.out, hm1.out]), HB3⟩
          case measure => simp [intOf]; omega
      · have hlt' : ¬ (k : Int) < (x.2.1.length : Int) := by omega
        have HG := hid (show (m : Int) = dgV x v by rw [HF.out, ← hm1.out]; congr 2; omega)
        go_wp2
        go_ret
        exact ⟨by rw [← HG.out]; rfl, hb.out⟩
end Go.Proofs.YtehbkgmpnkmgjaaDoor.VDeg
