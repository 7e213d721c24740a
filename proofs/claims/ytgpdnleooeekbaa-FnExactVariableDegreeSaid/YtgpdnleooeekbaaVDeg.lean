/- How many atoms of a query hold a variable: the model's function and the program's. -/
import Derived.Test.YtgpdnleooeekbaaQryVI
import Derived.Test.YtgpdnleooeekbaaQryVS
import Derived.Test.YtgpdnleooeekbaaAwv
namespace Go.Proofs.Ytgpdnleooeekbaa.VDeg
open Go.RowKit
open Go.Proofs.Ytgpdnleooeekbaa.Num Go.Proofs.Ytgpdnleooeekbaa.IntRow Go.Proofs.Ytgpdnleooeekbaa.Rdr Go.Proofs.Ytgpdnleooeekbaa.Dat Go.Proofs.Ytgpdnleooeekbaa.HasL Go.Proofs.Ytgpdnleooeekbaa.VarIn Go.Proofs.Ytgpdnleooeekbaa.QryP Go.Proofs.Ytgpdnleooeekbaa.QryVI Go.Proofs.Ytgpdnleooeekbaa.QryVS Go.Proofs.Ytgpdnleooeekbaa.CovP Go.Proofs.Ytgpdnleooeekbaa.Awv
set_option linter.unusedVariables false

/-- Among the first k atoms. -/
def dg (us : List AtomD) (v : Int) (k : Nat) : Nat := ((us.take k).filter (fun a => decide (v ∈ a.2))).length
theorem dg_le (us : List AtomD) (v : Int) (k : Nat) : dg us v k ≤ k := by
  unfold dg
  have h1 := List.length_filter_le (fun a : AtomD => decide (v ∈ a.2)) (us.take k)
  have h2 : (us.take k).length ≤ k := by simp; omega
  omega
theorem dg_yes {us : List AtomD} {v : Int} (k : Nat) (h : k < us.length) (e : decide (v ∈ us[k].2) = true) : dg us v (k + 1) = dg us v k + 1 := by
  unfold dg
  rw [List.take_succ_eq_append_getElem h, List.filter_append, List.length_append, List.filter_cons, if_pos e]
  rfl
theorem dg_no {us : List AtomD} {v : Int} (k : Nat) (h : k < us.length) (e : decide (v ∈ us[k].2) = false) : dg us v (k + 1) = dg us v k := by
  unfold dg
  rw [List.take_succ_eq_append_getElem h, List.filter_append, List.length_append, List.filter_cons, if_neg (by rw [e]; decide)]
  rfl
def dgV (x : QueryD) (v : Int) : Nat := if vq x = true then dg x.2.1 v x.2.1.length else 0
theorem dgV_yes {x : QueryD} {v : Int} (h : vq x = true) : dgV x v = dg x.2.1 v x.2.1.length := if_pos h
theorem dgV_no {x : QueryD} {v : Int} (h : vq x = false) : dgV x v = 0 := if_neg (by rw [h]; decide)

set_option maxRecDepth 100000 in
theorem spec_deg (cs : List Value) (x : QueryD) (v : Int) (lo hi : Nat) (w : World) (hs : szQ x ≤ 1048576) (h : rQuery w lo hi cs x) (hh : hi ≤ w.heap.size) :
    Calls Try.prog 18 #[.agg cs.toArray, .int .i64 v] w fun e w' => e = .returned (.int .i64 (dgV x v)) ∧ Below w.heap.size w w' := by
  obtain ⟨q, capq, o, capo, hcs, _, _, hqe, _⟩ := query_open h
  subst hcs
  have K := hid (hasl_new w [.int .i64 x.1, .slice q x.2.1.length capq, .slice o x.2.2.length capo] 42)
  have B1 := hid ((Below.refl w.heap.size w).alloc (Nat.le_refl _) (.cells #[.int .i64 x.1, .slice q x.2.1.length capq, .slice o x.2.2.length capo] 42))
  have hn2 : x.2.1.length ≤ 1048576 := by have := tots_len szA x.2.1; unfold szQ at hs; omega
  have HSA := hid (fun j (hj : j < x.2.1.length) => show x.2.1[j].2.length ≤ 1048576 by have := elem_le szA x.2.1 j hj; unfold szA at this; unfold szQ szA at hs; omega)
  obtain ⟨qv, hqv⟩ : ∃ z, vq x = z := ⟨_, rfl⟩
  have VQ := hid (fun W (hW : Below w.heap.size w W) => by
    have := spec_vq _ x lo hi W hs (good_query.keep h (sm_below hW hh)) (Nat.le_trans hh hW.size)
    rw [hqv] at this
    exact this)
  have HQV := hid hqv
  have HQE := hid hqe
  clear h hqe hs hqv
  go_enter Try.func18, Try.ntmps18
  go_wp2
  go_loopw [5, 6] (fun s i wr => ∃ k m : Nat, k ≤ x.2.1.length ∧ i = .int .i64 k ∧ s = .int .i64 m ∧ m ≤ k ∧ Hid (qv = true → dg x.2.1 v k = m) ∧ Hid (qv = false → m = 0) ∧ Hid (HasL wr w.heap.size [.int .i64 x.1, .slice q x.2.1.length capq, .slice o x.2.2.length capo]) ∧ Hid (Below w.heap.size w wr)) (fun _ i _ => x.2.1.length - (intOf i).toNat)
  case atStart => exact ⟨0, 0, Nat.zero_le _, rfl, rfl, Nat.le_refl _, hid (fun _ => rfl), hid (fun _ => rfl), K, B1⟩
  case round =>
    obtain ⟨k, m, hk, rfl, rfl, hmk, hm1, hm2, kk, hb⟩ := hrel
    obtain ⟨q0, q1, q2, _, _, _, q6⟩ := kk.out.three
    by_cases hlt : k < x.2.1.length
    · have hlt' : (k : Int) < (x.2.1.length : Int) := by omega
      have h0' : (0 : Int) ≤ (k : Int) := by omega
      go_wp2_with fail
      with_reducible refine (VQ.out _ hb.out).mono ?_
      rintro e w1 ⟨rfl, hb1⟩
      have HB := hid (hb.out.trans (hb1.mono hb.out.size))
      have KB := hid (kk.out.below hb1)
      clear hb1 q0 q1 q2 q6
      obtain ⟨q0, q1, q2, _, _, _, q6⟩ := KB.out.three
      cases qv with
      | false =>
        have hm0 : m = 0 := hm2.out rfl
        subst hm0
        have HF := hid (dgV_no (v := v) HQV.out)
        go_wp2
        go_ret
        exact ⟨by rw [HF.out]; rfl, HB.out⟩
      | true =>
        have hmv := hid (hm1.out rfl)
        clear hm1 hm2
        obtain ⟨b, off, aj, capj, he, _, hbB, c0, c1, rx⟩ := atoms_at (HQE.out.grow good_atom HB.out hh) k hlt
        subst he
        have C := hid (spec_has _ x.2.1[k] v lo hi w1 (HSA.out k hlt) rx (Nat.le_trans hh HB.out.size))
        clear rx
        cases hin : decide (v ∈ x.2.1[k].2) with
        | true =>
          have HS := hid (dg_yes k hlt hin)
          have C2 := hid (by have := C.out; rw [hin] at this; exact this)
          clear C hin
          go_wp2_with fail
          with_reducible refine C2.out.mono ?_
          rintro e w2 ⟨rfl, hb2⟩
          have HB2 := hid (HB.out.trans (hb2.mono HB.out.size))
          have KB2 := hid (KB.out.below hb2)
          clear hb2 q0 q1 q2 q6 c0 c1
          go_wp2
          go_roundw
          case rel => exact ⟨k + 1, m + 1, by omega, by go_num, by go_num, by omega, hid (fun _ => by rw [HS.out, hmv.out]), hid (fun h => by cases h), KB2, HB2⟩
          case measure => simp [intOf]; omega
        | false =>
          have HS := hid (dg_no k hlt hin)
          have C2 := hid (by have := C.out; rw [hin] at this; exact this)
          clear C hin
          go_wp2_with fail
          with_reducible refine C2.out.mono ?_
          rintro e w2 ⟨rfl, hb2⟩
          have HB2 := hid (HB.out.trans (hb2.mono HB.out.size))
          have KB2 := hid (KB.out.below hb2)
          clear hb2 q0 q1 q2 q6 c0 c1
          go_wp2
          go_roundw
          case rel => exact ⟨k + 1, m, by omega, by go_num, rfl, by omega, hid (fun _ => by rw [HS.out, hmv.out]), hid (fun h => by cases h), KB2, HB2⟩
          case measure => simp [intOf]; omega
    · have hlt' : ¬ (k : Int) < (x.2.1.length : Int) := by omega
      have HF := hid (show (m : Int) = dgV x v by
        cases qv with
        | false => rw [dgV_no HQV.out, hm2.out rfl]
        | true => rw [dgV_yes HQV.out, ← hm1.out rfl]; congr 2; omega)
      go_wp2
      go_ret
      exact ⟨by rw [← HF.out]; rfl, hb.out⟩

/-- The degree is the number of indices. -/
theorem idx_dg (us : List AtomD) (v : Int) (k : Nat) (h : k ≤ us.length) : (idx us v k).length = dg us v k := by
  induction k with
  | zero => rfl
  | succ k ih =>
    cases e : decide (v ∈ (us[k]'(by omega)).2) with
    | true => rw [idx_yes k (by omega) e, dg_yes k (by omega) e, List.length_append, ih (by omega)]; rfl
    | false => rw [idx_no k (by omega) e, dg_no k (by omega) e, ih (by omega)]

set_option maxRecDepth 100000 in
theorem impl_deg (cs : List Value) (x : QueryD) (v : Int) (lo hi : Nat) (w : World) (hs : szQ x ≤ 1048576) (h : rQuery w lo hi cs x) (hh : hi ≤ w.heap.size) :
    Calls Try.prog 20 #[.agg cs.toArray, .int .i64 v] w fun e w' => e = .returned (.int .i64 (dgV x v)) ∧ Below w.heap.size w w' := by
  obtain ⟨q, capq, o, capo, hcs, _, _, hqe, _⟩ := query_open h
  subst hcs
  have K := hid (hasl_new w [.int .i64 x.1, .slice q x.2.1.length capq, .slice o x.2.2.length capo] 42)
  have B1 := hid ((Below.refl w.heap.size w).alloc (Nat.le_refl _) (.cells #[.int .i64 x.1, .slice q x.2.1.length capq, .slice o x.2.2.length capo] 42))
  obtain ⟨qv, hqv⟩ : ∃ z, vq x = z := ⟨_, rfl⟩
  have VQ := hid (fun W (hW : Below w.heap.size w W) => by
    have := impl_vq _ x lo hi W hs (good_query.keep h (sm_below hW hh)) (Nat.le_trans hh hW.size)
    rw [hqv] at this
    exact this)
  have RQ := hid (fun W (hW : Below w.heap.size w W) => impl_idx _ x v lo hi W hs (good_query.keep h (sm_below hW hh)) (Nat.le_trans hh hW.size))
  have HQV := hid hqv
  clear h hqe hs hqv
  go_enter Try.func20, Try.ntmps20
  obtain ⟨q0, q1, q2, _, _, _, q6⟩ := K.out.three
  go_wp2_with fail
  with_reducible refine (VQ.out _ B1.out).mono ?_
  rintro e w1 ⟨rfl, hb1⟩
  have HB := hid (B1.out.trans (hb1.mono B1.out.size))
  have KB := hid (K.out.below hb1)
  clear hb1 q0 q1 q2 q6
  cases qv with
  | false =>
    have HF := hid (dgV_no (v := v) HQV.out)
    go_wp2
    go_ret
    exact ⟨by rw [HF.out]; rfl, HB.out⟩
  | true =>
    have HF := hid (dgV_yes (v := v) HQV.out)
    have HI := hid (idx_dg x.2.1 v x.2.1.length (Nat.le_refl _))
    obtain ⟨q0, q1, q2, _, _, _, q6⟩ := KB.out.three
    go_wp2_with fail
    with_reducible refine (RQ.out _ HB.out).mono ?_
    rintro e w2 ⟨ai, capi, rfl, _, hb2⟩
    have HB2 := hid (HB.out.trans (hb2.mono HB.out.size))
    clear hb2 q0 q1 q2 q6
    go_wp2
    go_ret
    exact ⟨by rw [HF.out, ← HI.out]; rfl, HB2.out⟩
end Go.Proofs.Ytgpdnleooeekbaa.VDeg
