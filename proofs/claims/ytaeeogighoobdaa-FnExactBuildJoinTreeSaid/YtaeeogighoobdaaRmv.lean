/- RemovableAtoms, the model's and the program's. -/
import Derived.Test.YtaeeogighoobdaaGyoT
namespace Go.Proofs.Ytaeeogighoobdaa.Rmv
open Go.RowKit
open Go.Proofs.Ytaeeogighoobdaa.VarName Go.Proofs.Ytaeeogighoobdaa.Num Go.Proofs.Ytaeeogighoobdaa.IntRow Go.Proofs.Ytaeeogighoobdaa.IntLaw Go.Proofs.Ytaeeogighoobdaa.Rdr Go.Proofs.Ytaeeogighoobdaa.Dat Go.Proofs.Ytaeeogighoobdaa.HasL Go.Proofs.Ytaeeogighoobdaa.VarIn Go.Proofs.Ytaeeogighoobdaa.SetV Go.Proofs.Ytaeeogighoobdaa.SetJ Go.Proofs.Ytaeeogighoobdaa.QryP Go.Proofs.Ytaeeogighoobdaa.QryVI Go.Proofs.Ytaeeogighoobdaa.QryVS Go.Proofs.Ytaeeogighoobdaa.Gyo Go.Proofs.Ytaeeogighoobdaa.GyoI Go.Proofs.Ytaeeogighoobdaa.GyoR Go.Proofs.Ytaeeogighoobdaa.GyoS Go.Proofs.Ytaeeogighoobdaa.GyoT
set_option linter.unusedVariables false

/-- A valid query's number of atoms. -/
theorem vq_atoms {x : QueryD} (h : vq x = true) : 1 ≤ x.2.1.length ∧ x.2.1.length ≤ 4 := by
  unfold vq at h
  simp only [Bool.and_eq_true] at h
  obtain ⟨_, h2, _, _⟩ := h
  unfold okAs at h2
  simp only [Bool.and_eq_true] at h2
  have := h2.1
  unfold inR at this
  simp at this
  omega
theorem inv_gyo (us : List AtomD) : Inv us (gyo us) := by
  have key : ∀ f S, Inv us S → S.left.count true ≤ f → Inv us (Gyo.fin us f S) := by
    intro f
    induction f with
    | zero => intro S h _; exact h
    | succ f ih =>
      intro S h hf
      cases hs : stp us S with
      | none => rw [fin_none _ hs]; exact h
      | some S' =>
        rw [fin_some _ hs]
        cases h1 : ear us S.left with
        | none => rw [stp_no h1] at hs; cases hs
        | some i =>
          cases h2 : earK us S.left i with
          | none => rw [stp, h1] at hs; simp only [h2] at hs; cases hs
          | some k =>
            have e := stp_of h1 h2
            rw [e] at hs
            have e2 := Option.some.inj hs
            subst e2
            obtain ⟨hi, hc⟩ := h.step (ear_lt h1) (earK_ok h2) e
            exact ih _ hi (by show (S.left.set i false).count true ≤ f; omega)
  exact key us.length (S0 us.length) (inv_zero us) (by simp [S0])
theorem out_len (us : List AtomD) : (gyo us).out.length ≤ us.length := by have := (inv_gyo us).cnt; omega
def rmv (x : QueryD) : List Int := if vq x = true then (gyo x.2.1).out else []
theorem rmv_no {x : QueryD} (h : vq x = false) : rmv x = [] := if_neg (by rw [h]; decide)
theorem rmv_yes {x : QueryD} (h : vq x = true) : rmv x = (gyo x.2.1).out := if_pos h
theorem rmv_len (x : QueryD) : (rmv x).length ≤ 4 := by
  cases h : vq x with
  | false => rw [rmv_no h]; simp
  | true => rw [rmv_yes h]; exact Nat.le_trans (out_len _) (vq_atoms h).2
def Rm1 (x : QueryD) (w : World) (e : Ending) (w' : World) : Prop := ∃ a cap, e = .returned (.slice a (rmv x).length cap) ∧ Own w' w.heap.size 3 (.slice a (rmv x).length cap) (rmv x) ∧ Below w.heap.size w w'

set_option maxRecDepth 100000 in
theorem spec_rmv (cs : List Value) (x : QueryD) (lo hi : Nat) (w : World) (hs : szQ x ≤ 1048576) (h : rQuery w lo hi cs x) (hh : hi ≤ w.heap.size) :
    Calls Try.prog 11 #[.agg cs.toArray] w (Rm1 x w) := by
  obtain ⟨q, capq, o, capo, hcs, _, _, hqe, _⟩ := query_open h
  subst hcs
  have K := hid (hasl_new w [.int .i64 x.1, .slice q x.2.1.length capq, .slice o x.2.2.length capo] 30)
  have B1 := hid ((Below.refl w.heap.size w).alloc (Nat.le_refl _) (.cells #[.int .i64 x.1, .slice q x.2.1.length capq, .slice o x.2.2.length capo] 30))
  obtain ⟨qv, hqv⟩ : ∃ z, vq x = z := ⟨_, rfl⟩
  have VQ := hid (fun W (hW : Below w.heap.size w W) => by
    have := spec_vq _ x lo hi W hs (good_query.keep h (sm_below hW hh)) (Nat.le_trans hh hW.size)
    rw [hqv] at this
    exact this)
  have HQ := hid (fun W (hW : Below w.heap.size w W) => good_query.keep h (sm_below hW hh))
  have HS := hid hs
  have HQV := hid hqv
  clear h hqe hs hqv
  go_enter Try.func11, Try.ntmps11
  obtain ⟨q0, q1, q2, _, _, _, q6⟩ := K.out.three
  go_wp2_with fail
  with_reducible refine (VQ.out _ B1.out).mono ?_
  rintro e w1 ⟨rfl, hb1⟩
  have HB := hid (B1.out.trans (hb1.mono B1.out.size))
  have KB := hid (K.out.below hb1)
  clear hb1 q0 q1 q2 q6
  cases qv with
  | false =>
    have HF := hid (rmv_no HQV.out)
    have OL := hid (own_lit w1 w.heap.size 3 HB.out.size)
    go_wp2
    go_ret
    refine ⟨some ⟨w1.heap.size, 0, none⟩, 0, by rw [HF.out]; rfl, ?_, HB.out.alloc HB.out.size _⟩
    rw [HF.out]
    exact OL.out
  | true =>
    have HF := hid (rmv_yes HQV.out)
    obtain ⟨n, hn, _, hn5, hva⟩ := vq_vars HQV.out
    have R := hid (spec_run _ x lo hi n w1 HS.out (HQ.out w1 HB.out) (Nat.le_trans hh HB.out.size) hn hn5 hva)
    obtain ⟨q0, q1, q2, _, _, _, q6⟩ := KB.out.three
    clear hn hva
    go_wp2_with fail
    with_reducible refine R.out.mono ?_
    rintro e w2 ⟨av, cap, g, rfl, ho, _, _, hb2⟩
    have HO := hid (ho.mono HB.out.size)
    have HB2 := hid (HB.out.trans (hb2.mono HB.out.size))
    clear ho hb2
    go_wp2
    go_ret
    refine ⟨av, cap, by rw [HF.out]; rfl, ?_, HB2.out⟩
    rw [HF.out]
    exact HO.out

set_option maxRecDepth 100000 in
theorem impl_rmv (cs : List Value) (x : QueryD) (lo hi : Nat) (w : World) (hs : szQ x ≤ 1048576) (h : rQuery w lo hi cs x) (hh : hi ≤ w.heap.size) :
    Calls Try.prog 13 #[.agg cs.toArray] w (Rm1 x w) := by
  obtain ⟨q, capq, o, capo, hcs, _, _, hqe, _⟩ := query_open h
  subst hcs
  have K := hid (hasl_new w [.int .i64 x.1, .slice q x.2.1.length capq, .slice o x.2.2.length capo] 30)
  have B1 := hid ((Below.refl w.heap.size w).alloc (Nat.le_refl _) (.cells #[.int .i64 x.1, .slice q x.2.1.length capq, .slice o x.2.2.length capo] 30))
  obtain ⟨qv, hqv⟩ : ∃ z, vq x = z := ⟨_, rfl⟩
  have VQ := hid (fun W (hW : Below w.heap.size w W) => by
    have := impl_vq _ x lo hi W hs (good_query.keep h (sm_below hW hh)) (Nat.le_trans hh hW.size)
    rw [hqv] at this
    exact this)
  have HSA := hid (fun j (hj : j < x.2.1.length) => show x.2.1[j].2.length ≤ 1048576 by have := elem_le szA x.2.1 j hj; unfold szA at this; unfold szQ szA at hs; omega)
  have HQV := hid hqv
  have HQE := hid hqe
  clear h hqe hs hqv
  go_enter Try.func13, Try.ntmps13
  obtain ⟨q0, q1, q2, _, _, _, q6⟩ := K.out.three
  go_wp2_with fail
  with_reducible refine (VQ.out _ B1.out).mono ?_
  rintro e w1 ⟨rfl, hb1⟩
  have HB := hid (B1.out.trans (hb1.mono B1.out.size))
  have KB := hid (K.out.below hb1)
  clear hb1 q0 q1 q2 q6
  cases qv with
  | false =>
    have HF := hid (rmv_no HQV.out)
    go_wp2
    go_ret
    refine ⟨none, 0, by rw [HF.out]; rfl, ?_, HB.out⟩
    rw [HF.out]
    exact Own.nil _ _ _
  | true =>
    have HF := hid (rmv_yes HQV.out)
    have hna := vq_atoms HQV.out
    have R := hid (impl_red q capq x.2.1 lo hi w1 hna.1 hna.2 HSA.out (HQE.out.grow good_atom HB.out hh) (Nat.le_trans hh HB.out.size))
    obtain ⟨q0, q1, q2, _, _, _, q6⟩ := KB.out.three
    go_wp2_with fail
    with_reducible refine R.out.mono ?_
    rintro e w2 ⟨av, cap, g, rfl, ho, _, _, hb2⟩
    have hsz2 := HB.out.trans (hb2.mono HB.out.size)
    have HO := hid ((ho.mono HB.out.size).alloc (.cells #[.slice (some ⟨g, 0, none⟩) x.2.1.length x.2.1.length] 39))
    have HB2 := hid (hsz2.alloc hsz2.size (.cells #[.slice (some ⟨g, 0, none⟩) x.2.1.length x.2.1.length] 39))
    obtain ⟨k50, k51, k52⟩ := (hasl_new w2 [.slice none 0 0] 39).one
    clear ho hb2 hsz2
    go_wp2
    go_ret
    refine ⟨av, cap, by rw [HF.out]; rfl, ?_, HB2.out⟩
    rw [HF.out]
    exact HO.out
end Go.Proofs.Ytaeeogighoobdaa.Rmv
