/- IsAcyclic and BuildJoinTree, the model's and the program's. -/
import Derived.Test.YtaeeogighoobdaaRmv
import Derived.Test.YtaeeogighoobdaaJtr
namespace Go.Proofs.Ytaeeogighoobdaa.Acy
open Go.RowKit
open Go.Proofs.Ytaeeogighoobdaa.VarName Go.Proofs.Ytaeeogighoobdaa.Num Go.Proofs.Ytaeeogighoobdaa.IntRow Go.Proofs.Ytaeeogighoobdaa.IntLaw Go.Proofs.Ytaeeogighoobdaa.Rdr Go.Proofs.Ytaeeogighoobdaa.Dat Go.Proofs.Ytaeeogighoobdaa.HasL Go.Proofs.Ytaeeogighoobdaa.VarIn Go.Proofs.Ytaeeogighoobdaa.SetV Go.Proofs.Ytaeeogighoobdaa.SetJ Go.Proofs.Ytaeeogighoobdaa.QryP Go.Proofs.Ytaeeogighoobdaa.QryVI Go.Proofs.Ytaeeogighoobdaa.QryVS Go.Proofs.Ytaeeogighoobdaa.Gyo Go.Proofs.Ytaeeogighoobdaa.GyoR Go.Proofs.Ytaeeogighoobdaa.GyoS Go.Proofs.Ytaeeogighoobdaa.GyoT Go.Proofs.Ytaeeogighoobdaa.Rmv Go.Proofs.Ytaeeogighoobdaa.Forest Go.Proofs.Ytaeeogighoobdaa.Jtr Go.Proofs.Ytaeeogighoobdaa.LawKit Go.Proofs.Ytaeeogighoobdaa.Keep Go.Proofs.Ytaeeogighoobdaa.Kept
set_option linter.unusedVariables false

def acyc (x : QueryD) : Bool := vq x && decide ((rmv x).length + 1 = x.2.1.length)
theorem acyc_no {x : QueryD} (h : vq x = false) : acyc x = false := by unfold acyc; rw [h]; rfl
theorem acyc_yes {x : QueryD} (h : vq x = true) : acyc x = decide ((gyo x.2.1).out.length + 1 = x.2.1.length) := by unfold acyc; rw [h, rmv_yes h]; rfl
/-- One root just where one atom remains. -/
theorem acyc_root {x : QueryD} (h : vq x = true) : decide (0 ≤ jroot (gyo x.2.1).up) = acyc x := by
  rw [acyc_yes h]
  refine decide_eq_decide.2 ?_
  rw [jroot_nonneg]
  have h1 := (inv_gyo x.2.1).rts
  have h2 := (inv_gyo x.2.1).cnt
  omega
def bj (x : QueryD) : List Int := if acyc x = true then (gyo x.2.1).up else []
theorem bj_no {x : QueryD} (h : acyc x = false) : bj x = [] := if_neg (by rw [h]; decide)
theorem bj_yes {x : QueryD} (h : acyc x = true) : bj x = (gyo x.2.1).up := if_pos h
theorem up_len (us : List AtomD) : (gyo us).up.length = us.length := (inv_gyo us).lu
theorem bj_len (x : QueryD) : (bj x).length ≤ 4 := by
  cases h : acyc x with
  | false => rw [bj_no h]; simp
  | true =>
    rw [bj_yes h, up_len]
    have : vq x = true := by
      unfold acyc at h
      simp only [Bool.and_eq_true] at h
      exact h.1
    exact (vq_atoms this).2
def Bj (x : QueryD) (w : World) (e : Ending) (w' : World) : Prop := ∃ a cap, e = .returned (.tuple #[.agg #[.slice a (bj x).length cap], .bool (acyc x)]) ∧ Own w' w.heap.size 3 (.slice a (bj x).length cap) (bj x) ∧ Below w.heap.size w w'

theorem impl_one (cs : List Value) (x : List Int) (lo hi : Nat) (w : World) (hs : szF x ≤ 1048576) (h : rRow w lo hi cs x) (hh : hi ≤ w.heap.size) :
    Calls Try.prog 46 #[.agg cs.toArray] w fun e w' => e = .returned (.bool (decide (0 ≤ jroot x))) ∧ Below w.heap.size w w' := by
  obtain ⟨a, cap, hcs, _, hels⟩ := row_open h
  subst hcs
  have K := hid (hasl_new w [.slice a x.length cap] 39)
  have B1 := hid ((Below.refl w.heap.size w).alloc (Nat.le_refl _) (.cells #[.slice a x.length cap] 39))
  have R := hid (impl_root _ x lo hi _ hs (good_forest.grow h B1.out hh) (Nat.le_trans hh B1.out.size))
  clear h hels hs
  go_enter Try.func46, Try.ntmps46
  obtain ⟨q0, q1, q2⟩ := K.out.one
  go_wp2_with fail
  with_reducible refine R.out.mono ?_
  rintro e w1 ⟨rfl, hb⟩
  have HB := hid (B1.out.trans (hb.mono B1.out.size))
  clear hb q0 q1 q2
  go_wp2
  go_ret
  exact ⟨rfl, HB.out⟩

set_option maxRecDepth 100000 in
set_option maxHeartbeats 1000000 in
theorem impl_build (cs : List Value) (x : QueryD) (lo hi : Nat) (w : World) (hs : szQ x ≤ 1048576) (h : rQuery w lo hi cs x) (hh : hi ≤ w.heap.size) :
    Calls Try.prog 22 #[.agg cs.toArray] w (Bj x w) := by
  obtain ⟨q, capq, o, capo, hcs, _, _, hqe, _⟩ := query_open h
  subst hcs
  have K := hid ((hasl_new w [.int .i64 x.1, .slice q x.2.1.length capq, .slice o x.2.2.length capo] 30).alloc (.cells #[.slice none 0 0] 39))
  have K2 := hid (hasl_new (w.alloc (.cells #[.int .i64 x.1, .slice q x.2.1.length capq, .slice o x.2.2.length capo] 30)) [.slice none 0 0] 39)
  simp only [World.size_alloc] at K2
  have B1 := hid (((Below.refl w.heap.size w).alloc (Nat.le_refl _) (.cells #[.int .i64 x.1, .slice q x.2.1.length capq, .slice o x.2.2.length capo] 30)).alloc (by simp) (.cells #[.slice none 0 0] 39))
  obtain ⟨qv, hqv⟩ : ∃ z, vq x = z := ⟨_, rfl⟩
  have VQ := hid (fun W (hW : Below w.heap.size w W) => by
    have := impl_vq _ x lo hi W hs (good_query.keep h (sm_below hW hh)) (Nat.le_trans hh hW.size)
    rw [hqv] at this
    exact this)
  have HSA := hid (fun j (hj : j < x.2.1.length) => show x.2.1[j].2.length ≤ 1048576 by have := elem_le szA x.2.1 j hj; unfold szA at this; unfold szQ szA at hs; omega)
  have HQV := hid hqv
  have HQE := hid hqe
  clear h hqe hs hqv
  go_enter Try.func22, Try.ntmps22
  obtain ⟨q0, q1, q2, _, _, _, q6⟩ := K.out.three
  go_wp2_with fail
  with_reducible refine (VQ.out _ B1.out).mono ?_
  rintro e w1 ⟨rfl, hb1⟩
  have HB := hid (B1.out.trans (hb1.mono B1.out.size))
  have KB := hid (K.out.below hb1)
  have KR := hid (K2.out.below hb1)
  clear hb1 q0 q1 q2 q6
  obtain ⟨r0, r1, r2⟩ := KR.out.one
  cases qv with
  | false =>
    have HA := hid (acyc_no HQV.out)
    have HF := hid (bj_no HA.out)
    have HR := hid (KR.out.put 0 (.slice none 0 0))
    obtain ⟨s0, _, _⟩ := HasL.one HR.out
    go_wp2
    refine bodyPost_ret (v := .tuple #[.agg #[.slice none 0 0], .bool false]) (by simp [results, Try.results22, go_sem, s0]) rfl ⟨none, 0, by rw [HF.out, HA.out]; rfl, ?_, HB.out.setCell (by show w.heap.size ≤ w.heap.size + 1; omega) _⟩
    rw [HF.out]
    exact Own.nil _ _ _
  | true =>
    have hna := vq_atoms HQV.out
    have R := hid (impl_red q capq x.2.1 lo hi w1 hna.1 hna.2 HSA.out (HQE.out.grow good_atom HB.out hh) (Nat.le_trans hh HB.out.size))
    obtain ⟨q0, q1, q2, _, _, _, q6⟩ := KB.out.three
    go_wp2_with fail
    with_reducible refine R.out.mono ?_
    rintro e w2 ⟨av, cap, g, rfl, _, hat, hg, hb2⟩
    have hul := up_len x.2.1
    have HB2 := hid (HB.out.trans (hb2.mono HB.out.size))
    have KR2 := hid (KR.out.below hb2)
    have K5 := hid (hasl_new w2 [.slice (some ⟨g, 0, none⟩) x.2.1.length x.2.1.length] 39)
    have B5 := hid ((Below.refl w2.heap.size w2).alloc (Nat.le_refl _) (.cells #[.slice (some ⟨g, 0, none⟩) x.2.1.length x.2.1.length] 39))
    have HB5 := hid (HB2.out.trans (B5.out.mono HB2.out.size))
    have KR5 := hid (KR2.out.alloc (.cells #[.slice (some ⟨g, 0, none⟩) x.2.1.length x.2.1.length] 39))
    have AT5 := hid (hat.alloc (.cells #[.slice (some ⟨g, 0, none⟩) x.2.1.length x.2.1.length] 39))
    have hzt := AT5.out.lt
    have RR : rRow (w2.alloc (.cells #[.slice (some ⟨g, 0, none⟩) x.2.1.length x.2.1.length] 39)) 0 (w2.alloc (.cells #[.slice (some ⟨g, 0, none⟩) x.2.1.length x.2.1.length] 39)).heap.size [.slice (some ⟨g, 0, none⟩) x.2.1.length x.2.1.length] (gyo x.2.1).up := by
      have hc : (gyo x.2.1).up.length ≤ x.2.1.length := by omega
      have := row_mk (cap := x.2.1.length) (x := (gyo x.2.1).up) (by omega) (of_at AT5.out (Nat.zero_le _) hzt) hc
      rw [hul] at this
      exact this
    have O := hid (impl_one _ (gyo x.2.1).up 0 _ _ (by unfold szF; omega) RR (Nat.le_refl _))
    rw [acyc_root HQV.out] at O
    obtain ⟨k50, k51, k52⟩ := (hasl_new w2 [.slice none 0 0] 39).one
    obtain ⟨k60, k61, k62⟩ := K5.out.one
    have HUL := hid hul
    have hgw : w.heap.size ≤ g := Nat.le_trans HB.out.size hg
    obtain ⟨ac, hac⟩ : ∃ z, acyc x = z := ⟨_, rfl⟩
    rw [hac] at O
    have HAC := hid hac
    clear hb2 hat RR hul q0 q1 q2 q6 r0 r1 r2 hac
    go_wp2_with fail
    with_reducible refine O.out.mono ?_
    rintro e w3 ⟨rfl, hb3⟩
    have HB3 := hid (HB5.out.trans (hb3.mono HB5.out.size))
    have KR3 := hid (KR5.out.below hb3)
    have K53 := hid (K5.out.below hb3)
    have AT3 := hid (AT5.out.below hb3 AT5.out.lt)
    clear hb3 k50 k51 k52 k60 k61 k62 hzt
    obtain ⟨r0, r1, r2⟩ := KR3.out.one
    obtain ⟨k60, k61, k62⟩ := K53.out.one
    cases ac with
    | false =>
      have HF := hid (bj_no HAC.out)
      have HR := hid (KR3.out.put 0 (.slice none 0 0))
      obtain ⟨s0, _, _⟩ := HasL.one HR.out
      go_wp2
      refine bodyPost_ret (v := .tuple #[.agg #[.slice none 0 0], .bool false]) (by simp [results, Try.results22, go_sem, s0]) rfl ⟨none, 0, by rw [HF.out, HAC.out]; rfl, ?_, HB3.out.setCell (by show w.heap.size ≤ w.heap.size + 1; omega) _⟩
      rw [HF.out]
      exact Own.nil _ _ _
    | true =>
      have HF := hid (bj_yes HAC.out)
      have HR := hid (KR3.out.put 0 (.slice (some ⟨g, 0, none⟩) x.2.1.length x.2.1.length))
      obtain ⟨s0, _, _⟩ := HasL.one HR.out
      have hgne : g ≠ w.heap.size + 1 := by
        have := KR.out.1
        omega
      go_wp2
      refine bodyPost_ret (v := .tuple #[.agg #[.slice (some ⟨g, 0, none⟩) x.2.1.length x.2.1.length], .bool true]) (by simp [results, Try.results22, go_sem, s0]) rfl ⟨some ⟨g, 0, none⟩, x.2.1.length, by rw [HF.out, HAC.out, HUL.out], ?_, HB3.out.setCell (by show w.heap.size ≤ w.heap.size + 1; omega) _⟩
      rw [HF.out]
      exact (AT3.out.far (p := ⟨w.heap.size + 1, 0, none⟩) hgne _).own hgw

set_option maxRecDepth 100000 in
theorem impl_acyc (cs : List Value) (x : QueryD) (lo hi : Nat) (w : World) (hs : szQ x ≤ 1048576) (h : rQuery w lo hi cs x) (hh : hi ≤ w.heap.size) :
    Calls Try.prog 20 #[.agg cs.toArray] w fun e w' => e = .returned (.bool (acyc x)) ∧ Below w.heap.size w w' := by
  obtain ⟨q, capq, o, capo, hcs, _, _, hqe, _⟩ := query_open h
  subst hcs
  have K := hid (hasl_new w [.int .i64 x.1, .slice q x.2.1.length capq, .slice o x.2.2.length capo] 30)
  have B1 := hid ((Below.refl w.heap.size w).alloc (Nat.le_refl _) (.cells #[.int .i64 x.1, .slice q x.2.1.length capq, .slice o x.2.2.length capo] 30))
  have R := hid (impl_build _ x lo hi _ hs (good_query.keep h (sm_below B1.out hh)) (Nat.le_trans hh B1.out.size))
  clear h hqe hs
  go_enter Try.func20, Try.ntmps20
  obtain ⟨q0, q1, q2, _, _, _, q6⟩ := K.out.three
  go_wp2_with fail
  with_reducible refine R.out.mono ?_
  rintro e w1 ⟨a, cap, rfl, _, hb1⟩
  have hbx := B1.out.trans (hb1.mono B1.out.size)
  have HB := hid (hbx.alloc hbx.size (.cells #[.slice a (bj x).length cap] 39))
  obtain ⟨k50, k51, k52⟩ := (hasl_new w1 [.slice none 0 0] 39).one
  clear hb1 hbx q0 q1 q2 q6
  go_wp2
  go_ret
  exact ⟨rfl, HB.out⟩

set_option maxRecDepth 100000 in
set_option maxHeartbeats 4000000 in
theorem spec_acyc (cs : List Value) (x : QueryD) (lo hi : Nat) (w : World) (hs : szQ x ≤ 1048576) (h : rQuery w lo hi cs x) (hh : hi ≤ w.heap.size) :
    Calls Try.prog 19 #[.agg cs.toArray] w fun e w' => e = .returned (.bool (acyc x)) ∧ Below w.heap.size w w' := by
  obtain ⟨q, capq, o, capo, hcs, _, _, hqe, _⟩ := query_open h
  subst hcs
  have K := hid (hasl_new w [.int .i64 x.1, .slice q x.2.1.length capq, .slice o x.2.2.length capo] 30)
  have B1 := hid ((Below.refl w.heap.size w).alloc (Nat.le_refl _) (.cells #[.int .i64 x.1, .slice q x.2.1.length capq, .slice o x.2.2.length capo] 30))
  obtain ⟨qv, hqv⟩ : ∃ z, vq x = z := ⟨_, rfl⟩
  have VQ := hid (fun W (hW : Below w.heap.size w W) => by
    have := spec_vq _ x lo hi W hs (good_query.keep h (sm_below hW hh)) (Nat.le_trans hh hW.size)
    rw [hqv] at this
    exact this)
  have RM := hid (fun W (hW : Below w.heap.size w W) => spec_rmv _ x lo hi W hs (good_query.keep h (sm_below hW hh)) (Nat.le_trans hh hW.size))
  have HQV := hid hqv
  have hrl := rmv_len x
  clear h hqe hs hqv
  go_enter Try.func19, Try.ntmps19
  obtain ⟨q0, q1, q2, _, _, _, q6⟩ := K.out.three
  obtain ⟨w0, hw0⟩ : ∃ z, w.alloc (.cells #[.int .i64 x.1, .slice q x.2.1.length capq, .slice o x.2.2.length capo] 30) = z := ⟨_, rfl⟩
  rw [hw0] at q0 q1 q2 q6 B1
  have hz0 := B1.out.size
  have hk2 := kp_refl w0
  have hlw : w.heap.size < w0.heap.size := by rw [← hw0]; simp
  cases qv with
  | false =>
    have HA := hid (acyc_no HQV.out)
    go_upto_region 1 with fail
    go_cut [2] (fun s wx => s = .bool false ∧ Kp w0 0 wx)
    case first =>
      refine wp_region_held_drew (S := (fun w' => w'.cell? ⟨w.heap.size, 0, none⟩ = some (.int .i64 x.1) ∧ w'.cell? ⟨w.heap.size, 1, none⟩ = some (.slice q x.2.1.length capq) ∧ w'.cell? ⟨w.heap.size, 2, none⟩ = some (.slice o x.2.2.length capo) ∧ Kp w0 0 w')) (by kernel_rfl) ⟨q0, q1, q2, (kp_refl w0).drew⟩ (fun hHeld => ?_)
      refine wpAnyH_take (i := 0) (oi := { dst := some 3, op := .load 30 (.tmp 1), type := _, pos := _, after := _, guard := none }) (v := ?_) rfl (by kernel_rfl) (by kernel_rfl) (by kernel_rfl) (fun _ _ _ h => h) ?_ hHeld ?_
      rotate_left
      · (refine Or.inl ⟨by rfl, fun w hSw => ?_⟩; (try dsimp only at hSw); go_simp; (try with_reducible rfl))
      (try simp only [Act.put, List.setIfInBounds_toArray, List.set_cons_zero, List.set_cons_succ])
      refine wpAnyH_ready (rs := [1]) (by kernel_rfl) (by simp) ?_
      refine AllReadyH.cons (o := { dst := some 4, op := .call { callee := .value (.func 38), args := #[(.tmp 3)], argTypes := #[30] }, type := _, pos := _, after := _, guard := none }) rfl (fun K hK => ?_) AllReadyH.nil
      go_simp
      (with_reducible refine (VQ.out _ (B1.out.trans (hHeld.2.2.2.bel.mono hz0))).mono ?_); rintro e wU ⟨rfl, hbU⟩
      (try go_wp2_with fail)
      refine hK.out _ _ ?_ (fun hH2 => ?_)
      · exact ⟨hHeld.2.2.2.cell hbU (by omega) hHeld.1, hHeld.2.2.2.cell hbU (by omega) hHeld.2.1, hHeld.2.2.2.cell hbU (by omega) hHeld.2.2.1, hHeld.2.2.2.call hbU⟩
      clear hK K hHeld
      have hHeld := hH2
      clear hH2
      (try simp only [Act.put, List.setIfInBounds_toArray, List.set_cons_zero, List.set_cons_succ])
      refine wpAnyH_take (i := 2) (oi := { dst := some 5, op := .move (.tmp 4), type := _, pos := _, after := _, guard := none }) (v := ?_) rfl (by kernel_rfl) (by kernel_rfl) (by kernel_rfl) (fun _ _ _ h => h) ?_ hHeld ?_
      rotate_left
      · (refine Or.inl ⟨by rfl, fun w hSw => ?_⟩; (try dsimp only at hSw); go_simp; (try with_reducible rfl))
      (try simp only [Act.put, List.setIfInBounds_toArray, List.set_cons_zero, List.set_cons_succ])
      refine wpAnyH_take (i := 3) (oi := { dst := some 6, op := .load 30 (.tmp 1), type := _, pos := _, after := _, guard := some (2, true) }) (v := undef) rfl (by kernel_rfl) (by kernel_rfl) (by kernel_rfl) (fun _ _ _ h => h) (Or.inr ?_) hHeld ?_
      · exact ⟨by rfl, rfl⟩
      (try simp only [Act.put, List.setIfInBounds_toArray, List.set_cons_zero, List.set_cons_succ])
      refine wpAnyH_take (i := 4) (oi := { dst := some 7, op := .call { callee := .value (.func 11), args := #[(.tmp 6)], argTypes := #[30] }, type := _, pos := _, after := _, guard := some (2, true) }) (v := undef) rfl (by kernel_rfl) (by kernel_rfl) (by kernel_rfl) (fun _ _ _ h => h) (Or.inr ?_) hHeld ?_
      · exact ⟨by rfl, rfl⟩
      (try simp only [Act.put, List.setIfInBounds_toArray, List.set_cons_zero, List.set_cons_succ])
      refine wpAnyH_take (i := 5) (oi := { dst := some 8, op := .call { callee := .builtin .len, args := #[(.tmp 7)], argTypes := #[23] }, type := _, pos := _, after := _, guard := some (2, true) }) (v := undef) rfl (by kernel_rfl) (by kernel_rfl) (by kernel_rfl) (fun _ _ _ h => h) (Or.inr ?_) hHeld ?_
      · exact ⟨by rfl, rfl⟩
      (try simp only [Act.put, List.setIfInBounds_toArray, List.set_cons_zero, List.set_cons_succ])
      refine wpAnyH_take (i := 6) (oi := { dst := some 9, op := .fieldAddr 30 (.tmp 1) 1, type := _, pos := _, after := _, guard := some (2, true) }) (v := undef) rfl (by kernel_rfl) (by kernel_rfl) (by kernel_rfl) (fun _ _ _ h => h) (Or.inr ?_) hHeld ?_
      · exact ⟨by rfl, rfl⟩
      (try simp only [Act.put, List.setIfInBounds_toArray, List.set_cons_zero, List.set_cons_succ])
      refine wpAnyH_take (i := 7) (oi := { dst := some 10, op := .load 28 (.tmp 9), type := _, pos := _, after := _, guard := some (2, true) }) (v := undef) rfl (by kernel_rfl) (by kernel_rfl) (by kernel_rfl) (fun _ _ _ h => h) (Or.inr ?_) hHeld ?_
      · exact ⟨by rfl, rfl⟩
      (try simp only [Act.put, List.setIfInBounds_toArray, List.set_cons_zero, List.set_cons_succ])
      refine wpAnyH_take (i := 8) (oi := { dst := some 11, op := .call { callee := .builtin .len, args := #[(.tmp 10)], argTypes := #[28] }, type := _, pos := _, after := _, guard := some (2, true) }) (v := undef) rfl (by kernel_rfl) (by kernel_rfl) (by kernel_rfl) (fun _ _ _ h => h) (Or.inr ?_) hHeld ?_
      · exact ⟨by rfl, rfl⟩
      (try simp only [Act.put, List.setIfInBounds_toArray, List.set_cons_zero, List.set_cons_succ])
      refine wpAnyH_take (i := 9) (oi := { dst := some 12, op := .binOp .sub 3 (.tmp 11) (.const (.int .i64 1)) 3, type := _, pos := _, after := _, guard := some (2, true) }) (v := undef) rfl (by kernel_rfl) (by kernel_rfl) (by kernel_rfl) (fun _ _ _ h => h) (Or.inr ?_) hHeld ?_
      · exact ⟨by rfl, rfl⟩
      (try simp only [Act.put, List.setIfInBounds_toArray, List.set_cons_zero, List.set_cons_succ])
      refine wpAnyH_take (i := 10) (oi := { dst := some 13, op := .binOp .eql 3 (.tmp 8) (.tmp 12) 3, type := _, pos := _, after := _, guard := some (2, true) }) (v := undef) rfl (by kernel_rfl) (by kernel_rfl) (by kernel_rfl) (fun _ _ _ h => h) (Or.inr ?_) hHeld ?_
      · exact ⟨by rfl, rfl⟩
      (try simp only [Act.put, List.setIfInBounds_toArray, List.set_cons_zero, List.set_cons_succ])
      refine wpAnyH_take (i := 11) (oi := { dst := some 14, op := .pick (.tmp 5) (.tmp 13) (.const (.bool false)), type := _, pos := _, after := _, guard := none }) (v := ?_) rfl (by kernel_rfl) (by kernel_rfl) (by kernel_rfl) (fun _ _ _ h => h) ?_ hHeld ?_
      rotate_left
      · (refine Or.inl ⟨by rfl, fun w hSw => ?_⟩; (try dsimp only at hSw); go_simp; (try with_reducible rfl))
      (try simp only [Act.put, List.setIfInBounds_toArray, List.set_cons_zero, List.set_cons_succ])
      refine wpAnyH_take (i := 12) (oi := { dst := some 2, op := .assign (.tmp 14), type := _, pos := _, after := _, guard := none }) (v := ?_) rfl (by kernel_rfl) (by kernel_rfl) (by kernel_rfl) (fun _ _ _ h => h) ?_ hHeld ?_
      rotate_left
      · (refine Or.inl ⟨by rfl, fun w hSw => ?_⟩; (try dsimp only at hSw); go_simp; (try with_reducible rfl))
      (try simp only [Act.put, List.setIfInBounds_toArray, List.set_cons_zero, List.set_cons_succ])
      refine wpAnyH_done (by kernel_rfl) ?_ _
      go_wp2_with fail
      go_meet
      exact ⟨by first | rfl | trivial, hHeld.2.2.2⟩
    case rest =>
    obtain ⟨rfl, hkp⟩ := hcut
    have HB5 := hid (B1.out.trans (hkp.bel.mono hz0))
    clear hkp
    go_wp2
    go_ret
    exact ⟨by rw [HA.out]; rfl, HB5.out⟩
  | true =>
    have hna := vq_atoms HQV.out
    obtain ⟨n1, hn1⟩ : ∃ z, x.2.1.length - 1 = z := ⟨_, rfl⟩
    have e1 : IntKind.i64.wrap ((x.2.1.length : Int) - 1) = (n1 : Int) := by rw [show (x.2.1.length : Int) - 1 = (n1 : Int) by omega]; exact Num.wrap_small n1 (by omega)
    have e2 : IntKind.i64.wrap (n1 : Int) = (n1 : Int) := Num.wrap_small n1 (by omega)
    have e3 : (((rmv x).length : Int) == (n1 : Int)) = acyc x := by
      unfold acyc
      rw [HQV.out, Bool.true_and, Bool.eq_iff_iff]
      simp only [beq_iff_eq, decide_eq_true_eq]
      omega
    obtain ⟨rn, hrn⟩ : ∃ z, (rmv x).length = z := ⟨_, rfl⟩
    rw [hrn] at e3
    have RM2 := hid (fun W (hW : Below w.heap.size w W) => (RM.out W hW).mono fun e w' hh2 => show ∃ a cap, e = .returned (.slice a rn cap) ∧ Below W.heap.size W w' from by
      obtain ⟨a, cap, he, _, hb⟩ := hh2
      rw [hrn] at he
      exact ⟨a, cap, he, hb⟩)
    clear hn1 hrn hrl
    go_upto_region 1 with fail
    go_cut [2] (fun s wx => s = .bool (acyc x) ∧ Kp w0 0 wx)
    case first =>
      go_region_held3 (fun w' => w'.cell? ⟨w.heap.size, 0, none⟩ = some (.int .i64 x.1) ∧ w'.cell? ⟨w.heap.size, 1, none⟩ = some (.slice q x.2.1.length capq) ∧ w'.cell? ⟨w.heap.size, 2, none⟩ = some (.slice o x.2.2.length capo) ∧ Kp w0 0 w')
        (first
          | (go_split_ands
             repeat' apply And.intro
             all_goals (first | (with_reducible assumption) | (with_reducible exact cell_drew (by assumption)) | (with_reducible exact Kp.drew (by assumption)) | (with_reducible exact Kp.cell (by assumption) hb1 (by omega) (by assumption)) | (with_reducible exact Kp.call (by assumption) hb1))))
        (first
          | (go_split_ands; go_at_call 38; (with_reducible refine (VQ.out _ (B1.out.trans ((Kp.bel (n := 0) (w := w0) (by with_reducible assumption)).mono hz0))).mono ?_); rintro e w1 ⟨rfl, hb1⟩)
          | (go_split_ands; go_at_call 11; (with_reducible refine (RM2.out _ (B1.out.trans ((Kp.bel (n := 0) (w := w0) (by with_reducible assumption)).mono hz0))).mono ?_); rintro e w1 ⟨a1, cap1, rfl, hb1⟩) | fail)
      all_goals
        go_wp2_with fail
        go_meet
        go_split_ands
        exact ⟨by first | rfl | (rw [← e3]), by with_reducible assumption⟩
    case rest =>
    obtain ⟨rfl, hkp⟩ := hcut
    have HB5 := hid (B1.out.trans (hkp.bel.mono hz0))
    clear hkp
    go_wp2
    go_ret
    exact ⟨rfl, HB5.out⟩

set_option maxRecDepth 100000 in
set_option maxHeartbeats 1000000 in
theorem spec_build (cs : List Value) (x : QueryD) (lo hi : Nat) (w : World) (hs : szQ x ≤ 1048576) (h : rQuery w lo hi cs x) (hh : hi ≤ w.heap.size) :
    Calls Try.prog 21 #[.agg cs.toArray] w (Bj x w) := by
  obtain ⟨q, capq, o, capo, hcs, _, _, hqe, _⟩ := query_open h
  subst hcs
  have K := hid ((hasl_new w [.int .i64 x.1, .slice q x.2.1.length capq, .slice o x.2.2.length capo] 30).alloc (.cells #[.slice none 0 0] 39))
  have K2 := hid (hasl_new (w.alloc (.cells #[.int .i64 x.1, .slice q x.2.1.length capq, .slice o x.2.2.length capo] 30)) [.slice none 0 0] 39)
  simp only [World.size_alloc] at K2
  have B1 := hid (((Below.refl w.heap.size w).alloc (Nat.le_refl _) (.cells #[.int .i64 x.1, .slice q x.2.1.length capq, .slice o x.2.2.length capo] 30)).alloc (by simp) (.cells #[.slice none 0 0] 39))
  obtain ⟨ac, hac⟩ : ∃ z, acyc x = z := ⟨_, rfl⟩
  have AC := hid (fun W (hW : Below w.heap.size w W) => by
    have := spec_acyc _ x lo hi W hs (good_query.keep h (sm_below hW hh)) (Nat.le_trans hh hW.size)
    rw [hac] at this
    exact this)
  have HQ := hid (fun W (hW : Below w.heap.size w W) => good_query.keep h (sm_below hW hh))
  have HS := hid hs
  have HAC := hid hac
  clear h hqe hs hac
  go_enter Try.func21, Try.ntmps21
  obtain ⟨q0, q1, q2, _, _, _, q6⟩ := K.out.three
  go_wp2_with fail
  with_reducible refine (AC.out _ B1.out).mono ?_
  rintro e w1 ⟨rfl, hb1⟩
  have HB := hid (B1.out.trans (hb1.mono B1.out.size))
  have KB := hid (K.out.below hb1)
  have KR := hid (K2.out.below hb1)
  clear hb1 q0 q1 q2 q6
  obtain ⟨r0, r1, r2⟩ := KR.out.one
  cases ac with
  | false =>
    have HF := hid (bj_no HAC.out)
    have HR := hid (KR.out.put 0 (.slice none 0 0))
    obtain ⟨s0, _, _⟩ := HasL.one HR.out
    go_wp2
    refine bodyPost_ret (v := .tuple #[.agg #[.slice none 0 0], .bool false]) (by simp [results, Try.results21, go_sem, s0]) rfl ⟨none, 0, by rw [HF.out, HAC.out]; rfl, ?_, HB.out.setCell (by show w.heap.size ≤ w.heap.size + 1; omega) _⟩
    rw [HF.out]
    exact Own.nil _ _ _
  | true =>
    have hvq : vq x = true := by
      have := HAC.out
      unfold acyc at this
      simp only [Bool.and_eq_true] at this
      exact this.1
    obtain ⟨n, hn, _, hn5, hva⟩ := vq_vars hvq
    have R := hid (spec_run _ x lo hi n w1 HS.out (HQ.out w1 HB.out) (Nat.le_trans hh HB.out.size) hn hn5 hva)
    have HF := hid (bj_yes HAC.out)
    obtain ⟨q0, q1, q2, _, _, _, q6⟩ := KB.out.three
    clear hn hva hvq
    go_wp2_with fail
    with_reducible refine R.out.mono ?_
    rintro e w2 ⟨av, cap, g, rfl, _, hat, hg, hb2⟩
    have HUL := hid (up_len x.2.1)
    have HB2 := hid (HB.out.trans (hb2.mono HB.out.size))
    have KR2 := hid (KR.out.below hb2)
    have AT := hid hat
    have HR := hid (KR2.out.put 0 (.slice (some ⟨g, 0, none⟩) x.2.1.length x.2.1.length))
    obtain ⟨s0, _, _⟩ := HasL.one HR.out
    have hgne : g ≠ w.heap.size + 1 := by
      have := KR.out.1
      omega
    have hgw : w.heap.size ≤ g := Nat.le_trans HB.out.size hg
    clear r0 r1 r2 hat hb2 q0 q1 q2 q6
    obtain ⟨r0, r1, r2⟩ := KR2.out.one
    go_wp2
    refine bodyPost_ret (v := .tuple #[.agg #[.slice (some ⟨g, 0, none⟩) x.2.1.length x.2.1.length], .bool true]) (by simp [results, Try.results21, go_sem, s0]) rfl ⟨some ⟨g, 0, none⟩, x.2.1.length, by rw [HF.out, HAC.out, HUL.out], ?_, HB2.out.setCell (by show w.heap.size ≤ w.heap.size + 1; omega) _⟩
    rw [HF.out]
    exact (AT.out.far (p := ⟨w.heap.size + 1, 0, none⟩) hgne _).own hgw
end Go.Proofs.Ytaeeogighoobdaa.Acy
