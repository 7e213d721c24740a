/- IsValidJoinTree, the program's: leadsToRoot, isTree, areSetsConnected. -/
import Derived.Test.YtaeeogighoobdaaJtvP
import Derived.Test.YtaeeogighoobdaaGyoI
import Derived.Test.YtaeeogighoobdaaLawKit
import Derived.Test.YtaeeogighoobdaaKeep
import Derived.Test.YtaeeogighoobdaaKept
import Derived.Deep.RegionHeld3
import Derived.Deep.DeepCutAuto
namespace Go.Proofs.Ytaeeogighoobdaa.JtvI
open Go.RowKit
open Go.Proofs.Ytaeeogighoobdaa.VarName Go.Proofs.Ytaeeogighoobdaa.Num Go.Proofs.Ytaeeogighoobdaa.IntRow Go.Proofs.Ytaeeogighoobdaa.IntLaw Go.Proofs.Ytaeeogighoobdaa.Rdr Go.Proofs.Ytaeeogighoobdaa.Dat Go.Proofs.Ytaeeogighoobdaa.HasL Go.Proofs.Ytaeeogighoobdaa.VarIn Go.Proofs.Ytaeeogighoobdaa.SetV Go.Proofs.Ytaeeogighoobdaa.SetJ Go.Proofs.Ytaeeogighoobdaa.QryP Go.Proofs.Ytaeeogighoobdaa.QryVI Go.Proofs.Ytaeeogighoobdaa.Gyo Go.Proofs.Ytaeeogighoobdaa.GyoI Go.Proofs.Ytaeeogighoobdaa.Forest Go.Proofs.Ytaeeogighoobdaa.Jtr Go.Proofs.Ytaeeogighoobdaa.JtvP Go.Proofs.Ytaeeogighoobdaa.LawKit Go.Proofs.Ytaeeogighoobdaa.Keep Go.Proofs.Ytaeeogighoobdaa.Kept
set_option linter.unusedVariables false

/-- hasOneRoot. -/
theorem impl_one (cs : List Value) (x : List Int) (lo hi : Nat) (w : World) (hs : szF x ≤ 1048576) (h : rRow w lo hi cs x) (hh : hi ≤ w.heap.size) :
    Calls Try.prog 46 #[.agg cs.toArray] w fun e w' => e = .returned (.bool (decide (0 ≤ jroot x))) ∧ Below w.heap.size w w' := by
  obtain ⟨a, cap, hcs, _, hels⟩ := row_open h
  subst hcs
  have K := hid (hasl_new w [.slice a x.length cap] 39)
  have B1 := hid ((Below.refl w.heap.size w).alloc (Nat.le_refl _) (.cells #[.slice a x.length cap] 39))
  have R := hid (impl_root _ x lo hi _ hs (good_forest.grow h B1.out hh) (Nat.le_trans hh B1.out.size))
  clear h hels hs
  go_enter Try.func46, Try.ntmps46
  obtain ⟨q0, q1, q2⟩ := K.out.one
  go_wp2_with fail
  with_reducible refine R.out.mono ?_
  rintro e w1 ⟨rfl, hb⟩
  have HB := hid (B1.out.trans (hb.mono B1.out.size))
  clear hb q0 q1 q2
  go_wp2
  go_ret
  exact ⟨rfl, HB.out⟩

set_option maxRecDepth 100000 in
theorem impl_lead (cs : List Value) (x : List Int) (i : Nat) (lo hi : Nat) (w : World) (hs : szF x ≤ 1048576) (h : rRow w lo hi cs x) (hh : hi ≤ w.heap.size) (hi' : i < x.length) :
    Calls Try.prog 71 #[.agg cs.toArray, .int .i64 (i : Int)] w fun e w' => e = .returned (.bool (lead x x.length i)) ∧ Below w.heap.size w w' := by
  obtain ⟨a, cap, hcs, _, hels⟩ := row_open h
  subst hcs
  have K := hid (hasl_new w [.slice a x.length cap] 39)
  have B1 := hid ((Below.refl w.heap.size w).alloc (Nat.le_refl _) (.cells #[.slice a x.length cap] 39))
  have hn : x.length ≤ 1048576 := hs
  have HE := hid (hels.grow good_int B1.out hh)
  clear h hels hs
  go_enter Try.func71, Try.ntmps71
  obtain ⟨q0, q1, q2⟩ := K.out.one
  go_wp2
  go_loop [1, 5, 9] (fun c _ s => ∃ k m : Nat, k ≤ x.length ∧ s = .int .i64 k ∧ c = .int .i64 m ∧ m < x.length ∧ Hid (lead x x.length i = lead x (x.length - k) m)) (fun _ _ s => x.length - (intOf s).toNat)
  case atStart => exact ⟨0, i, Nat.zero_le _, rfl, rfl, hi', hid rfl⟩
  case round =>
    obtain ⟨k, m, hk, rfl, rfl, hm, hl⟩ := hrel
    by_cases hlt : k < x.length
    · have hlt' : (k : Int) < (x.length : Int) := by omega
      have h0m : (0 : Int) ≤ (m : Int) := by omega
      have hmn : (m : Int) < (x.length : Int) := by omega
      obtain ⟨b, off, ha, c0⟩ := Jtr.ints_at HE.out m hm
      subst ha
      obtain ⟨f, hf⟩ : ∃ f, x.length - k = f + 1 := ⟨x.length - k - 1, by omega⟩
      have HL := hid (show lead x x.length i = lead x (f + 1) m by rw [hl.out, hf])
      have HFK := hid hf
      clear hl hf
      by_cases h1 : x[m] = -1
      · have t1 : (x[m] == (-1 : Int)) = true := by simp [h1]
        have HF := hid (show lead x x.length i = true by rw [HL.out]; exact lead_root hm h1)
        clear h1
        go_wp2
        go_ret
        exact ⟨by rw [HF.out]; rfl, B1.out⟩
      · have t1 : (x[m] == (-1 : Int)) = false := by simp [h1]
        by_cases h2 : x[m] < 0
        · have HF := hid (show lead x x.length i = false by rw [HL.out]; exact lead_out hm h1 (by omega))
          clear h1
          go_wp2
          go_ret
          exact ⟨by rw [HF.out]; rfl, B1.out⟩
        · by_cases h3 : (x.length : Int) ≤ x[m]
          · have HF := hid (show lead x x.length i = false by rw [HL.out]; exact lead_out hm h1 (by omega))
            clear h1
            go_wp2
            go_ret
            exact ⟨by rw [HF.out]; rfl, B1.out⟩
          · obtain ⟨p, hp⟩ : ∃ p : Nat, x[m] = (p : Int) := ⟨x[m].toNat, by omega⟩
            have hpl : p < x.length := by omega
            have HN := hid (show lead x x.length i = lead x (x.length - (k + 1)) p by
              rw [HL.out, lead_on hm hp hpl]
              congr 1
              have := HFK.out
              omega)
            rw [hp] at c0 t1
            have h2' : ¬ (p : Int) < 0 := by omega
            have h3' : ¬ (x.length : Int) ≤ (p : Int) := by omega
            clear h1 h2 h3 hp
            go_wp2
            go_round
            case rel => exact ⟨k + 1, p, by omega, by go_num, rfl, hpl, HN⟩
            case measure => simp [intOf]; omega
    · have hlt' : ¬ (k : Int) < (x.length : Int) := by omega
      have HF := hid (show lead x x.length i = false by
        rw [hl.out, show x.length - k = 0 by omega]
        rfl)
      clear hl
      go_wp2
      go_ret
      exact ⟨by rw [HF.out]; rfl, B1.out⟩

set_option maxRecDepth 100000 in
theorem impl_tree (cs : List Value) (x : List Int) (lo hi : Nat) (w : World) (hs : szF x ≤ 1048576) (h : rRow w lo hi cs x) (hh : hi ≤ w.heap.size) :
    Calls Try.prog 49 #[.agg cs.toArray] w fun e w' => e = .returned (.bool (isT x)) ∧ Below w.heap.size w w' := by
  obtain ⟨a, cap, hcs, _, hels⟩ := row_open h
  subst hcs
  have K := hid (hasl_new w [.slice a x.length cap] 39)
  have B1 := hid ((Below.refl w.heap.size w).alloc (Nat.le_refl _) (.cells #[.slice a x.length cap] 39))
  have hn : x.length ≤ 1048576 := hs
  have O := hid (impl_one _ x lo hi _ hs (good_forest.grow h B1.out hh) (Nat.le_trans hh B1.out.size))
  have L := hid (fun (W : World) (i : Nat) (hi' : i < x.length) (hW : Below w.heap.size w W) => impl_lead _ x i lo hi W hs (good_forest.grow h hW hh) (Nat.le_trans hh hW.size) hi')
  obtain ⟨rt, hrt⟩ : ∃ z, decide (0 ≤ jroot x) = z := ⟨_, rfl⟩
  rw [hrt] at O
  have HRT := hid hrt
  clear h hels hs hrt
  go_enter Try.func49, Try.ntmps49
  obtain ⟨q0, q1, q2⟩ := K.out.one
  go_wp2_with fail
  with_reducible refine O.out.mono ?_
  rintro e w1 ⟨rfl, hb⟩
  have HB := hid (B1.out.trans (hb.mono B1.out.size))
  have KB := hid (K.out.below hb)
  clear hb q0 q1 q2
  cases rt with
  | false =>
    have HF := hid (show isT x = false by unfold isT; rw [HRT.out]; rfl)
    go_wp2
    go_ret
    exact ⟨by rw [HF.out]; rfl, HB.out⟩
  | true =>
    obtain ⟨q0, q1, q2⟩ := KB.out.one
    go_wp2
    clear q0 q1 q2
    go_loopw [3, 10] (fun _ i wr => ∃ k : Nat, k ≤ x.length ∧ i = .int .i64 k ∧ Hid (∀ j, j < k → lead x x.length j = true) ∧ Hid (HasL wr w.heap.size [.slice a x.length cap]) ∧ Hid (Below w.heap.size w wr)) (fun _ i _ => x.length - (intOf i).toNat)
    case atStart => exact ⟨0, Nat.zero_le _, rfl, hid (fun j h => by omega), KB, HB⟩
    case round =>
      obtain ⟨k, hk, rfl, hall, hkb, hb⟩ := hrel
      by_cases hlt : k < x.length
      · have hlt' : (k : Int) < (x.length : Int) := by omega
        obtain ⟨q0, q1, q2⟩ := hkb.out.one
        have C := hid (L.out wr k hlt hb.out)
        obtain ⟨lk, hlk⟩ : ∃ z, lead x x.length k = z := ⟨_, rfl⟩
        rw [hlk] at C
        have HLK := hid hlk
        clear hlk
        go_wp2_with fail
        with_reducible refine C.out.mono ?_
        rintro e w2 ⟨rfl, hb2⟩
        have HB2 := hid (hb.out.trans (hb2.mono hb.out.size))
        have KB2 := hid (hkb.out.below hb2)
        clear hb2 q0 q1 q2
        cases lk with
        | false =>
          have HF := hid (show isT x = false by
            unfold isT
            rw [Bool.and_eq_false_iff]
            right
            rw [List.all_eq_false]
            exact ⟨k, List.mem_range.2 hlt, by rw [HLK.out]; decide⟩)
          go_wp2
          go_ret
          exact ⟨by rw [HF.out]; rfl, HB2.out⟩
        | true =>
          have HN := hid (show ∀ j, j < k + 1 → lead x x.length j = true from fun j hj => by
            by_cases e : j = k
            · subst e; exact HLK.out
            · exact hall.out j (by omega))
          go_wp2
          go_roundw
          case rel => exact ⟨k + 1, by omega, by go_num, HN, KB2, HB2⟩
          case measure => simp [intOf]; omega
      · have hlt' : ¬ (k : Int) < (x.length : Int) := by omega
        have HF := hid (show isT x = true by
          unfold isT
          rw [HRT.out, Bool.true_and, List.all_eq_true]
          exact fun j hj => hall.out j (by have := List.mem_range.1 hj; omega))
        go_wp2
        go_ret
        exact ⟨by rw [HF.out]; rfl, hb.out⟩

set_option maxRecDepth 100000 in
theorem impl_conn (cs : List Value) (us : List AtomD) (x : List Int) (ms : List Nat) (g lo hi : Nat) (w : World) (hs : szF x ≤ 1048576) (h : rRow w lo hi cs x) (hh : hi ≤ w.heap.size) (hl : x.length = us.length) (ht : isT x = true) (hms : SetsOf us ms) (hg : HasL w g (uc ms)) :
    Calls Try.prog 50 #[.agg cs.toArray, .slice (some ⟨g, 0, none⟩) us.length us.length] w fun e w' => e = .returned (.bool (okT us x)) ∧ Below w.heap.size w w' := by
  obtain ⟨a, cap, hcs, _, hels⟩ := row_open h
  subst hcs
  have K := hid (hasl_new w [.slice a x.length cap] 39)
  have B1 := hid ((Below.refl w.heap.size w).alloc (Nat.le_refl _) (.cells #[.slice a x.length cap] 39))
  have hn : x.length ≤ 1048576 := hs
  have HE := hid (hels.grow good_int B1.out hh)
  have HG := hid (hg.below B1.out)
  have HM := hid hms
  have HML := hid hms.1
  have HT := hid (isT_at ht)
  have HLn := hid hl
  clear h hels hs hg hms ht hl
  go_enter Try.func50, Try.ntmps50
  obtain ⟨q0, q1, q2⟩ := K.out.one
  go_wp2
  go_loop [5, 6, 7, 8, 12] (fun fv _ _ _ i => ∃ k m : Nat, k ≤ x.length ∧ i = .int .i64 k ∧ fv = .int .u64 m ∧ m < 32 ∧ Hid (Is m (anyT us x k)) ∧ Hid (∀ v, v < 5 → cntT us x v k ≤ 1)) (fun _ _ _ _ i => x.length - (intOf i).toNat)
  case atStart => exact ⟨0, 0, Nat.zero_le _, rfl, rfl, by decide, hid (is_congr is_zero (fun v _ => by simp [anyT, cntT])), hid (fun v _ => by simp [cntT])⟩
  case round =>
    obtain ⟨k, m, hk, rfl, rfl, hm, his, hone⟩ := hrel
    by_cases hlt : k < x.length
    · have hlt' : (k : Int) < (x.length : Int) := by omega
      have h0' : (0 : Int) ≤ (k : Int) := by omega
      have hku : k < us.length := by rw [← HLn.out]; exact hlt
      have hku' : (k : Int) < (us.length : Int) := by omega
      have hkm : k < ms.length := by rw [HML.out]; exact hku
      obtain ⟨b, off, ha, c0⟩ := Jtr.ints_at HE.out k hlt
      subst ha
      have c1 := uc_cell HG.out k hkm
      have hkI := set_mv HM.out hku hkm
      obtain ⟨s1, hs1⟩ : ∃ z, ms[k] = z := ⟨_, rfl⟩
      rw [hs1] at c1 hkI
      -- what is new: the set of the variables that have a top here
      have fin : ∀ (q : Nat), Is q (top us x · k) → (∀ b, decide (q &&& m ≠ 0) = b → (b = true → okT us x = false) ∧ (b = false → Is (m ||| q) (anyT us x (k + 1)) ∧ ∀ v, v < 5 → cntT us x v (k + 1) ≤ 1)) := fun q hq b hb => by
        have hi := is_and hq his.out
        refine ⟨fun e => ?_, fun e => ?_⟩
        · rw [e, decide_eq_true_eq] at hb
          have : ∃ v, v < 5 ∧ (top us x v k && anyT us x k v) = true := by
            refine Classical.byContradiction fun hc => hb (is_none hi (fun v hv => ?_))
            cases h : (top us x v k && anyT us x k v) with
            | false => rfl
            | true => exact absurd ⟨v, hv, h⟩ hc
          obtain ⟨v, hv, h⟩ := this
          rw [Bool.and_eq_true] at h
          have h1 : 1 ≤ cntT us x v k := by have := h.2; unfold anyT at this; simpa using this
          have h2 := cntT_step us x v k
          rw [if_pos h.1] at h2
          have h3 := cntT_mono us x v (show k + 1 ≤ x.length by omega)
          exact okT_no hv (by omega)
        · rw [e, decide_eq_false_iff_not] at hb
          have hb0 : q &&& m = 0 := by omega
          refine ⟨is_congr (is_or his.out hq) (fun v _ => by rw [anyT_step]), fun v hv => ?_⟩
          rw [cntT_step]
          by_cases htp : top us x v k = true
          · have h4 : (q &&& m).testBit v = (top us x v k && anyT us x k v) := hi.2 v hv
            rw [hb0, Nat.zero_testBit, htp, Bool.true_and] at h4
            have h1 : ¬ 1 ≤ cntT us x v k := by
              have h5 : anyT us x k v = false := h4.symm
              unfold anyT at h5
              simpa using h5
            rw [if_pos htp]
            omega
          · rw [if_neg htp]
            have := hone.out v hv
            omega
      have FIN := hid fin
      clear fin
      by_cases hr : x[k] = -1
      · have hq : Is s1 (top us x · k) := is_congr hkI (fun v _ => by unfold top; rw [parOf_at hlt, hr]; simp)
        have t1 : (x[k] != (-1 : Int)) = false := by simp [hr]
        obtain ⟨bb, hbb⟩ : ∃ z, decide (s1 &&& m ≠ 0) = z := ⟨_, rfl⟩
        have F2 := hid (FIN.out s1 hq bb hbb)
        have C := hid (fun W => impl_meets s1 m bb W hq.1 hm hbb)
        obtain ⟨p, hp⟩ : ∃ z, m ||| s1 = z := ⟨_, rfl⟩
        have e2 : bits .or .u64 (m : Int) (s1 : Int) = (p : Int) := by rw [← hp]; exact u_or hm hq.1
        rw [hp] at F2
        clear hr hq hbb hp hs1 hkI FIN his hone
        cases bb with
        | true =>
          have HF := hid (F2.out.1 rfl)
          go_wp2_with fail
          with_reducible refine (C.out _).mono ?_
          rintro e w2 ⟨rfl, rfl⟩
          go_wp2
          go_ret
          exact ⟨by rw [HF.out]; rfl, B1.out⟩
        | false =>
          have HN := hid (F2.out.2 rfl)
          go_wp2_with fail
          with_reducible refine (C.out _).mono ?_
          rintro e w2 ⟨rfl, rfl⟩
          go_wp2
          go_round
          case rel => exact ⟨k + 1, p, by omega, by go_num, rfl, HN.out.1.1, hid HN.out.1, hid HN.out.2⟩
          case measure => simp [intOf]; omega
      · have hpr : 0 ≤ x[k] ∧ x[k] < (x.length : Int) := by
          rcases lead_par hlt (HT.out k hlt) with h | h
          · exact absurd h hr
          · exact h
        obtain ⟨pp, hpp⟩ : ∃ p : Nat, x[k] = (p : Int) := ⟨x[k].toNat, by omega⟩
        have hpx : pp < us.length := by rw [← HLn.out]; omega
        have hpm : pp < ms.length := by rw [HML.out]; exact hpx
        have c2 := uc_cell HG.out pp hpm
        have hpI := set_mv HM.out hpx hpm
        obtain ⟨s2, hs2⟩ : ∃ z, ms[pp] = z := ⟨_, rfl⟩
        rw [hs2] at c2 hpI
        obtain ⟨s3, hs3⟩ : ∃ z, s1 ^^^ (s1 &&& s2) = z := ⟨_, rfl⟩
        have hq : Is s3 (top us x · k) := by
          rw [← hs3]
          refine is_congr (is_sub hkI hpI) (fun v _ => ?_)
          unfold top
          rw [parOf_at hlt, hpp, Int.toNat_natCast, decide_eq_false (by omega), Bool.false_or]
        have e3 : bits .andNot .u64 (s1 : Int) (s2 : Int) = (s3 : Int) := by rw [← hs3]; exact u_sub hkI.1 hpI.1
        have t1 : ((pp : Int) != (-1 : Int)) = true := by simp
        obtain ⟨bb, hbb⟩ : ∃ z, decide (s3 &&& m ≠ 0) = z := ⟨_, rfl⟩
        have F2 := hid (FIN.out s3 hq bb hbb)
        have C := hid (fun W => impl_meets s3 m bb W hq.1 hm hbb)
        obtain ⟨p, hp⟩ : ∃ z, m ||| s3 = z := ⟨_, rfl⟩
        have e2 : bits .or .u64 (m : Int) (s3 : Int) = (p : Int) := by rw [← hp]; exact u_or hm hq.1
        rw [hp] at F2
        rw [hpp] at c0
        have g0 : (0 : Int) ≤ (pp : Int) := by omega
        have g1 : (pp : Int) < (us.length : Int) := by omega
        clear hr hq hbb hp hs1 hs2 hs3 hkI hpI FIN his hone hpr hpp
        cases bb with
        | true =>
          have HF := hid (F2.out.1 rfl)
          go_wp2_with fail
          with_reducible refine (C.out _).mono ?_
          rintro e w2 ⟨rfl, rfl⟩
          go_wp2
          go_ret
          exact ⟨by rw [HF.out]; rfl, B1.out⟩
        | false =>
          have HN := hid (F2.out.2 rfl)
          go_wp2_with fail
          with_reducible refine (C.out _).mono ?_
          rintro e w2 ⟨rfl, rfl⟩
          go_wp2
          go_round
          case rel => exact ⟨k + 1, p, by omega, by go_num, rfl, HN.out.1.1, hid HN.out.1, hid HN.out.2⟩
          case measure => simp [intOf]; omega
    · have hlt' : ¬ (k : Int) < (x.length : Int) := by omega
      have e : k = x.length := by omega
      have HF := hid (show okT us x = true by
        refine okT_yes (fun v hv => ?_)
        have := hone.out v hv
        rw [e] at this
        exact this)
      clear e his hone
      go_wp2
      go_ret
      exact ⟨by rw [HF.out]; rfl, B1.out⟩

set_option maxRecDepth 100000 in
set_option maxHeartbeats 4000000 in
theorem impl_vjt (cs ds : List Value) (x : QueryD) (y : List Int) (lo hi lo' hi' : Nat) (w : World) (hs : szQ x ≤ 1048576) (hs' : szF y ≤ 1048576) (h : rQuery w lo hi cs x) (h' : rRow w lo' hi' ds y) (hh : hi ≤ w.heap.size) (hh' : hi' ≤ w.heap.size) :
    Calls Try.prog 29 #[.agg cs.toArray, .agg ds.toArray] w fun e w' => e = .returned (.bool (vjt x y)) ∧ Below w.heap.size w w' := by
  obtain ⟨q, capq, o, capo, hcs, _, _, hqe, _⟩ := query_open h
  subst hcs
  obtain ⟨a, cap, hds, _, hels⟩ := row_open h'
  subst hds
  have K := hid ((hasl_new w [.int .i64 x.1, .slice q x.2.1.length capq, .slice o x.2.2.length capo] 30).alloc (.cells #[.slice a y.length cap] 39))
  have K2 := hid (hasl_new (w.alloc (.cells #[.int .i64 x.1, .slice q x.2.1.length capq, .slice o x.2.2.length capo] 30)) [.slice a y.length cap] 39)
  simp only [World.size_alloc] at K2
  have B1 := hid (((Below.refl w.heap.size w).alloc (Nat.le_refl _) (.cells #[.int .i64 x.1, .slice q x.2.1.length capq, .slice o x.2.2.length capo] 30)).alloc (by simp) (.cells #[.slice a y.length cap] 39))
  obtain ⟨qv, hqv⟩ : ∃ z, vq x = z := ⟨_, rfl⟩
  obtain ⟨tv, htv⟩ : ∃ z, isT y = z := ⟨_, rfl⟩
  have VQ := hid (fun W (hW : Below w.heap.size w W) => by
    have := impl_vq _ x lo hi W hs (good_query.keep h (sm_below hW hh)) (Nat.le_trans hh hW.size)
    rw [hqv] at this
    exact this)
  have IT := hid (fun W (hW : Below w.heap.size w W) => by
    have := impl_tree _ y lo' hi' W hs' (good_forest.keep h' (sm_below hW hh')) (Nat.le_trans hh' hW.size)
    rw [htv] at this
    exact this)
  have hnu : x.2.1.length ≤ 1048576 := by have := tots_len szA x.2.1; unfold szQ at hs; omega
  have hsa : ∀ j (hj : j < x.2.1.length), x.2.1[j].2.length ≤ 1048576 := fun j hj => by have := elem_le szA x.2.1 j hj; unfold szA at this; unfold szQ szA at hs; omega
  have SE := hid (fun W (hW : Below w.heap.size w W) => impl_sets q capq x.2.1 lo hi W hnu hsa (hqe.grow good_atom hW hh) (Nat.le_trans hh hW.size))
  have CO0 := hid (fun (hl : y.length = x.2.1.length) (ht : isT y = true) W (ms : List Nat) (gs : Nat) (hW : Below w.heap.size w W) (hso : SetsOf x.2.1 ms) (hms : HasL W gs (uc ms)) => impl_conn _ x.2.1 y ms gs lo' hi' W hs' (good_forest.keep h' (sm_below hW hh')) (Nat.le_trans hh' hW.size) hl ht hso hms)
  have HQV := hid hqv
  have HTV := hid htv
  clear h h' hqe hels hs hs' hqv htv hsa
  go_enter Try.func29, Try.ntmps29
  obtain ⟨q0, q1, q2, _, _, _, q6⟩ := K.out.three
  obtain ⟨r0, r1, r2⟩ := K2.out.one
  obtain ⟨w0, hw0⟩ : ∃ z, (w.alloc (.cells #[.int .i64 x.1, .slice q x.2.1.length capq, .slice o x.2.2.length capo] 30)).alloc (.cells #[.slice a y.length cap] 39) = z := ⟨_, rfl⟩
  rw [hw0] at q0 q1 q2 q6 r0 r1 r2 B1
  have hz0 := B1.out.size
  have hlw : w.heap.size + 1 < w0.heap.size := by rw [← hw0]; simp
  cases qv with
  | false =>
    have HF := hid (vjt_q (t := y) HQV.out)
    go_upto_region 1 with fail
    go_cut [4] (fun s wx => s = .bool false ∧ Kp w0 0 wx)
    case first =>
      refine wp_region_held_drew (S := (fun w' => w'.cell? ⟨w.heap.size, 0, none⟩ = some (.int .i64 x.1) ∧ w'.cell? ⟨w.heap.size, 1, none⟩ = some (.slice q x.2.1.length capq) ∧ w'.cell? ⟨w.heap.size, 2, none⟩ = some (.slice o x.2.2.length capo) ∧ w'.cell? ⟨w.heap.size + 1, 0, none⟩ = some (.slice a y.length cap) ∧ Kp w0 0 w')) (by kernel_rfl) ⟨q0, q1, q2, r0, (kp_refl w0).drew⟩ (fun hHeld => ?_)
      refine wpAnyH_take (i := 0) (oi := { dst := some 5, op := .load 30 (.tmp 2), type := _, pos := _, after := _, guard := none }) (v := ?_) rfl (by kernel_rfl) (by kernel_rfl) (by kernel_rfl) (fun _ _ _ h => h) ?_ hHeld ?_
      rotate_left
      · (refine Or.inl ⟨by rfl, fun w hSw => ?_⟩; (try dsimp only at hSw); go_simp; (try with_reducible rfl))
      (try simp only [Act.put, List.setIfInBounds_toArray, List.set_cons_zero, List.set_cons_succ])
      refine wpAnyH_ready (rs := [1]) (by kernel_rfl) (by simp) ?_
      refine AllReadyH.cons (o := { dst := some 6, op := .call { callee := .value (.func 42), args := #[(.tmp 5)], argTypes := #[30] }, type := _, pos := _, after := _, guard := none }) rfl (fun K hK => ?_) AllReadyH.nil
      go_simp
      (with_reducible refine (VQ.out _ (B1.out.trans (hHeld.2.2.2.2.bel.mono hz0))).mono ?_); rintro e wU ⟨rfl, hbU⟩
      (try go_wp2_with fail)
      refine hK.out _ _ ?_ (fun hH2 => ?_)
      · exact ⟨hHeld.2.2.2.2.cell hbU (by omega) hHeld.1, hHeld.2.2.2.2.cell hbU (by omega) hHeld.2.1, hHeld.2.2.2.2.cell hbU (by omega) hHeld.2.2.1, hHeld.2.2.2.2.cell hbU (by omega) hHeld.2.2.2.1, hHeld.2.2.2.2.call hbU⟩
      clear hK K hHeld
      have hHeld := hH2
      clear hH2
      (try simp only [Act.put, List.setIfInBounds_toArray, List.set_cons_zero, List.set_cons_succ])
      refine wpAnyH_take (i := 2) (oi := { dst := some 7, op := .move (.tmp 6), type := _, pos := _, after := _, guard := none }) (v := ?_) rfl (by kernel_rfl) (by kernel_rfl) (by kernel_rfl) (fun _ _ _ h => h) ?_ hHeld ?_
      rotate_left
      · (refine Or.inl ⟨by rfl, fun w hSw => ?_⟩; (try dsimp only at hSw); go_simp; (try with_reducible rfl))
      (try simp only [Act.put, List.setIfInBounds_toArray, List.set_cons_zero, List.set_cons_succ])
      refine wpAnyH_take (i := 3) (oi := { dst := some 8, op := .fieldAddr 39 (.tmp 3) 0, type := _, pos := _, after := _, guard := some (2, true) }) (v := undef) rfl (by kernel_rfl) (by kernel_rfl) (by kernel_rfl) (fun _ _ _ h => h) (Or.inr ?_) hHeld ?_
      · exact ⟨by rfl, rfl⟩
      (try simp only [Act.put, List.setIfInBounds_toArray, List.set_cons_zero, List.set_cons_succ])
      refine wpAnyH_take (i := 4) (oi := { dst := some 9, op := .load 23 (.tmp 8), type := _, pos := _, after := _, guard := some (2, true) }) (v := undef) rfl (by kernel_rfl) (by kernel_rfl) (by kernel_rfl) (fun _ _ _ h => h) (Or.inr ?_) hHeld ?_
      · exact ⟨by rfl, rfl⟩
      (try simp only [Act.put, List.setIfInBounds_toArray, List.set_cons_zero, List.set_cons_succ])
      refine wpAnyH_take (i := 5) (oi := { dst := some 10, op := .call { callee := .builtin .len, args := #[(.tmp 9)], argTypes := #[23] }, type := _, pos := _, after := _, guard := some (2, true) }) (v := undef) rfl (by kernel_rfl) (by kernel_rfl) (by kernel_rfl) (fun _ _ _ h => h) (Or.inr ?_) hHeld ?_
      · exact ⟨by rfl, rfl⟩
      (try simp only [Act.put, List.setIfInBounds_toArray, List.set_cons_zero, List.set_cons_succ])
      refine wpAnyH_take (i := 6) (oi := { dst := some 11, op := .fieldAddr 30 (.tmp 2) 1, type := _, pos := _, after := _, guard := some (2, true) }) (v := undef) rfl (by kernel_rfl) (by kernel_rfl) (by kernel_rfl) (fun _ _ _ h => h) (Or.inr ?_) hHeld ?_
      · exact ⟨by rfl, rfl⟩
      (try simp only [Act.put, List.setIfInBounds_toArray, List.set_cons_zero, List.set_cons_succ])
      refine wpAnyH_take (i := 7) (oi := { dst := some 12, op := .load 28 (.tmp 11), type := _, pos := _, after := _, guard := some (2, true) }) (v := undef) rfl (by kernel_rfl) (by kernel_rfl) (by kernel_rfl) (fun _ _ _ h => h) (Or.inr ?_) hHeld ?_
      · exact ⟨by rfl, rfl⟩
      (try simp only [Act.put, List.setIfInBounds_toArray, List.set_cons_zero, List.set_cons_succ])
      refine wpAnyH_take (i := 8) (oi := { dst := some 13, op := .call { callee := .builtin .len, args := #[(.tmp 12)], argTypes := #[28] }, type := _, pos := _, after := _, guard := some (2, true) }) (v := undef) rfl (by kernel_rfl) (by kernel_rfl) (by kernel_rfl) (fun _ _ _ h => h) (Or.inr ?_) hHeld ?_
      · exact ⟨by rfl, rfl⟩
      (try simp only [Act.put, List.setIfInBounds_toArray, List.set_cons_zero, List.set_cons_succ])
      refine wpAnyH_take (i := 9) (oi := { dst := some 14, op := .binOp .eql 3 (.tmp 10) (.tmp 13) 3, type := _, pos := _, after := _, guard := some (2, true) }) (v := undef) rfl (by kernel_rfl) (by kernel_rfl) (by kernel_rfl) (fun _ _ _ h => h) (Or.inr ?_) hHeld ?_
      · exact ⟨by rfl, rfl⟩
      (try simp only [Act.put, List.setIfInBounds_toArray, List.set_cons_zero, List.set_cons_succ])
      refine wpAnyH_take (i := 10) (oi := { dst := some 15, op := .pick (.tmp 7) (.tmp 14) (.const (.bool false)), type := _, pos := _, after := _, guard := none }) (v := ?_) rfl (by kernel_rfl) (by kernel_rfl) (by kernel_rfl) (fun _ _ _ h => h) ?_ hHeld ?_
      rotate_left
      · (refine Or.inl ⟨by rfl, fun w hSw => ?_⟩; (try dsimp only at hSw); go_simp; (try with_reducible rfl))
      (try simp only [Act.put, List.setIfInBounds_toArray, List.set_cons_zero, List.set_cons_succ])
      refine wpAnyH_take (i := 11) (oi := { dst := some 16, op := .move (.tmp 15), type := _, pos := _, after := _, guard := none }) (v := ?_) rfl (by kernel_rfl) (by kernel_rfl) (by kernel_rfl) (fun _ _ _ h => h) ?_ hHeld ?_
      rotate_left
      · (refine Or.inl ⟨by rfl, fun w hSw => ?_⟩; (try dsimp only at hSw); go_simp; (try with_reducible rfl))
      (try simp only [Act.put, List.setIfInBounds_toArray, List.set_cons_zero, List.set_cons_succ])
      refine wpAnyH_take (i := 12) (oi := { dst := some 17, op := .load 39 (.tmp 3), type := _, pos := _, after := _, guard := some (11, true) }) (v := undef) rfl (by kernel_rfl) (by kernel_rfl) (by kernel_rfl) (fun _ _ _ h => h) (Or.inr ?_) hHeld ?_
      · exact ⟨by rfl, rfl⟩
      (try simp only [Act.put, List.setIfInBounds_toArray, List.set_cons_zero, List.set_cons_succ])
      refine wpAnyH_take (i := 13) (oi := { dst := some 18, op := .call { callee := .value (.func 49), args := #[(.tmp 17)], argTypes := #[39] }, type := _, pos := _, after := _, guard := some (11, true) }) (v := undef) rfl (by kernel_rfl) (by kernel_rfl) (by kernel_rfl) (fun _ _ _ h => h) (Or.inr ?_) hHeld ?_
      · exact ⟨by rfl, rfl⟩
      (try simp only [Act.put, List.setIfInBounds_toArray, List.set_cons_zero, List.set_cons_succ])
      refine wpAnyH_take (i := 14) (oi := { dst := some 19, op := .pick (.tmp 16) (.tmp 18) (.const (.bool false)), type := _, pos := _, after := _, guard := none }) (v := ?_) rfl (by kernel_rfl) (by kernel_rfl) (by kernel_rfl) (fun _ _ _ h => h) ?_ hHeld ?_
      rotate_left
      · (refine Or.inl ⟨by rfl, fun w hSw => ?_⟩; (try dsimp only at hSw); go_simp; (try with_reducible rfl))
      (try simp only [Act.put, List.setIfInBounds_toArray, List.set_cons_zero, List.set_cons_succ])
      refine wpAnyH_take (i := 15) (oi := { dst := some 20, op := .move (.tmp 19), type := _, pos := _, after := _, guard := none }) (v := ?_) rfl (by kernel_rfl) (by kernel_rfl) (by kernel_rfl) (fun _ _ _ h => h) ?_ hHeld ?_
      rotate_left
      · (refine Or.inl ⟨by rfl, fun w hSw => ?_⟩; (try dsimp only at hSw); go_simp; (try with_reducible rfl))
      (try simp only [Act.put, List.setIfInBounds_toArray, List.set_cons_zero, List.set_cons_succ])
      refine wpAnyH_take (i := 16) (oi := { dst := some 21, op := .load 39 (.tmp 3), type := _, pos := _, after := _, guard := some (15, true) }) (v := undef) rfl (by kernel_rfl) (by kernel_rfl) (by kernel_rfl) (fun _ _ _ h => h) (Or.inr ?_) hHeld ?_
      · exact ⟨by rfl, rfl⟩
      (try simp only [Act.put, List.setIfInBounds_toArray, List.set_cons_zero, List.set_cons_succ])
      refine wpAnyH_take (i := 17) (oi := { dst := some 22, op := .fieldAddr 30 (.tmp 2) 1, type := _, pos := _, after := _, guard := some (15, true) }) (v := undef) rfl (by kernel_rfl) (by kernel_rfl) (by kernel_rfl) (fun _ _ _ h => h) (Or.inr ?_) hHeld ?_
      · exact ⟨by rfl, rfl⟩
      (try simp only [Act.put, List.setIfInBounds_toArray, List.set_cons_zero, List.set_cons_succ])
      refine wpAnyH_take (i := 18) (oi := { dst := some 23, op := .load 28 (.tmp 22), type := _, pos := _, after := _, guard := some (15, true) }) (v := undef) rfl (by kernel_rfl) (by kernel_rfl) (by kernel_rfl) (fun _ _ _ h => h) (Or.inr ?_) hHeld ?_
      · exact ⟨by rfl, rfl⟩
      (try simp only [Act.put, List.setIfInBounds_toArray, List.set_cons_zero, List.set_cons_succ])
      refine wpAnyH_take (i := 19) (oi := { dst := some 24, op := .call { callee := .value (.func 51), args := #[(.tmp 23)], argTypes := #[28] }, type := _, pos := _, after := _, guard := some (15, true) }) (v := undef) rfl (by kernel_rfl) (by kernel_rfl) (by kernel_rfl) (fun _ _ _ h => h) (Or.inr ?_) hHeld ?_
      · exact ⟨by rfl, rfl⟩
      (try simp only [Act.put, List.setIfInBounds_toArray, List.set_cons_zero, List.set_cons_succ])
      refine wpAnyH_take (i := 20) (oi := { dst := some 25, op := .call { callee := .value (.func 50), args := #[(.tmp 21), (.tmp 24)], argTypes := #[39, 68] }, type := _, pos := _, after := _, guard := some (15, true) }) (v := undef) rfl (by kernel_rfl) (by kernel_rfl) (by kernel_rfl) (fun _ _ _ h => h) (Or.inr ?_) hHeld ?_
      · exact ⟨by rfl, rfl⟩
      (try simp only [Act.put, List.setIfInBounds_toArray, List.set_cons_zero, List.set_cons_succ])
      refine wpAnyH_take (i := 21) (oi := { dst := some 26, op := .pick (.tmp 20) (.tmp 25) (.const (.bool false)), type := _, pos := _, after := _, guard := none }) (v := ?_) rfl (by kernel_rfl) (by kernel_rfl) (by kernel_rfl) (fun _ _ _ h => h) ?_ hHeld ?_
      rotate_left
      · (refine Or.inl ⟨by rfl, fun w hSw => ?_⟩; (try dsimp only at hSw); go_simp; (try with_reducible rfl))
      (try simp only [Act.put, List.setIfInBounds_toArray, List.set_cons_zero, List.set_cons_succ])
      refine wpAnyH_take (i := 22) (oi := { dst := some 4, op := .assign (.tmp 26), type := _, pos := _, after := _, guard := none }) (v := ?_) rfl (by kernel_rfl) (by kernel_rfl) (by kernel_rfl) (fun _ _ _ h => h) ?_ hHeld ?_
      rotate_left
      · (refine Or.inl ⟨by rfl, fun w hSw => ?_⟩; (try dsimp only at hSw); go_simp; (try with_reducible rfl))
      (try simp only [Act.put, List.setIfInBounds_toArray, List.set_cons_zero, List.set_cons_succ])
      refine wpAnyH_done (by kernel_rfl) ?_ _
      go_wp2_with fail
      go_meet
      exact ⟨by first | rfl | trivial, hHeld.2.2.2.2⟩
    case rest =>
    obtain ⟨rfl, hkp⟩ := hcut
    have HB5 := hid (B1.out.trans (hkp.bel.mono hz0))
    clear hkp
    go_wp2
    go_ret
    exact ⟨by rw [HF.out]; rfl, HB5.out⟩
  | true =>
    by_cases hln : y.length = x.2.1.length
    · have t1 : ((y.length : Int) == (x.2.1.length : Int)) = true := by simp [hln]
      have HLN := hid hln
      clear hln
      cases tv with
      | false =>
        have HF := hid (vjt_t (x := x) HTV.out)
        go_upto_region 1 with fail
        go_cut [4] (fun s wx => s = .bool false ∧ Kp w0 0 wx)
        case first =>
          refine wp_region_held_drew (S := (fun w' => w'.cell? ⟨w.heap.size, 0, none⟩ = some (.int .i64 x.1) ∧ w'.cell? ⟨w.heap.size, 1, none⟩ = some (.slice q x.2.1.length capq) ∧ w'.cell? ⟨w.heap.size, 2, none⟩ = some (.slice o x.2.2.length capo) ∧ w'.cell? ⟨w.heap.size + 1, 0, none⟩ = some (.slice a y.length cap) ∧ Kp w0 0 w')) (by kernel_rfl) ⟨q0, q1, q2, r0, (kp_refl w0).drew⟩ (fun hHeld => ?_)
          refine wpAnyH_take (i := 0) (oi := { dst := some 5, op := .load 30 (.tmp 2), type := _, pos := _, after := _, guard := none }) (v := ?_) rfl (by kernel_rfl) (by kernel_rfl) (by kernel_rfl) (fun _ _ _ h => h) ?_ hHeld ?_
          rotate_left
          · (refine Or.inl ⟨by rfl, fun w hSw => ?_⟩; (try dsimp only at hSw); go_simp; (try with_reducible rfl))
          (try simp only [Act.put, List.setIfInBounds_toArray, List.set_cons_zero, List.set_cons_succ])
          refine wpAnyH_ready (rs := [1]) (by kernel_rfl) (by simp) ?_
          refine AllReadyH.cons (o := { dst := some 6, op := .call { callee := .value (.func 42), args := #[(.tmp 5)], argTypes := #[30] }, type := _, pos := _, after := _, guard := none }) rfl (fun K hK => ?_) AllReadyH.nil
          go_simp
          (with_reducible refine (VQ.out _ (B1.out.trans (hHeld.2.2.2.2.bel.mono hz0))).mono ?_); rintro e wU ⟨rfl, hbU⟩
          (try go_wp2_with fail)
          refine hK.out _ _ ?_ (fun hH2 => ?_)
          · exact ⟨hHeld.2.2.2.2.cell hbU (by omega) hHeld.1, hHeld.2.2.2.2.cell hbU (by omega) hHeld.2.1, hHeld.2.2.2.2.cell hbU (by omega) hHeld.2.2.1, hHeld.2.2.2.2.cell hbU (by omega) hHeld.2.2.2.1, hHeld.2.2.2.2.call hbU⟩
          clear hK K hHeld
          have hHeld := hH2
          clear hH2
          (try simp only [Act.put, List.setIfInBounds_toArray, List.set_cons_zero, List.set_cons_succ])
          refine wpAnyH_take (i := 2) (oi := { dst := some 7, op := .move (.tmp 6), type := _, pos := _, after := _, guard := none }) (v := ?_) rfl (by kernel_rfl) (by kernel_rfl) (by kernel_rfl) (fun _ _ _ h => h) ?_ hHeld ?_
          rotate_left
          · (refine Or.inl ⟨by rfl, fun w hSw => ?_⟩; (try dsimp only at hSw); go_simp; (try with_reducible rfl))
          (try simp only [Act.put, List.setIfInBounds_toArray, List.set_cons_zero, List.set_cons_succ])
          refine wpAnyH_take (i := 3) (oi := { dst := some 8, op := .fieldAddr 39 (.tmp 3) 0, type := _, pos := _, after := _, guard := some (2, true) }) (v := ?_) rfl (by kernel_rfl) (by kernel_rfl) (by kernel_rfl) (fun _ _ _ h => h) ?_ hHeld ?_
          rotate_left
          · (refine Or.inl ⟨by rfl, fun w hSw => ?_⟩; (try dsimp only at hSw); go_simp; (try with_reducible rfl))
          (try simp only [Act.put, List.setIfInBounds_toArray, List.set_cons_zero, List.set_cons_succ])
          refine wpAnyH_take (i := 4) (oi := { dst := some 9, op := .load 23 (.tmp 8), type := _, pos := _, after := _, guard := some (2, true) }) (v := ?_) rfl (by kernel_rfl) (by kernel_rfl) (by kernel_rfl) (fun _ _ _ h => h) ?_ hHeld ?_
          rotate_left
          · (refine Or.inl ⟨by rfl, fun w hSw => ?_⟩; (try dsimp only at hSw); go_simp; (try with_reducible rfl))
          (try simp only [Act.put, List.setIfInBounds_toArray, List.set_cons_zero, List.set_cons_succ])
          refine wpAnyH_take (i := 5) (oi := { dst := some 10, op := .call { callee := .builtin .len, args := #[(.tmp 9)], argTypes := #[23] }, type := _, pos := _, after := _, guard := some (2, true) }) (v := ?_) rfl (by kernel_rfl) (by kernel_rfl) (by kernel_rfl) (fun _ _ _ h => h) ?_ hHeld ?_
          rotate_left
          · (refine Or.inl ⟨by rfl, fun w hSw => ?_⟩; (try dsimp only at hSw); go_simp; (try with_reducible rfl))
          (try simp only [Act.put, List.setIfInBounds_toArray, List.set_cons_zero, List.set_cons_succ])
          refine wpAnyH_take (i := 6) (oi := { dst := some 11, op := .fieldAddr 30 (.tmp 2) 1, type := _, pos := _, after := _, guard := some (2, true) }) (v := ?_) rfl (by kernel_rfl) (by kernel_rfl) (by kernel_rfl) (fun _ _ _ h => h) ?_ hHeld ?_
          rotate_left
          · (refine Or.inl ⟨by rfl, fun w hSw => ?_⟩; (try dsimp only at hSw); go_simp; (try with_reducible rfl))
          (try simp only [Act.put, List.setIfInBounds_toArray, List.set_cons_zero, List.set_cons_succ])
          refine wpAnyH_take (i := 7) (oi := { dst := some 12, op := .load 28 (.tmp 11), type := _, pos := _, after := _, guard := some (2, true) }) (v := ?_) rfl (by kernel_rfl) (by kernel_rfl) (by kernel_rfl) (fun _ _ _ h => h) ?_ hHeld ?_
          rotate_left
          · (refine Or.inl ⟨by rfl, fun w hSw => ?_⟩; (try dsimp only at hSw); go_simp; (try with_reducible rfl))
          (try simp only [Act.put, List.setIfInBounds_toArray, List.set_cons_zero, List.set_cons_succ])
          refine wpAnyH_take (i := 8) (oi := { dst := some 13, op := .call { callee := .builtin .len, args := #[(.tmp 12)], argTypes := #[28] }, type := _, pos := _, after := _, guard := some (2, true) }) (v := ?_) rfl (by kernel_rfl) (by kernel_rfl) (by kernel_rfl) (fun _ _ _ h => h) ?_ hHeld ?_
          rotate_left
          · (refine Or.inl ⟨by rfl, fun w hSw => ?_⟩; (try dsimp only at hSw); go_simp; (try with_reducible rfl))
          (try simp only [Act.put, List.setIfInBounds_toArray, List.set_cons_zero, List.set_cons_succ])
          refine wpAnyH_take (i := 9) (oi := { dst := some 14, op := .binOp .eql 3 (.tmp 10) (.tmp 13) 3, type := _, pos := _, after := _, guard := some (2, true) }) (v := .bool true) rfl (by kernel_rfl) (by kernel_rfl) (by kernel_rfl) (fun _ _ _ h => h) ?_ hHeld ?_
          · (refine Or.inl ⟨by rfl, fun w hSw => ?_⟩; (try dsimp only at hSw); go_simp; (try rfl))
          (try simp only [Act.put, List.setIfInBounds_toArray, List.set_cons_zero, List.set_cons_succ])
          refine wpAnyH_take (i := 10) (oi := { dst := some 15, op := .pick (.tmp 7) (.tmp 14) (.const (.bool false)), type := _, pos := _, after := _, guard := none }) (v := ?_) rfl (by kernel_rfl) (by kernel_rfl) (by kernel_rfl) (fun _ _ _ h => h) ?_ hHeld ?_
          rotate_left
          · (refine Or.inl ⟨by rfl, fun w hSw => ?_⟩; (try dsimp only at hSw); go_simp; (try with_reducible rfl))
          (try simp only [Act.put, List.setIfInBounds_toArray, List.set_cons_zero, List.set_cons_succ])
          refine wpAnyH_take (i := 11) (oi := { dst := some 16, op := .move (.tmp 15), type := _, pos := _, after := _, guard := none }) (v := ?_) rfl (by kernel_rfl) (by kernel_rfl) (by kernel_rfl) (fun _ _ _ h => h) ?_ hHeld ?_
          rotate_left
          · (refine Or.inl ⟨by rfl, fun w hSw => ?_⟩; (try dsimp only at hSw); go_simp; (try with_reducible rfl))
          (try simp only [Act.put, List.setIfInBounds_toArray, List.set_cons_zero, List.set_cons_succ])
          refine wpAnyH_take (i := 12) (oi := { dst := some 17, op := .load 39 (.tmp 3), type := _, pos := _, after := _, guard := some (11, true) }) (v := ?_) rfl (by kernel_rfl) (by kernel_rfl) (by kernel_rfl) (fun _ _ _ h => h) ?_ hHeld ?_
          rotate_left
          · (refine Or.inl ⟨by rfl, fun w hSw => ?_⟩; (try dsimp only at hSw); go_simp; (try with_reducible rfl))
          (try simp only [Act.put, List.setIfInBounds_toArray, List.set_cons_zero, List.set_cons_succ])
          refine wpAnyH_ready (rs := [13]) (by kernel_rfl) (by simp) ?_
          refine AllReadyH.cons (o := { dst := some 18, op := .call { callee := .value (.func 49), args := #[(.tmp 17)], argTypes := #[39] }, type := _, pos := _, after := _, guard := some (11, true) }) rfl (fun K hK => ?_) AllReadyH.nil
          go_simp
          (with_reducible refine (IT.out _ (B1.out.trans (hHeld.2.2.2.2.bel.mono hz0))).mono ?_); rintro e wV ⟨rfl, hbV⟩
          (try go_wp2_with fail)
          refine hK.out _ _ ?_ (fun hH2 => ?_)
          · exact ⟨hHeld.2.2.2.2.cell hbV (by omega) hHeld.1, hHeld.2.2.2.2.cell hbV (by omega) hHeld.2.1, hHeld.2.2.2.2.cell hbV (by omega) hHeld.2.2.1, hHeld.2.2.2.2.cell hbV (by omega) hHeld.2.2.2.1, hHeld.2.2.2.2.call hbV⟩
          clear hK K hHeld
          have hHeld := hH2
          clear hH2
          (try simp only [Act.put, List.setIfInBounds_toArray, List.set_cons_zero, List.set_cons_succ])
          refine wpAnyH_take (i := 14) (oi := { dst := some 19, op := .pick (.tmp 16) (.tmp 18) (.const (.bool false)), type := _, pos := _, after := _, guard := none }) (v := ?_) rfl (by kernel_rfl) (by kernel_rfl) (by kernel_rfl) (fun _ _ _ h => h) ?_ hHeld ?_
          rotate_left
          · (refine Or.inl ⟨by rfl, fun w hSw => ?_⟩; (try dsimp only at hSw); go_simp; (try with_reducible rfl))
          (try simp only [Act.put, List.setIfInBounds_toArray, List.set_cons_zero, List.set_cons_succ])
          refine wpAnyH_take (i := 15) (oi := { dst := some 20, op := .move (.tmp 19), type := _, pos := _, after := _, guard := none }) (v := ?_) rfl (by kernel_rfl) (by kernel_rfl) (by kernel_rfl) (fun _ _ _ h => h) ?_ hHeld ?_
          rotate_left
          · (refine Or.inl ⟨by rfl, fun w hSw => ?_⟩; (try dsimp only at hSw); go_simp; (try with_reducible rfl))
          (try simp only [Act.put, List.setIfInBounds_toArray, List.set_cons_zero, List.set_cons_succ])
          refine wpAnyH_take (i := 16) (oi := { dst := some 21, op := .load 39 (.tmp 3), type := _, pos := _, after := _, guard := some (15, true) }) (v := undef) rfl (by kernel_rfl) (by kernel_rfl) (by kernel_rfl) (fun _ _ _ h => h) (Or.inr ?_) hHeld ?_
          · exact ⟨by rfl, rfl⟩
          (try simp only [Act.put, List.setIfInBounds_toArray, List.set_cons_zero, List.set_cons_succ])
          refine wpAnyH_take (i := 17) (oi := { dst := some 22, op := .fieldAddr 30 (.tmp 2) 1, type := _, pos := _, after := _, guard := some (15, true) }) (v := undef) rfl (by kernel_rfl) (by kernel_rfl) (by kernel_rfl) (fun _ _ _ h => h) (Or.inr ?_) hHeld ?_
          · exact ⟨by rfl, rfl⟩
          (try simp only [Act.put, List.setIfInBounds_toArray, List.set_cons_zero, List.set_cons_succ])
          refine wpAnyH_take (i := 18) (oi := { dst := some 23, op := .load 28 (.tmp 22), type := _, pos := _, after := _, guard := some (15, true) }) (v := undef) rfl (by kernel_rfl) (by kernel_rfl) (by kernel_rfl) (fun _ _ _ h => h) (Or.inr ?_) hHeld ?_
          · exact ⟨by rfl, rfl⟩
          (try simp only [Act.put, List.setIfInBounds_toArray, List.set_cons_zero, List.set_cons_succ])
          refine wpAnyH_take (i := 19) (oi := { dst := some 24, op := .call { callee := .value (.func 51), args := #[(.tmp 23)], argTypes := #[28] }, type := _, pos := _, after := _, guard := some (15, true) }) (v := undef) rfl (by kernel_rfl) (by kernel_rfl) (by kernel_rfl) (fun _ _ _ h => h) (Or.inr ?_) hHeld ?_
          · exact ⟨by rfl, rfl⟩
          (try simp only [Act.put, List.setIfInBounds_toArray, List.set_cons_zero, List.set_cons_succ])
          refine wpAnyH_take (i := 20) (oi := { dst := some 25, op := .call { callee := .value (.func 50), args := #[(.tmp 21), (.tmp 24)], argTypes := #[39, 68] }, type := _, pos := _, after := _, guard := some (15, true) }) (v := undef) rfl (by kernel_rfl) (by kernel_rfl) (by kernel_rfl) (fun _ _ _ h => h) (Or.inr ?_) hHeld ?_
          · exact ⟨by rfl, rfl⟩
          (try simp only [Act.put, List.setIfInBounds_toArray, List.set_cons_zero, List.set_cons_succ])
          refine wpAnyH_take (i := 21) (oi := { dst := some 26, op := .pick (.tmp 20) (.tmp 25) (.const (.bool false)), type := _, pos := _, after := _, guard := none }) (v := ?_) rfl (by kernel_rfl) (by kernel_rfl) (by kernel_rfl) (fun _ _ _ h => h) ?_ hHeld ?_
          rotate_left
          · (refine Or.inl ⟨by rfl, fun w hSw => ?_⟩; (try dsimp only at hSw); go_simp; (try with_reducible rfl))
          (try simp only [Act.put, List.setIfInBounds_toArray, List.set_cons_zero, List.set_cons_succ])
          refine wpAnyH_take (i := 22) (oi := { dst := some 4, op := .assign (.tmp 26), type := _, pos := _, after := _, guard := none }) (v := ?_) rfl (by kernel_rfl) (by kernel_rfl) (by kernel_rfl) (fun _ _ _ h => h) ?_ hHeld ?_
          rotate_left
          · (refine Or.inl ⟨by rfl, fun w hSw => ?_⟩; (try dsimp only at hSw); go_simp; (try with_reducible rfl))
          (try simp only [Act.put, List.setIfInBounds_toArray, List.set_cons_zero, List.set_cons_succ])
          refine wpAnyH_done (by kernel_rfl) ?_ _
          go_wp2_with fail
          go_meet
          exact ⟨by first | rfl | trivial, hHeld.2.2.2.2⟩
        case rest =>
        obtain ⟨rfl, hkp⟩ := hcut
        have HB5 := hid (B1.out.trans (hkp.bel.mono hz0))
        clear hkp
        go_wp2
        go_ret
        exact ⟨by rw [HF.out]; rfl, HB5.out⟩
      | true =>
        have HF := hid (vjt_k HQV.out HLN.out HTV.out)
        obtain ⟨kv, hkv⟩ : ∃ z, okT x.2.1 y = z := ⟨_, rfl⟩
        have CO := hid (CO0.out HLN.out HTV.out)
        rw [hkv] at HF CO
        clear hkv
        go_upto_region 1 with fail
        go_cut [4] (fun s wx => s = .bool kv ∧ Kp w0 0 wx)
        case first =>
          refine wp_region_held_drew (S := (fun w' => w'.cell? ⟨w.heap.size, 0, none⟩ = some (.int .i64 x.1) ∧ w'.cell? ⟨w.heap.size, 1, none⟩ = some (.slice q x.2.1.length capq) ∧ w'.cell? ⟨w.heap.size, 2, none⟩ = some (.slice o x.2.2.length capo) ∧ w'.cell? ⟨w.heap.size + 1, 0, none⟩ = some (.slice a y.length cap) ∧ Kp w0 0 w')) (by kernel_rfl) ⟨q0, q1, q2, r0, (kp_refl w0).drew⟩ (fun hHeld => ?_)
          refine wpAnyH_take (i := 0) (oi := { dst := some 5, op := .load 30 (.tmp 2), type := _, pos := _, after := _, guard := none }) (v := ?_) rfl (by kernel_rfl) (by kernel_rfl) (by kernel_rfl) (fun _ _ _ h => h) ?_ hHeld ?_
          rotate_left
          · (refine Or.inl ⟨by rfl, fun w hSw => ?_⟩; (try dsimp only at hSw); go_simp; (try with_reducible rfl))
          (try simp only [Act.put, List.setIfInBounds_toArray, List.set_cons_zero, List.set_cons_succ])
          refine wpAnyH_ready (rs := [1]) (by kernel_rfl) (by simp) ?_
          refine AllReadyH.cons (o := { dst := some 6, op := .call { callee := .value (.func 42), args := #[(.tmp 5)], argTypes := #[30] }, type := _, pos := _, after := _, guard := none }) rfl (fun K hK => ?_) AllReadyH.nil
          go_simp
          (with_reducible refine (VQ.out _ (B1.out.trans (hHeld.2.2.2.2.bel.mono hz0))).mono ?_); rintro e wU ⟨rfl, hbU⟩
          (try go_wp2_with fail)
          refine hK.out _ _ ?_ (fun hH2 => ?_)
          · exact ⟨hHeld.2.2.2.2.cell hbU (by omega) hHeld.1, hHeld.2.2.2.2.cell hbU (by omega) hHeld.2.1, hHeld.2.2.2.2.cell hbU (by omega) hHeld.2.2.1, hHeld.2.2.2.2.cell hbU (by omega) hHeld.2.2.2.1, hHeld.2.2.2.2.call hbU⟩
          clear hK K hHeld
          have hHeld := hH2
          clear hH2
          (try simp only [Act.put, List.setIfInBounds_toArray, List.set_cons_zero, List.set_cons_succ])
          refine wpAnyH_take (i := 2) (oi := { dst := some 7, op := .move (.tmp 6), type := _, pos := _, after := _, guard := none }) (v := ?_) rfl (by kernel_rfl) (by kernel_rfl) (by kernel_rfl) (fun _ _ _ h => h) ?_ hHeld ?_
          rotate_left
          · (refine Or.inl ⟨by rfl, fun w hSw => ?_⟩; (try dsimp only at hSw); go_simp; (try with_reducible rfl))
          (try simp only [Act.put, List.setIfInBounds_toArray, List.set_cons_zero, List.set_cons_succ])
          refine wpAnyH_take (i := 3) (oi := { dst := some 8, op := .fieldAddr 39 (.tmp 3) 0, type := _, pos := _, after := _, guard := some (2, true) }) (v := ?_) rfl (by kernel_rfl) (by kernel_rfl) (by kernel_rfl) (fun _ _ _ h => h) ?_ hHeld ?_
          rotate_left
          · (refine Or.inl ⟨by rfl, fun w hSw => ?_⟩; (try dsimp only at hSw); go_simp; (try with_reducible rfl))
          (try simp only [Act.put, List.setIfInBounds_toArray, List.set_cons_zero, List.set_cons_succ])
          refine wpAnyH_take (i := 4) (oi := { dst := some 9, op := .load 23 (.tmp 8), type := _, pos := _, after := _, guard := some (2, true) }) (v := ?_) rfl (by kernel_rfl) (by kernel_rfl) (by kernel_rfl) (fun _ _ _ h => h) ?_ hHeld ?_
          rotate_left
          · (refine Or.inl ⟨by rfl, fun w hSw => ?_⟩; (try dsimp only at hSw); go_simp; (try with_reducible rfl))
          (try simp only [Act.put, List.setIfInBounds_toArray, List.set_cons_zero, List.set_cons_succ])
          refine wpAnyH_take (i := 5) (oi := { dst := some 10, op := .call { callee := .builtin .len, args := #[(.tmp 9)], argTypes := #[23] }, type := _, pos := _, after := _, guard := some (2, true) }) (v := ?_) rfl (by kernel_rfl) (by kernel_rfl) (by kernel_rfl) (fun _ _ _ h => h) ?_ hHeld ?_
          rotate_left
          · (refine Or.inl ⟨by rfl, fun w hSw => ?_⟩; (try dsimp only at hSw); go_simp; (try with_reducible rfl))
          (try simp only [Act.put, List.setIfInBounds_toArray, List.set_cons_zero, List.set_cons_succ])
          refine wpAnyH_take (i := 6) (oi := { dst := some 11, op := .fieldAddr 30 (.tmp 2) 1, type := _, pos := _, after := _, guard := some (2, true) }) (v := ?_) rfl (by kernel_rfl) (by kernel_rfl) (by kernel_rfl) (fun _ _ _ h => h) ?_ hHeld ?_
          rotate_left
          · (refine Or.inl ⟨by rfl, fun w hSw => ?_⟩; (try dsimp only at hSw); go_simp; (try with_reducible rfl))
          (try simp only [Act.put, List.setIfInBounds_toArray, List.set_cons_zero, List.set_cons_succ])
          refine wpAnyH_take (i := 7) (oi := { dst := some 12, op := .load 28 (.tmp 11), type := _, pos := _, after := _, guard := some (2, true) }) (v := ?_) rfl (by kernel_rfl) (by kernel_rfl) (by kernel_rfl) (fun _ _ _ h => h) ?_ hHeld ?_
          rotate_left
          · (refine Or.inl ⟨by rfl, fun w hSw => ?_⟩; (try dsimp only at hSw); go_simp; (try with_reducible rfl))
          (try simp only [Act.put, List.setIfInBounds_toArray, List.set_cons_zero, List.set_cons_succ])
          refine wpAnyH_take (i := 8) (oi := { dst := some 13, op := .call { callee := .builtin .len, args := #[(.tmp 12)], argTypes := #[28] }, type := _, pos := _, after := _, guard := some (2, true) }) (v := ?_) rfl (by kernel_rfl) (by kernel_rfl) (by kernel_rfl) (fun _ _ _ h => h) ?_ hHeld ?_
          rotate_left
          · (refine Or.inl ⟨by rfl, fun w hSw => ?_⟩; (try dsimp only at hSw); go_simp; (try with_reducible rfl))
          (try simp only [Act.put, List.setIfInBounds_toArray, List.set_cons_zero, List.set_cons_succ])
          refine wpAnyH_take (i := 9) (oi := { dst := some 14, op := .binOp .eql 3 (.tmp 10) (.tmp 13) 3, type := _, pos := _, after := _, guard := some (2, true) }) (v := .bool true) rfl (by kernel_rfl) (by kernel_rfl) (by kernel_rfl) (fun _ _ _ h => h) ?_ hHeld ?_
          · (refine Or.inl ⟨by rfl, fun w hSw => ?_⟩; (try dsimp only at hSw); go_simp; (try rfl))
          (try simp only [Act.put, List.setIfInBounds_toArray, List.set_cons_zero, List.set_cons_succ])
          refine wpAnyH_take (i := 10) (oi := { dst := some 15, op := .pick (.tmp 7) (.tmp 14) (.const (.bool false)), type := _, pos := _, after := _, guard := none }) (v := ?_) rfl (by kernel_rfl) (by kernel_rfl) (by kernel_rfl) (fun _ _ _ h => h) ?_ hHeld ?_
          rotate_left
          · (refine Or.inl ⟨by rfl, fun w hSw => ?_⟩; (try dsimp only at hSw); go_simp; (try with_reducible rfl))
          (try simp only [Act.put, List.setIfInBounds_toArray, List.set_cons_zero, List.set_cons_succ])
          refine wpAnyH_take (i := 11) (oi := { dst := some 16, op := .move (.tmp 15), type := _, pos := _, after := _, guard := none }) (v := ?_) rfl (by kernel_rfl) (by kernel_rfl) (by kernel_rfl) (fun _ _ _ h => h) ?_ hHeld ?_
          rotate_left
          · (refine Or.inl ⟨by rfl, fun w hSw => ?_⟩; (try dsimp only at hSw); go_simp; (try with_reducible rfl))
          (try simp only [Act.put, List.setIfInBounds_toArray, List.set_cons_zero, List.set_cons_succ])
          refine wpAnyH_take (i := 12) (oi := { dst := some 17, op := .load 39 (.tmp 3), type := _, pos := _, after := _, guard := some (11, true) }) (v := ?_) rfl (by kernel_rfl) (by kernel_rfl) (by kernel_rfl) (fun _ _ _ h => h) ?_ hHeld ?_
          rotate_left
          · (refine Or.inl ⟨by rfl, fun w hSw => ?_⟩; (try dsimp only at hSw); go_simp; (try with_reducible rfl))
          (try simp only [Act.put, List.setIfInBounds_toArray, List.set_cons_zero, List.set_cons_succ])
          refine wpAnyH_ready (rs := [13]) (by kernel_rfl) (by simp) ?_
          refine AllReadyH.cons (o := { dst := some 18, op := .call { callee := .value (.func 49), args := #[(.tmp 17)], argTypes := #[39] }, type := _, pos := _, after := _, guard := some (11, true) }) rfl (fun K hK => ?_) AllReadyH.nil
          go_simp
          (with_reducible refine (IT.out _ (B1.out.trans (hHeld.2.2.2.2.bel.mono hz0))).mono ?_); rintro e wV ⟨rfl, hbV⟩
          (try go_wp2_with fail)
          refine hK.out _ _ ?_ (fun hH2 => ?_)
          · exact ⟨hHeld.2.2.2.2.cell hbV (by omega) hHeld.1, hHeld.2.2.2.2.cell hbV (by omega) hHeld.2.1, hHeld.2.2.2.2.cell hbV (by omega) hHeld.2.2.1, hHeld.2.2.2.2.cell hbV (by omega) hHeld.2.2.2.1, hHeld.2.2.2.2.call hbV⟩
          clear hK K hHeld
          have hHeld := hH2
          clear hH2
          (try simp only [Act.put, List.setIfInBounds_toArray, List.set_cons_zero, List.set_cons_succ])
          refine wpAnyH_take (i := 14) (oi := { dst := some 19, op := .pick (.tmp 16) (.tmp 18) (.const (.bool false)), type := _, pos := _, after := _, guard := none }) (v := ?_) rfl (by kernel_rfl) (by kernel_rfl) (by kernel_rfl) (fun _ _ _ h => h) ?_ hHeld ?_
          rotate_left
          · (refine Or.inl ⟨by rfl, fun w hSw => ?_⟩; (try dsimp only at hSw); go_simp; (try with_reducible rfl))
          (try simp only [Act.put, List.setIfInBounds_toArray, List.set_cons_zero, List.set_cons_succ])
          refine wpAnyH_take (i := 15) (oi := { dst := some 20, op := .move (.tmp 19), type := _, pos := _, after := _, guard := none }) (v := ?_) rfl (by kernel_rfl) (by kernel_rfl) (by kernel_rfl) (fun _ _ _ h => h) ?_ hHeld ?_
          rotate_left
          · (refine Or.inl ⟨by rfl, fun w hSw => ?_⟩; (try dsimp only at hSw); go_simp; (try with_reducible rfl))
          (try simp only [Act.put, List.setIfInBounds_toArray, List.set_cons_zero, List.set_cons_succ])
          refine wpAnyH_take (i := 16) (oi := { dst := some 21, op := .load 39 (.tmp 3), type := _, pos := _, after := _, guard := some (15, true) }) (v := ?_) rfl (by kernel_rfl) (by kernel_rfl) (by kernel_rfl) (fun _ _ _ h => h) ?_ hHeld ?_
          rotate_left
          · (refine Or.inl ⟨by rfl, fun w hSw => ?_⟩; (try dsimp only at hSw); go_simp; (try with_reducible rfl))
          (try simp only [Act.put, List.setIfInBounds_toArray, List.set_cons_zero, List.set_cons_succ])
          refine wpAnyH_take (i := 17) (oi := { dst := some 22, op := .fieldAddr 30 (.tmp 2) 1, type := _, pos := _, after := _, guard := some (15, true) }) (v := ?_) rfl (by kernel_rfl) (by kernel_rfl) (by kernel_rfl) (fun _ _ _ h => h) ?_ hHeld ?_
          rotate_left
          · (refine Or.inl ⟨by rfl, fun w hSw => ?_⟩; (try dsimp only at hSw); go_simp; (try with_reducible rfl))
          (try simp only [Act.put, List.setIfInBounds_toArray, List.set_cons_zero, List.set_cons_succ])
          refine wpAnyH_take (i := 18) (oi := { dst := some 23, op := .load 28 (.tmp 22), type := _, pos := _, after := _, guard := some (15, true) }) (v := ?_) rfl (by kernel_rfl) (by kernel_rfl) (by kernel_rfl) (fun _ _ _ h => h) ?_ hHeld ?_
          rotate_left
          · (refine Or.inl ⟨by rfl, fun w hSw => ?_⟩; (try dsimp only at hSw); go_simp; (try with_reducible rfl))
          (try simp only [Act.put, List.setIfInBounds_toArray, List.set_cons_zero, List.set_cons_succ])
          refine wpAnyH_ready (rs := [19]) (by kernel_rfl) (by simp) ?_
          refine AllReadyH.cons (o := { dst := some 24, op := .call { callee := .value (.func 51), args := #[(.tmp 23)], argTypes := #[28] }, type := _, pos := _, after := _, guard := some (15, true) }) rfl (fun K hK => ?_) AllReadyH.nil
          go_simp
          (with_reducible refine (SE.out _ (B1.out.trans (hHeld.2.2.2.2.bel.mono hz0))).mono ?_); rintro e wS ⟨gs, ms, rfl, hgs, hms, hso, hbS⟩
          (try go_wp2_with fail)
          refine hK.out _ _ ?_ (fun hH2 => ?_)
          · exact ⟨hHeld.2.2.2.2.cell hbS (by omega) hHeld.1, hHeld.2.2.2.2.cell hbS (by omega) hHeld.2.1, hHeld.2.2.2.2.cell hbS (by omega) hHeld.2.2.1, hHeld.2.2.2.2.cell hbS (by omega) hHeld.2.2.2.1, hHeld.2.2.2.2.call hbS⟩
          clear hK K hHeld
          have hHeld := hH2
          clear hH2
          (try simp only [Act.put, List.setIfInBounds_toArray, List.set_cons_zero, List.set_cons_succ])
          refine wpAnyH_ready (rs := [20]) (by kernel_rfl) (by simp) ?_
          refine AllReadyH.cons (o := { dst := some 25, op := .call { callee := .value (.func 50), args := #[(.tmp 21), (.tmp 24)], argTypes := #[39, 68] }, type := _, pos := _, after := _, guard := some (15, true) }) rfl (fun K hK => ?_) AllReadyH.nil
          go_simp
          (with_reducible refine (CO.out _ ms gs (B1.out.trans (hHeld.2.2.2.2.bel.mono hz0)) hso hms).mono ?_); rintro e wC ⟨rfl, hbC⟩
          (try go_wp2_with fail)
          refine hK.out _ _ ?_ (fun hH2 => ?_)
          · exact ⟨hHeld.2.2.2.2.cell hbC (by omega) hHeld.1, hHeld.2.2.2.2.cell hbC (by omega) hHeld.2.1, hHeld.2.2.2.2.cell hbC (by omega) hHeld.2.2.1, hHeld.2.2.2.2.cell hbC (by omega) hHeld.2.2.2.1, hHeld.2.2.2.2.call hbC⟩
          clear hK K hHeld
          have hHeld := hH2
          clear hH2
          (try simp only [Act.put, List.setIfInBounds_toArray, List.set_cons_zero, List.set_cons_succ])
          refine wpAnyH_take (i := 21) (oi := { dst := some 26, op := .pick (.tmp 20) (.tmp 25) (.const (.bool false)), type := _, pos := _, after := _, guard := none }) (v := ?_) rfl (by kernel_rfl) (by kernel_rfl) (by kernel_rfl) (fun _ _ _ h => h) ?_ hHeld ?_
          rotate_left
          · (refine Or.inl ⟨by rfl, fun w hSw => ?_⟩; (try dsimp only at hSw); go_simp; (try with_reducible rfl))
          (try simp only [Act.put, List.setIfInBounds_toArray, List.set_cons_zero, List.set_cons_succ])
          refine wpAnyH_take (i := 22) (oi := { dst := some 4, op := .assign (.tmp 26), type := _, pos := _, after := _, guard := none }) (v := ?_) rfl (by kernel_rfl) (by kernel_rfl) (by kernel_rfl) (fun _ _ _ h => h) ?_ hHeld ?_
          rotate_left
          · (refine Or.inl ⟨by rfl, fun w hSw => ?_⟩; (try dsimp only at hSw); go_simp; (try with_reducible rfl))
          (try simp only [Act.put, List.setIfInBounds_toArray, List.set_cons_zero, List.set_cons_succ])
          refine wpAnyH_done (by kernel_rfl) ?_ _
          go_wp2_with fail
          go_meet
          exact ⟨by first | rfl | trivial, hHeld.2.2.2.2⟩
        case rest =>
        obtain ⟨rfl, hkp⟩ := hcut
        have HB5 := hid (B1.out.trans (hkp.bel.mono hz0))
        clear hkp
        go_wp2
        go_ret
        exact ⟨by rw [HF.out]; rfl, HB5.out⟩
    · have t1 : ((y.length : Int) == (x.2.1.length : Int)) = false := by simp; omega
      have HF := hid (vjt_n hln)
      clear hln
      go_upto_region 1 with fail
      go_cut [4] (fun s wx => s = .bool false ∧ Kp w0 0 wx)
      case first =>
        refine wp_region_held_drew (S := (fun w' => w'.cell? ⟨w.heap.size, 0, none⟩ = some (.int .i64 x.1) ∧ w'.cell? ⟨w.heap.size, 1, none⟩ = some (.slice q x.2.1.length capq) ∧ w'.cell? ⟨w.heap.size, 2, none⟩ = some (.slice o x.2.2.length capo) ∧ w'.cell? ⟨w.heap.size + 1, 0, none⟩ = some (.slice a y.length cap) ∧ Kp w0 0 w')) (by kernel_rfl) ⟨q0, q1, q2, r0, (kp_refl w0).drew⟩ (fun hHeld => ?_)
        refine wpAnyH_take (i := 0) (oi := { dst := some 5, op := .load 30 (.tmp 2), type := _, pos := _, after := _, guard := none }) (v := ?_) rfl (by kernel_rfl) (by kernel_rfl) (by kernel_rfl) (fun _ _ _ h => h) ?_ hHeld ?_
        rotate_left
        · (refine Or.inl ⟨by rfl, fun w hSw => ?_⟩; (try dsimp only at hSw); go_simp; (try with_reducible rfl))
        (try simp only [Act.put, List.setIfInBounds_toArray, List.set_cons_zero, List.set_cons_succ])
        refine wpAnyH_ready (rs := [1]) (by kernel_rfl) (by simp) ?_
        refine AllReadyH.cons (o := { dst := some 6, op := .call { callee := .value (.func 42), args := #[(.tmp 5)], argTypes := #[30] }, type := _, pos := _, after := _, guard := none }) rfl (fun K hK => ?_) AllReadyH.nil
        go_simp
        (with_reducible refine (VQ.out _ (B1.out.trans (hHeld.2.2.2.2.bel.mono hz0))).mono ?_); rintro e wU ⟨rfl, hbU⟩
        (try go_wp2_with fail)
        refine hK.out _ _ ?_ (fun hH2 => ?_)
        · exact ⟨hHeld.2.2.2.2.cell hbU (by omega) hHeld.1, hHeld.2.2.2.2.cell hbU (by omega) hHeld.2.1, hHeld.2.2.2.2.cell hbU (by omega) hHeld.2.2.1, hHeld.2.2.2.2.cell hbU (by omega) hHeld.2.2.2.1, hHeld.2.2.2.2.call hbU⟩
        clear hK K hHeld
        have hHeld := hH2
        clear hH2
        (try simp only [Act.put, List.setIfInBounds_toArray, List.set_cons_zero, List.set_cons_succ])
        refine wpAnyH_take (i := 2) (oi := { dst := some 7, op := .move (.tmp 6), type := _, pos := _, after := _, guard := none }) (v := ?_) rfl (by kernel_rfl) (by kernel_rfl) (by kernel_rfl) (fun _ _ _ h => h) ?_ hHeld ?_
        rotate_left
        · (refine Or.inl ⟨by rfl, fun w hSw => ?_⟩; (try dsimp only at hSw); go_simp; (try with_reducible rfl))
        (try simp only [Act.put, List.setIfInBounds_toArray, List.set_cons_zero, List.set_cons_succ])
        refine wpAnyH_take (i := 3) (oi := { dst := some 8, op := .fieldAddr 39 (.tmp 3) 0, type := _, pos := _, after := _, guard := some (2, true) }) (v := ?_) rfl (by kernel_rfl) (by kernel_rfl) (by kernel_rfl) (fun _ _ _ h => h) ?_ hHeld ?_
        rotate_left
        · (refine Or.inl ⟨by rfl, fun w hSw => ?_⟩; (try dsimp only at hSw); go_simp; (try with_reducible rfl))
        (try simp only [Act.put, List.setIfInBounds_toArray, List.set_cons_zero, List.set_cons_succ])
        refine wpAnyH_take (i := 4) (oi := { dst := some 9, op := .load 23 (.tmp 8), type := _, pos := _, after := _, guard := some (2, true) }) (v := ?_) rfl (by kernel_rfl) (by kernel_rfl) (by kernel_rfl) (fun _ _ _ h => h) ?_ hHeld ?_
        rotate_left
        · (refine Or.inl ⟨by rfl, fun w hSw => ?_⟩; (try dsimp only at hSw); go_simp; (try with_reducible rfl))
        (try simp only [Act.put, List.setIfInBounds_toArray, List.set_cons_zero, List.set_cons_succ])
        refine wpAnyH_take (i := 5) (oi := { dst := some 10, op := .call { callee := .builtin .len, args := #[(.tmp 9)], argTypes := #[23] }, type := _, pos := _, after := _, guard := some (2, true) }) (v := ?_) rfl (by kernel_rfl) (by kernel_rfl) (by kernel_rfl) (fun _ _ _ h => h) ?_ hHeld ?_
        rotate_left
        · (refine Or.inl ⟨by rfl, fun w hSw => ?_⟩; (try dsimp only at hSw); go_simp; (try with_reducible rfl))
        (try simp only [Act.put, List.setIfInBounds_toArray, List.set_cons_zero, List.set_cons_succ])
        refine wpAnyH_take (i := 6) (oi := { dst := some 11, op := .fieldAddr 30 (.tmp 2) 1, type := _, pos := _, after := _, guard := some (2, true) }) (v := ?_) rfl (by kernel_rfl) (by kernel_rfl) (by kernel_rfl) (fun _ _ _ h => h) ?_ hHeld ?_
        rotate_left
        · (refine Or.inl ⟨by rfl, fun w hSw => ?_⟩; (try dsimp only at hSw); go_simp; (try with_reducible rfl))
        (try simp only [Act.put, List.setIfInBounds_toArray, List.set_cons_zero, List.set_cons_succ])
        refine wpAnyH_take (i := 7) (oi := { dst := some 12, op := .load 28 (.tmp 11), type := _, pos := _, after := _, guard := some (2, true) }) (v := ?_) rfl (by kernel_rfl) (by kernel_rfl) (by kernel_rfl) (fun _ _ _ h => h) ?_ hHeld ?_
        rotate_left
        · (refine Or.inl ⟨by rfl, fun w hSw => ?_⟩; (try dsimp only at hSw); go_simp; (try with_reducible rfl))
        (try simp only [Act.put, List.setIfInBounds_toArray, List.set_cons_zero, List.set_cons_succ])
        refine wpAnyH_take (i := 8) (oi := { dst := some 13, op := .call { callee := .builtin .len, args := #[(.tmp 12)], argTypes := #[28] }, type := _, pos := _, after := _, guard := some (2, true) }) (v := ?_) rfl (by kernel_rfl) (by kernel_rfl) (by kernel_rfl) (fun _ _ _ h => h) ?_ hHeld ?_
        rotate_left
        · (refine Or.inl ⟨by rfl, fun w hSw => ?_⟩; (try dsimp only at hSw); go_simp; (try with_reducible rfl))
        (try simp only [Act.put, List.setIfInBounds_toArray, List.set_cons_zero, List.set_cons_succ])
        refine wpAnyH_take (i := 9) (oi := { dst := some 14, op := .binOp .eql 3 (.tmp 10) (.tmp 13) 3, type := _, pos := _, after := _, guard := some (2, true) }) (v := .bool false) rfl (by kernel_rfl) (by kernel_rfl) (by kernel_rfl) (fun _ _ _ h => h) ?_ hHeld ?_
        · (refine Or.inl ⟨by rfl, fun w hSw => ?_⟩; (try dsimp only at hSw); go_simp; (try rfl))
        (try simp only [Act.put, List.setIfInBounds_toArray, List.set_cons_zero, List.set_cons_succ])
        refine wpAnyH_take (i := 10) (oi := { dst := some 15, op := .pick (.tmp 7) (.tmp 14) (.const (.bool false)), type := _, pos := _, after := _, guard := none }) (v := ?_) rfl (by kernel_rfl) (by kernel_rfl) (by kernel_rfl) (fun _ _ _ h => h) ?_ hHeld ?_
        rotate_left
        · (refine Or.inl ⟨by rfl, fun w hSw => ?_⟩; (try dsimp only at hSw); go_simp; (try with_reducible rfl))
        (try simp only [Act.put, List.setIfInBounds_toArray, List.set_cons_zero, List.set_cons_succ])
        refine wpAnyH_take (i := 11) (oi := { dst := some 16, op := .move (.tmp 15), type := _, pos := _, after := _, guard := none }) (v := ?_) rfl (by kernel_rfl) (by kernel_rfl) (by kernel_rfl) (fun _ _ _ h => h) ?_ hHeld ?_
        rotate_left
        · (refine Or.inl ⟨by rfl, fun w hSw => ?_⟩; (try dsimp only at hSw); go_simp; (try with_reducible rfl))
        (try simp only [Act.put, List.setIfInBounds_toArray, List.set_cons_zero, List.set_cons_succ])
        refine wpAnyH_take (i := 12) (oi := { dst := some 17, op := .load 39 (.tmp 3), type := _, pos := _, after := _, guard := some (11, true) }) (v := undef) rfl (by kernel_rfl) (by kernel_rfl) (by kernel_rfl) (fun _ _ _ h => h) (Or.inr ?_) hHeld ?_
        · exact ⟨by rfl, rfl⟩
        (try simp only [Act.put, List.setIfInBounds_toArray, List.set_cons_zero, List.set_cons_succ])
        refine wpAnyH_take (i := 13) (oi := { dst := some 18, op := .call { callee := .value (.func 49), args := #[(.tmp 17)], argTypes := #[39] }, type := _, pos := _, after := _, guard := some (11, true) }) (v := undef) rfl (by kernel_rfl) (by kernel_rfl) (by kernel_rfl) (fun _ _ _ h => h) (Or.inr ?_) hHeld ?_
        · exact ⟨by rfl, rfl⟩
        (try simp only [Act.put, List.setIfInBounds_toArray, List.set_cons_zero, List.set_cons_succ])
        refine wpAnyH_take (i := 14) (oi := { dst := some 19, op := .pick (.tmp 16) (.tmp 18) (.const (.bool false)), type := _, pos := _, after := _, guard := none }) (v := ?_) rfl (by kernel_rfl) (by kernel_rfl) (by kernel_rfl) (fun _ _ _ h => h) ?_ hHeld ?_
        rotate_left
        · (refine Or.inl ⟨by rfl, fun w hSw => ?_⟩; (try dsimp only at hSw); go_simp; (try with_reducible rfl))
        (try simp only [Act.put, List.setIfInBounds_toArray, List.set_cons_zero, List.set_cons_succ])
        refine wpAnyH_take (i := 15) (oi := { dst := some 20, op := .move (.tmp 19), type := _, pos := _, after := _, guard := none }) (v := ?_) rfl (by kernel_rfl) (by kernel_rfl) (by kernel_rfl) (fun _ _ _ h => h) ?_ hHeld ?_
        rotate_left
        · (refine Or.inl ⟨by rfl, fun w hSw => ?_⟩; (try dsimp only at hSw); go_simp; (try with_reducible rfl))
        (try simp only [Act.put, List.setIfInBounds_toArray, List.set_cons_zero, List.set_cons_succ])
        refine wpAnyH_take (i := 16) (oi := { dst := some 21, op := .load 39 (.tmp 3), type := _, pos := _, after := _, guard := some (15, true) }) (v := undef) rfl (by kernel_rfl) (by kernel_rfl) (by kernel_rfl) (fun _ _ _ h => h) (Or.inr ?_) hHeld ?_
        · exact ⟨by rfl, rfl⟩
        (try simp only [Act.put, List.setIfInBounds_toArray, List.set_cons_zero, List.set_cons_succ])
        refine wpAnyH_take (i := 17) (oi := { dst := some 22, op := .fieldAddr 30 (.tmp 2) 1, type := _, pos := _, after := _, guard := some (15, true) }) (v := undef) rfl (by kernel_rfl) (by kernel_rfl) (by kernel_rfl) (fun _ _ _ h => h) (Or.inr ?_) hHeld ?_
        · exact ⟨by rfl, rfl⟩
        (try simp only [Act.put, List.setIfInBounds_toArray, List.set_cons_zero, List.set_cons_succ])
        refine wpAnyH_take (i := 18) (oi := { dst := some 23, op := .load 28 (.tmp 22), type := _, pos := _, after := _, guard := some (15, true) }) (v := undef) rfl (by kernel_rfl) (by kernel_rfl) (by kernel_rfl) (fun _ _ _ h => h) (Or.inr ?_) hHeld ?_
        · exact ⟨by rfl, rfl⟩
        (try simp only [Act.put, List.setIfInBounds_toArray, List.set_cons_zero, List.set_cons_succ])
        refine wpAnyH_take (i := 19) (oi := { dst := some 24, op := .call { callee := .value (.func 51), args := #[(.tmp 23)], argTypes := #[28] }, type := _, pos := _, after := _, guard := some (15, true) }) (v := undef) rfl (by kernel_rfl) (by kernel_rfl) (by kernel_rfl) (fun _ _ _ h => h) (Or.inr ?_) hHeld ?_
        · exact ⟨by rfl, rfl⟩
        (try simp only [Act.put, List.setIfInBounds_toArray, List.set_cons_zero, List.set_cons_succ])
        refine wpAnyH_take (i := 20) (oi := { dst := some 25, op := .call { callee := .value (.func 50), args := #[(.tmp 21), (.tmp 24)], argTypes := #[39, 68] }, type := _, pos := _, after := _, guard := some (15, true) }) (v := undef) rfl (by kernel_rfl) (by kernel_rfl) (by kernel_rfl) (fun _ _ _ h => h) (Or.inr ?_) hHeld ?_
        · exact ⟨by rfl, rfl⟩
        (try simp only [Act.put, List.setIfInBounds_toArray, List.set_cons_zero, List.set_cons_succ])
        refine wpAnyH_take (i := 21) (oi := { dst := some 26, op := .pick (.tmp 20) (.tmp 25) (.const (.bool false)), type := _, pos := _, after := _, guard := none }) (v := ?_) rfl (by kernel_rfl) (by kernel_rfl) (by kernel_rfl) (fun _ _ _ h => h) ?_ hHeld ?_
        rotate_left
        · (refine Or.inl ⟨by rfl, fun w hSw => ?_⟩; (try dsimp only at hSw); go_simp; (try with_reducible rfl))
        (try simp only [Act.put, List.setIfInBounds_toArray, List.set_cons_zero, List.set_cons_succ])
        refine wpAnyH_take (i := 22) (oi := { dst := some 4, op := .assign (.tmp 26), type := _, pos := _, after := _, guard := none }) (v := ?_) rfl (by kernel_rfl) (by kernel_rfl) (by kernel_rfl) (fun _ _ _ h => h) ?_ hHeld ?_
        rotate_left
        · (refine Or.inl ⟨by rfl, fun w hSw => ?_⟩; (try dsimp only at hSw); go_simp; (try with_reducible rfl))
        (try simp only [Act.put, List.setIfInBounds_toArray, List.set_cons_zero, List.set_cons_succ])
        refine wpAnyH_done (by kernel_rfl) ?_ _
        go_wp2_with fail
        go_meet
        exact ⟨by first | rfl | trivial, hHeld.2.2.2.2⟩
      case rest =>
      obtain ⟨rfl, hkp⟩ := hcut
      have HB5 := hid (B1.out.trans (hkp.bel.mono hz0))
      clear hkp
      go_wp2
      go_ret
      exact ⟨by rw [HF.out]; rfl, HB5.out⟩
end Go.Proofs.Ytaeeogighoobdaa.JtvI
