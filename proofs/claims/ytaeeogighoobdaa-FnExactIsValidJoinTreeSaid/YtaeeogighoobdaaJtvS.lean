/- IsValidJoinTree, the model's: l10Path, and the whole. -/
import Derived.Test.YtaeeogighoobdaaJtvP
import Derived.Test.YtaeeogighoobdaaLawKit
import Derived.Test.YtaeeogighoobdaaKeep
import Derived.Test.YtaeeogighoobdaaKept
import Derived.Deep.RegionHeld3
import Derived.Deep.DeepCutAuto
import Derived.Deep.LoopGhost
namespace Go.Proofs.Ytaeeogighoobdaa.JtvS
open Go.RowKit
open Go.Proofs.Ytaeeogighoobdaa.VarName Go.Proofs.Ytaeeogighoobdaa.Num Go.Proofs.Ytaeeogighoobdaa.IntRow Go.Proofs.Ytaeeogighoobdaa.IntLaw Go.Proofs.Ytaeeogighoobdaa.Rdr Go.Proofs.Ytaeeogighoobdaa.Dat Go.Proofs.Ytaeeogighoobdaa.HasL Go.Proofs.Ytaeeogighoobdaa.VarIn Go.Proofs.Ytaeeogighoobdaa.SetV Go.Proofs.Ytaeeogighoobdaa.SetJ Go.Proofs.Ytaeeogighoobdaa.QryP Go.Proofs.Ytaeeogighoobdaa.QryVS Go.Proofs.Ytaeeogighoobdaa.Gyo Go.Proofs.Ytaeeogighoobdaa.Forest Go.Proofs.Ytaeeogighoobdaa.Jtr Go.Proofs.Ytaeeogighoobdaa.JtvP Go.Proofs.Ytaeeogighoobdaa.LawKit Go.Proofs.Ytaeeogighoobdaa.Keep Go.Proofs.Ytaeeogighoobdaa.Kept
set_option linter.unusedVariables false

/-- The state of a way with j atoms p, at z. -/
def Way (t : List Int) (i j : Nat) (z : Int) (p : List Int) : Prop :=
  (j ≤ t.length ∧ ((∃ m : Nat, z = (m : Int) ∧ m < t.length ∧ lead t t.length i = lead t (t.length - j) m) ∨ (¬ (0 ≤ z ∧ z < (t.length : Int)) ∧ 1 ≤ j ∧ ∃ l, ∃ h : l < t.length, p[j - 1]? = some (l : Int) ∧ lead t t.length i = decide (t[l] = -1)))) ∨ (j = t.length + 1 ∧ lead t t.length i = false)
theorem way_step {t : List Int} {i j m : Nat} {p : List Int} (hp : p.length = j) (hj : j ≤ t.length) (hm : m < t.length) (h : Way t i j (m : Int) p) : Way t i (j + 1) t[m] (p ++ [(m : Int)]) := by
  have hl : lead t t.length i = lead t (t.length - j) m := by
    rcases h with ⟨_, ⟨m', e, _, h1⟩ | ⟨h1, _⟩⟩ | ⟨h1, _⟩
    · have : m = m' := by omega
      subst this; exact h1
    · exact absurd ⟨by omega, by omega⟩ h1
    · omega
  have hlast : (p ++ [(m : Int)])[j + 1 - 1]? = some (m : Int) := by
    rw [Nat.add_sub_cancel, List.getElem?_append_right (by omega), hp, Nat.sub_self]
    rfl
  by_cases hjn : j = t.length
  · right
    refine ⟨by omega, ?_⟩
    rw [hl, show t.length - j = 0 by omega]
    rfl
  · left
    obtain ⟨f, hf⟩ : ∃ f, t.length - j = f + 1 := ⟨t.length - j - 1, by omega⟩
    rw [hf] at hl
    refine ⟨by omega, ?_⟩
    by_cases h1 : t[m] = -1
    · right
      refine ⟨by omega, by omega, m, hm, hlast, ?_⟩
      rw [hl, lead_root hm h1, decide_eq_true h1]
    · by_cases h2 : 0 ≤ t[m] ∧ t[m] < (t.length : Int)
      · left
        obtain ⟨q, hq⟩ : ∃ q : Nat, t[m] = (q : Int) := ⟨t[m].toNat, by omega⟩
        refine ⟨q, hq, by omega, ?_⟩
        rw [hl, lead_on hm hq (by omega)]
        congr 1
        omega
      · right
        refine ⟨h2, by omega, m, hm, hlast, ?_⟩
        rw [hl, lead_out hm h1 h2, decide_eq_false h1]
/-- What the way is in the end. -/
def WayEnd (t : List Int) (i : Nat) (p : List Int) : Prop := (p.length = t.length + 1 ∧ lead t t.length i = false) ∨ (1 ≤ p.length ∧ p.length ≤ t.length ∧ ∃ l, ∃ h : l < t.length, p[p.length - 1]? = some (l : Int) ∧ lead t t.length i = decide (t[l] = -1))
theorem way_end {t : List Int} {i j : Nat} {z : Int} {p : List Int} (hp : p.length = j) (h : Way t i j z p) (he : ¬ (0 ≤ z ∧ z < (t.length : Int)) ∨ j = t.length + 1) : WayEnd t i p := by
  rcases h with ⟨hj, ⟨m, e, hm, _⟩ | ⟨_, h1, l, hl, h2, h3⟩⟩ | ⟨h1, h2⟩
  · rcases he with h | h
    · exact absurd ⟨by omega, by omega⟩ h
    · omega
  · subst hp
    exact .inr ⟨h1, hj, l, hl, h2, h3⟩
  · exact .inl ⟨by omega, h2⟩
def Pth (t : List Int) (i : Nat) (w : World) (e : Ending) (w' : World) : Prop := ∃ av capv p, e = .returned (.slice av p.length capv) ∧ Own w' w.heap.size 3 (.slice av p.length capv) p ∧ WayEnd t i p ∧ Below w.heap.size w w'

set_option maxRecDepth 100000 in
set_option maxHeartbeats 1000000 in
theorem spec_path (cs : List Value) (x : List Int) (i : Nat) (lo hi : Nat) (w : World) (hs : szF x ≤ 1048576) (h : rRow w lo hi cs x) (hh : hi ≤ w.heap.size) (hi' : i < x.length) :
    Calls Try.prog 47 #[.agg cs.toArray, .int .i64 (i : Int)] w (Pth x i w) := by
  obtain ⟨i0, hi0, hz0, hz1, hz2⟩ := info_parts IntLaw.info
  obtain ⟨a, cap, hcs, _, hels⟩ := row_open h
  subst hcs
  have K := hid (hasl_new w [.slice a x.length cap] 39)
  have B1 := hid ((Below.refl w.heap.size w).alloc (Nat.le_refl _) (.cells #[.slice a x.length cap] 39))
  have hn : x.length ≤ 1048576 := hs
  have HE := hid hels
  have hiw := hh
  obtain ⟨n1, hn1⟩ : ∃ z, x.length - 1 = z := ⟨_, rfl⟩
  have e1 : IntKind.i64.wrap ((x.length : Int) - 1) = (n1 : Int) := by rw [show (x.length : Int) - 1 = (n1 : Int) by omega]; exact Num.wrap_small n1 (by omega)
  have HN1 := hid hn1
  clear h hels hs hn1
  go_enter Try.func47, Try.ntmps47
  go_wp2
  go_loopg [1, 5] (x.length + 1) (fun g c v wr => ∃ (j : Nat) (z : Int) (p : List Int) (v5 : Value), j + g = x.length + 1 ∧ p.length = j ∧ c = .int .i64 z ∧ v5 = v ∧ Own wr (w.heap.size + 1) 3 v5 p ∧ Hid (Way x i j z p) ∧ Hid (HasL wr w.heap.size [.slice a x.length cap]) ∧ Hid (Below w.heap.size w wr) ∧ w.heap.size + 1 ≤ wr.heap.size)
  case atStart => exact ⟨0, (i : Int), [], _, by omega, rfl, rfl, rfl, by simpa using own_lit (w.alloc (.cells #[.slice a x.length cap] 39)) (w.heap.size + 1) 3 (by simp), hid (.inl ⟨Nat.zero_le _, .inl ⟨i, rfl, hi', rfl⟩⟩), hid (K.out.alloc _), hid (B1.out.alloc B1.out.size _), by simp⟩
  case round =>
    obtain ⟨j, z, p, v5, hjg, hpl, rfl, rfl, hown, hway, k0, hb, hsz⟩ := hrel
    obtain ⟨w1, rfl⟩ : ∃ w1 : World, w1 = wr := ⟨_, rfl⟩
    obtain ⟨G, rfl⟩ : ∃ G : Nat, G = gk := ⟨_, rfl⟩
    obtain ⟨av, capv, hv, hcv, _, _⟩ := hown.form
    rw [hpl] at hv hcv
    obtain ⟨q0, q1, q2⟩ := k0.out.one
    obtain ⟨iv, hiv⟩ : ∃ b, inR z 0 (n1 : Int) = b := ⟨_, rfl⟩
    have C := hid (in_any z 0 (n1 : Int) w1)
    rw [hiv] at C
    have HIV := hid hiv
    have HPL := hid hpl
    clear hiv hpl
    have hjn : (j : Int) ≤ (x.length : Int) + 1 := by omega
    cases iv with
    | false =>
      subst hv
      have HWE := hid (show WayEnd x i p from way_end HPL.out hway.out (.inl (fun hc => by
        have := HIV.out
        rw [inR_yes hc.1 (by have := HN1.out; omega)] at this
        cases this)))
      have HO := hid (hown.mono (show w.heap.size ≤ w.heap.size + 1 by omega))
      clear hown
      go_wp2_with fail
      with_reducible refine C.out.mono ?_
      rintro e w2 ⟨rfl, rfl⟩
      go_wp2
      go_ret
      exact ⟨av, capv, p, by rw [HPL.out]; rfl, by rw [HPL.out]; exact HO.out, HWE.out, hb.out⟩
    | true =>
      have hzr : 0 ≤ z ∧ z ≤ (n1 : Int) := by
        have := HIV.out
        unfold inR at this
        simpa using this
      by_cases hjx : j ≤ x.length
      · obtain ⟨m, hm⟩ : ∃ m : Nat, z = (m : Int) := ⟨z.toNat, by omega⟩
        subst hm
        have hml : m < x.length := by have := HN1.out; omega
        have hml' : (m : Int) < (x.length : Int) := by omega
        have h0m : (0 : Int) ≤ (m : Int) := by omega
        have hjx' : (j : Int) ≤ (x.length : Int) := by omega
        have HW := hid (way_step HPL.out hjx hml hway.out)
        obtain ⟨bq, offq, ha, _⟩ := Jtr.ints_at (HE.out.grow good_int hb.out hiw) m hml
        subst ha
        have hlen : p.length ≤ 8796093022208 := by rw [HPL.out]; omega
        subst hv
        have hownj := hown
        clear hzr hway hcv
        go_wp2_with fail
        with_reducible refine C.out.mono ?_
        rintro e w2 ⟨rfl, rfl⟩
        go_wp2_with (at_builtin; refine append_int rfl _ _ 23 rfl (w.heap.size + 1) 3 i0 Try.underlying23 hi0 hz0 hz1 hz2 w1 w1 _ p (m : Int) hownj (by rfl) (Below.refl _ _) hsz _ rfl (by rfl) hlen ?_)
        intro v1 w3 hown1 hbel1 hsz3 hgr
        have HB3 := hid (hb.out.trans (hbel1.mono (by omega)))
        have KA3 := hid (k0.out.under hbel1 (by omega))
        have HO3 := hid hown1
        obtain ⟨bq2, offq2, ha2, c1⟩ := Jtr.ints_at (HE.out.grow good_int HB3.out hiw) m hml
        simp only [Option.some.injEq, Addr.mk.injEq, and_true] at ha2
        obtain ⟨rfl, rfl⟩ := ha2
        clear hown hownj hb hbel1 hgr q0 q1 q2 k0 hown1
        obtain ⟨q0, q1, q2⟩ := KA3.out.one
        go_wp2
        go_roundg (G - 1)
        case measure => omega
        case rel => exact ⟨j + 1, x[m], p ++ [(m : Int)], v1, by omega, by simp [HPL.out], rfl, rfl, HO3.out, HW, KA3, HB3, hsz3⟩
      · have hjx' : ¬ (j : Int) ≤ (x.length : Int) := by omega
        subst hv
        have HWE := hid (show WayEnd x i p from way_end HPL.out hway.out (.inr (by omega)))
        have HO := hid (hown.mono (show w.heap.size ≤ w.heap.size + 1 by omega))
        clear hown
        go_wp2_with fail
        with_reducible refine C.out.mono ?_
        rintro e w2 ⟨rfl, rfl⟩
        go_wp2
        go_ret
        exact ⟨av, capv, p, by rw [HPL.out]; rfl, by rw [HPL.out]; exact HO.out, HWE.out, hb.out⟩

set_option maxRecDepth 100000 in
set_option maxHeartbeats 4000000 in
theorem spec_vjt (cs ds : List Value) (x : QueryD) (y : List Int) (lo hi lo' hi' : Nat) (w : World) (hs : szQ x ≤ 1048576) (hs' : szF y ≤ 1048576) (h : rQuery w lo hi cs x) (h' : rRow w lo' hi' ds y) (hh : hi ≤ w.heap.size) (hh' : hi' ≤ w.heap.size) :
    Calls Try.prog 27 #[.agg cs.toArray, .agg ds.toArray] w fun e w' => e = .returned (.bool (vjt x y)) ∧ Below w.heap.size w w' := by
  obtain ⟨q, capq, o, capo, hcs, _, _, hqe, _⟩ := query_open h
  subst hcs
  obtain ⟨a, cap, hds, _, hels⟩ := row_open h'
  subst hds
  have K := hid ((hasl_new w [.int .i64 x.1, .slice q x.2.1.length capq, .slice o x.2.2.length capo] 30).alloc (.cells #[.slice a y.length cap] 39))
  have K2 := hid (hasl_new (w.alloc (.cells #[.int .i64 x.1, .slice q x.2.1.length capq, .slice o x.2.2.length capo] 30)) [.slice a y.length cap] 39)
  simp only [World.size_alloc] at K2
  have B1 := hid (((Below.refl w.heap.size w).alloc (Nat.le_refl _) (.cells #[.int .i64 x.1, .slice q x.2.1.length capq, .slice o x.2.2.length capo] 30)).alloc (by simp) (.cells #[.slice a y.length cap] 39))
  obtain ⟨qv, hqv⟩ : ∃ z, vq x = z := ⟨_, rfl⟩
  have VQ := hid (fun W (hW : Below w.heap.size w W) => by
    have := spec_vq _ x lo hi W hs (good_query.keep h (sm_below hW hh)) (Nat.le_trans hh hW.size)
    rw [hqv] at this
    exact this)
  obtain ⟨jr, hjr⟩ : ∃ z, jroot y = z := ⟨_, rfl⟩
  have RT := hid (fun W (hW : Below w.heap.size w W) => by
    have := spec_root _ y lo' hi' W hs' (good_forest.keep h' (sm_below hW hh')) (Nat.le_trans hh' hW.size)
    rw [hjr] at this
    exact this)
  have PT := hid (fun W (i : Nat) (hi : i < y.length) (hW : Below w.heap.size w W) => spec_path _ y i lo' hi' W hs' (good_forest.keep h' (sm_below hW hh')) (Nat.le_trans hh' hW.size) hi)
  have hnu : x.2.1.length ≤ 1048576 := by have := tots_len szA x.2.1; unfold szQ at hs; omega
  have HSA := hid (fun j (hj : j < x.2.1.length) => show x.2.1[j].2.length ≤ 1048576 by have := elem_le szA x.2.1 j hj; unfold szA at this; unfold szQ szA at hs; omega)
  have HC := hid (fun (W : World) (j : Nat) (hj : j < x.2.1.length) (v : Nat) (cs : List Value) (hr : rAtom W lo hi cs x.2.1[j]) (hW : Below w.heap.size w W) => spec_has cs x.2.1[j] (v : Int) lo hi W (HSA.out j hj) hr (Nat.le_trans hh hW.size))
  have hny : y.length ≤ 1048576 := hs'
  have HQV := hid hqv
  have HJR := hid hjr
  have HQE := hid hqe
  have HFE := hid hels
  have hjb := jroot_bound y
  rw [hjr] at hjb
  clear h h' hqe hels hs hs' hqv hjr
  go_enter Try.func27, Try.ntmps27
  obtain ⟨q0, q1, q2, _, _, _, q6⟩ := K.out.three
  obtain ⟨r0, r1, r2⟩ := K2.out.one
  go_wp2_with fail
  with_reducible refine (VQ.out _ B1.out).mono ?_
  rintro e w1 ⟨rfl, hb1⟩
  have HB := hid (B1.out.trans (hb1.mono B1.out.size))
  have KQ := hid (K.out.below hb1)
  have KF := hid (K2.out.below hb1)
  clear hb1 q0 q1 q2 q6 r0 r1 r2
  cases qv with
  | false =>
    have HF := hid (vjt_q (t := y) HQV.out)
    go_wp2
    go_ret
    exact ⟨by rw [HF.out]; rfl, HB.out⟩
  | true =>
    obtain ⟨q0, q1, q2, _, _, _, q6⟩ := KQ.out.three
    obtain ⟨r0, r1, r2⟩ := KF.out.one
    by_cases hln : y.length = x.2.1.length
    · have t1 : ((y.length : Int) != (x.2.1.length : Int)) = false := by simp [hln]
      have HLN := hid hln
      clear hln
      go_wp2_with fail
      with_reducible refine (RT.out _ HB.out).mono ?_
      rintro e w2 ⟨rfl, hb2⟩
      have HB2 := hid (HB.out.trans (hb2.mono HB.out.size))
      have KQ2 := hid (KQ.out.below hb2)
      have KF2 := hid (KF.out.below hb2)
      clear hb2 q0 q1 q2 q6 r0 r1 r2 t1
      by_cases hneg : jr < 0
      · have HF := hid (vjt_r (x := x) (t := y) (by rw [HJR.out]; exact hneg))
        go_wp2
        go_ret
        exact ⟨by rw [HF.out]; rfl, HB2.out⟩
      · have HCN := hid (jroot_nonneg.1 (show 0 ≤ jroot y by rw [HJR.out]; omega))
        obtain ⟨n5, hn5e, _, hn5, hva⟩ := vq_vars HQV.out
        have HVA := hid hva
        have HN5 := hid hn5e
        clear hva hn5e
        go_wp2
        go_loopw [5, 6] (fun iv _ wr => ∃ k : Nat, k ≤ y.length ∧ iv = .int .i64 k ∧ Hid (∀ j, j < k → lead y y.length j = true) ∧ Hid (HasL wr w.heap.size [.int .i64 x.1, .slice q x.2.1.length capq, .slice o x.2.2.length capo]) ∧ Hid (HasL wr (w.heap.size + 1) [.slice a y.length cap]) ∧ Hid (Below w.heap.size w wr)) (fun iv _ _ => y.length - (intOf iv).toNat)
        case atStart => exact ⟨0, Nat.zero_le _, rfl, hid (fun j h => by omega), KQ2, KF2, HB2⟩
        case round =>
          obtain ⟨i, hi', rfl, hall, kq, kf, hb⟩ := hrel
          obtain ⟨w2', rfl⟩ : ∃ w2 : World, w2 = wr := ⟨_, rfl⟩
          obtain ⟨q0, q1, q2, _, _, _, q6⟩ := kq.out.three
          obtain ⟨r0, r1, r2⟩ := kf.out.one
          by_cases hlt : i < y.length
          · have hlt' : (i : Int) < (y.length : Int) := by omega
            obtain ⟨bt, offt, ha, _⟩ := Jtr.ints_at (HFE.out.grow good_int hb.out hh') i hlt
            subst ha
            have P := hid (PT.out w2' i hlt hb.out)
            go_wp2_with fail
            with_reducible refine P.out.mono ?_
            rintro e w3 ⟨av, capv, p, rfl, hown, hwe, hb3⟩
            have HB3 := hid (hb.out.trans (hb3.mono hb.out.size))
            have KQ3 := hid (kq.out.below hb3)
            have KF3 := hid (kf.out.below hb3)
            have hz3 := KF3.out.1
            have hz4 := hb.out.size
            clear hb3 q0 q1 q2 q6 r0 r1 r2 kq kf hb
            obtain ⟨r0, r1, r2⟩ := KF3.out.one
            rcases hwe with ⟨hpl, hld⟩ | ⟨hp1, hpl, l, hl, hlast, hld⟩
            · have HF := hid (vjt_l (x := x) hlt hld)
              obtain ⟨pn, hpn⟩ : ∃ z, p.length = z := ⟨_, rfl⟩
              rw [hpn] at hpl ⊢
              clear hld hown hpn
              go_upto_region 7 with fail
              go_cut [53] (fun s wx => s = .bool true ∧ Kp w3 0 wx)
              case first =>
                refine wp_region_held_drew (S := (fun w' => w'.cell? ⟨w.heap.size + 1, 0, none⟩ = some (.slice (some ⟨bt, offt, none⟩) y.length cap) ∧ Kp w3 0 w')) (by kernel_rfl) ⟨r0, (kp_refl w3).drew⟩ (fun hHeld => ?_)
                refine wpAnyH_take (i := 0) (oi := { dst := some 37, op := .move (.tmp 6), type := _, pos := _, after := _, guard := none }) (v := ?_) rfl (by kernel_rfl) (by kernel_rfl) (by kernel_rfl) (fun _ _ _ h => h) ?_ hHeld ?_
                rotate_left
                · (refine Or.inl ⟨by rfl, fun w hSw => ?_⟩; (try dsimp only at hSw); go_simp; (try with_reducible rfl))
                (try simp only [Act.put, List.setIfInBounds_toArray, List.set_cons_zero, List.set_cons_succ])
                refine wpAnyH_take (i := 1) (oi := { dst := some 38, op := .call { callee := .builtin .len, args := #[(.tmp 37)], argTypes := #[23] }, type := _, pos := _, after := _, guard := none }) (v := ?_) rfl (by kernel_rfl) (by kernel_rfl) (by kernel_rfl) (fun _ _ _ h => h) ?_ hHeld ?_
                rotate_left
                · (refine Or.inl ⟨by rfl, fun w hSw => ?_⟩; (try dsimp only at hSw); go_simp; (try with_reducible rfl))
                (try simp only [Act.put, List.setIfInBounds_toArray, List.set_cons_zero, List.set_cons_succ])
                refine wpAnyH_take (i := 2) (oi := { dst := some 39, op := .fieldAddr 39 (.tmp 3) 0, type := _, pos := _, after := _, guard := none }) (v := ?_) rfl (by kernel_rfl) (by kernel_rfl) (by kernel_rfl) (fun _ _ _ h => h) ?_ hHeld ?_
                rotate_left
                · (refine Or.inl ⟨by rfl, fun w hSw => ?_⟩; (try dsimp only at hSw); go_simp; (try with_reducible rfl))
                (try simp only [Act.put, List.setIfInBounds_toArray, List.set_cons_zero, List.set_cons_succ])
                refine wpAnyH_take (i := 3) (oi := { dst := some 40, op := .load 23 (.tmp 39), type := _, pos := _, after := _, guard := none }) (v := ?_) rfl (by kernel_rfl) (by kernel_rfl) (by kernel_rfl) (fun _ _ _ h => h) ?_ hHeld ?_
                rotate_left
                · (refine Or.inl ⟨by rfl, fun w hSw => ?_⟩; (try dsimp only at hSw); go_simp; (try with_reducible rfl))
                (try simp only [Act.put, List.setIfInBounds_toArray, List.set_cons_zero, List.set_cons_succ])
                refine wpAnyH_take (i := 4) (oi := { dst := some 41, op := .call { callee := .builtin .len, args := #[(.tmp 40)], argTypes := #[23] }, type := _, pos := _, after := _, guard := none }) (v := ?_) rfl (by kernel_rfl) (by kernel_rfl) (by kernel_rfl) (fun _ _ _ h => h) ?_ hHeld ?_
                rotate_left
                · (refine Or.inl ⟨by rfl, fun w hSw => ?_⟩; (try dsimp only at hSw); go_simp; (try with_reducible rfl))
                (try simp only [Act.put, List.setIfInBounds_toArray, List.set_cons_zero, List.set_cons_succ])
                refine wpAnyH_take (i := 5) (oi := { dst := some 42, op := .binOp .gtr 3 (.tmp 38) (.tmp 41) 3, type := _, pos := _, after := _, guard := none }) (v := .bool true) rfl (by kernel_rfl) (by kernel_rfl) (by kernel_rfl) (fun _ _ _ h => h) ?_ hHeld ?_
                · (refine Or.inl ⟨by rfl, fun w hSw => ?_⟩; (try dsimp only at hSw); go_simp; (try omega))
                (try simp only [Act.put, List.setIfInBounds_toArray, List.set_cons_zero, List.set_cons_succ])
                refine wpAnyH_take (i := 6) (oi := { dst := some 43, op := .move (.tmp 42), type := _, pos := _, after := _, guard := none }) (v := ?_) rfl (by kernel_rfl) (by kernel_rfl) (by kernel_rfl) (fun _ _ _ h => h) ?_ hHeld ?_
                rotate_left
                · (refine Or.inl ⟨by rfl, fun w hSw => ?_⟩; (try dsimp only at hSw); go_simp; (try with_reducible rfl))
                (try simp only [Act.put, List.setIfInBounds_toArray, List.set_cons_zero, List.set_cons_succ])
                refine wpAnyH_take (i := 7) (oi := { dst := some 44, op := .move (.tmp 6), type := _, pos := _, after := _, guard := some (6, false) }) (v := undef) rfl (by kernel_rfl) (by kernel_rfl) (by kernel_rfl) (fun _ _ _ h => h) (Or.inr ?_) hHeld ?_
                · exact ⟨by rfl, rfl⟩
                (try simp only [Act.put, List.setIfInBounds_toArray, List.set_cons_zero, List.set_cons_succ])
                refine wpAnyH_take (i := 8) (oi := { dst := some 45, op := .move (.tmp 6), type := _, pos := _, after := _, guard := some (6, false) }) (v := undef) rfl (by kernel_rfl) (by kernel_rfl) (by kernel_rfl) (fun _ _ _ h => h) (Or.inr ?_) hHeld ?_
                · exact ⟨by rfl, rfl⟩
                (try simp only [Act.put, List.setIfInBounds_toArray, List.set_cons_zero, List.set_cons_succ])
                refine wpAnyH_take (i := 9) (oi := { dst := some 46, op := .call { callee := .builtin .len, args := #[(.tmp 45)], argTypes := #[23] }, type := _, pos := _, after := _, guard := some (6, false) }) (v := undef) rfl (by kernel_rfl) (by kernel_rfl) (by kernel_rfl) (fun _ _ _ h => h) (Or.inr ?_) hHeld ?_
                · exact ⟨by rfl, rfl⟩
                (try simp only [Act.put, List.setIfInBounds_toArray, List.set_cons_zero, List.set_cons_succ])
                refine wpAnyH_take (i := 10) (oi := { dst := some 47, op := .binOp .sub 3 (.tmp 46) (.const (.int .i64 1)) 3, type := _, pos := _, after := _, guard := some (6, false) }) (v := undef) rfl (by kernel_rfl) (by kernel_rfl) (by kernel_rfl) (fun _ _ _ h => h) (Or.inr ?_) hHeld ?_
                · exact ⟨by rfl, rfl⟩
                (try simp only [Act.put, List.setIfInBounds_toArray, List.set_cons_zero, List.set_cons_succ])
                refine wpAnyH_take (i := 11) (oi := { dst := some 48, op := .indexAddr 23 (.tmp 44) (.tmp 47), type := _, pos := _, after := _, guard := some (6, false) }) (v := undef) rfl (by kernel_rfl) (by kernel_rfl) (by kernel_rfl) (fun _ _ _ h => h) (Or.inr ?_) hHeld ?_
                · exact ⟨by rfl, rfl⟩
                (try simp only [Act.put, List.setIfInBounds_toArray, List.set_cons_zero, List.set_cons_succ])
                refine wpAnyH_take (i := 12) (oi := { dst := some 49, op := .load 3 (.tmp 48), type := _, pos := _, after := _, guard := some (6, false) }) (v := undef) rfl (by kernel_rfl) (by kernel_rfl) (by kernel_rfl) (fun _ _ _ h => h) (Or.inr ?_) hHeld ?_
                · exact ⟨by rfl, rfl⟩
                (try simp only [Act.put, List.setIfInBounds_toArray, List.set_cons_zero, List.set_cons_succ])
                refine wpAnyH_take (i := 13) (oi := { dst := some 50, op := .load 39 (.tmp 3), type := _, pos := _, after := _, guard := some (6, false) }) (v := undef) rfl (by kernel_rfl) (by kernel_rfl) (by kernel_rfl) (fun _ _ _ h => h) (Or.inr ?_) hHeld ?_
                · exact ⟨by rfl, rfl⟩
                (try simp only [Act.put, List.setIfInBounds_toArray, List.set_cons_zero, List.set_cons_succ])
                refine wpAnyH_take (i := 14) (oi := { dst := some 51, op := .call { callee := .value (.func 30), args := #[(.tmp 50)], argTypes := #[39] }, type := _, pos := _, after := _, guard := some (6, false) }) (v := undef) rfl (by kernel_rfl) (by kernel_rfl) (by kernel_rfl) (fun _ _ _ h => h) (Or.inr ?_) hHeld ?_
                · exact ⟨by rfl, rfl⟩
                (try simp only [Act.put, List.setIfInBounds_toArray, List.set_cons_zero, List.set_cons_succ])
                refine wpAnyH_take (i := 15) (oi := { dst := some 52, op := .binOp .neq 3 (.tmp 49) (.tmp 51) 3, type := _, pos := _, after := _, guard := some (6, false) }) (v := undef) rfl (by kernel_rfl) (by kernel_rfl) (by kernel_rfl) (fun _ _ _ h => h) (Or.inr ?_) hHeld ?_
                · exact ⟨by rfl, rfl⟩
                (try simp only [Act.put, List.setIfInBounds_toArray, List.set_cons_zero, List.set_cons_succ])
                refine wpAnyH_take (i := 16) (oi := { dst := some 53, op := .pick (.tmp 43) (.const (.bool true)) (.tmp 52), type := _, pos := _, after := _, guard := none }) (v := ?_) rfl (by kernel_rfl) (by kernel_rfl) (by kernel_rfl) (fun _ _ _ h => h) ?_ hHeld ?_
                rotate_left
                · (refine Or.inl ⟨by rfl, fun w hSw => ?_⟩; (try dsimp only at hSw); go_simp; (try with_reducible rfl))
                (try simp only [Act.put, List.setIfInBounds_toArray, List.set_cons_zero, List.set_cons_succ])
                refine wpAnyH_done (by kernel_rfl) ?_ _
                go_wp2_with fail
                go_meet
                exact ⟨by first | rfl | trivial, hHeld.2⟩
              case rest =>
              obtain ⟨rfl, hkp⟩ := hcut
              obtain ⟨w9, rfl⟩ : ∃ wo : World, wo = wc := ⟨_, rfl⟩
              have HB9 := hid (HB3.out.trans (hkp.bel.mono HB3.out.size))
              clear hkp
              go_wp2
              go_ret
              exact ⟨by rw [HF.out]; rfl, HB9.out⟩
            · obtain ⟨pl1, hpl1⟩ : ∃ z, p.length - 1 = z := ⟨_, rfl⟩
              obtain ⟨av', capv', hv, _, _, hrd⟩ := hown.form
              simp only [Value.slice.injEq] at hv
              obtain ⟨rfl, _, rfl⟩ := hv
              obtain ⟨bp, offp, hap, hbp, hcp⟩ := hrd (by omega)
              subst hap
              have cp0 := hcp pl1 (by omega)
              have hpe : p[pl1]'(by omega) = (l : Int) := by
                rw [hpl1, List.getElem?_eq_getElem (by omega)] at hlast
                exact Option.some.inj hlast
              rw [hpe] at cp0
              obtain ⟨ld, hlde⟩ : ∃ b, lead y y.length i = b := ⟨_, rfl⟩
              have hne : (((l : Int)) != jr) = !ld := by
                rw [← hlde, hld]
                have h1 := root_last hl HCN.out
                rw [HJR.out] at h1
                by_cases h2 : y[l] = -1
                · simp [h2, h1.2 h2]
                · have h3 : ¬ (l : Int) = jr := fun h => h2 (h1.1 h)
                  simp [h2, h3]
              obtain ⟨pn, hpn⟩ : ∃ z, p.length = z := ⟨_, rfl⟩
              rw [hpn] at hpl hp1 hpl1 ⊢
              have e1 : IntKind.i64.wrap ((pn : Int) - 1) = (pl1 : Int) := by rw [show (pn : Int) - 1 = (pl1 : Int) by omega]; exact Num.wrap_small pl1 (by omega)
              have e2 : IntKind.i64.wrap (pl1 : Int) = (pl1 : Int) := Num.wrap_small pl1 (by omega)
              have g0 : (0 : Int) ≤ (pl1 : Int) := by omega
              have g1 : (pl1 : Int) < (pn : Int) := by omega
              have HLD := hid hlde
              clear hld hlde hlast hown hpn hpl1 hpe hcp hrd
              go_upto_region 7 with fail
              go_cut [53] (fun s wx => s = .bool (!ld) ∧ Kp w3 0 wx)
              case first =>
                refine wp_region_held_drew (S := (fun w' => w'.cell? ⟨w.heap.size + 1, 0, none⟩ = some (.slice (some ⟨bt, offt, none⟩) y.length cap) ∧ w'.cell? ⟨bp, offp + pl1, none⟩ = some (.int .i64 (l : Int)) ∧ Kp w3 0 w')) (by kernel_rfl) ⟨r0, cp0, (kp_refl w3).drew⟩ (fun hHeld => ?_)
                refine wpAnyH_take (i := 0) (oi := { dst := some 37, op := .move (.tmp 6), type := _, pos := _, after := _, guard := none }) (v := ?_) rfl (by kernel_rfl) (by kernel_rfl) (by kernel_rfl) (fun _ _ _ h => h) ?_ hHeld ?_
                rotate_left
                · (refine Or.inl ⟨by rfl, fun w hSw => ?_⟩; (try dsimp only at hSw); go_simp; (try with_reducible rfl))
                (try simp only [Act.put, List.setIfInBounds_toArray, List.set_cons_zero, List.set_cons_succ])
                refine wpAnyH_take (i := 1) (oi := { dst := some 38, op := .call { callee := .builtin .len, args := #[(.tmp 37)], argTypes := #[23] }, type := _, pos := _, after := _, guard := none }) (v := ?_) rfl (by kernel_rfl) (by kernel_rfl) (by kernel_rfl) (fun _ _ _ h => h) ?_ hHeld ?_
                rotate_left
                · (refine Or.inl ⟨by rfl, fun w hSw => ?_⟩; (try dsimp only at hSw); go_simp; (try with_reducible rfl))
                (try simp only [Act.put, List.setIfInBounds_toArray, List.set_cons_zero, List.set_cons_succ])
                refine wpAnyH_take (i := 2) (oi := { dst := some 39, op := .fieldAddr 39 (.tmp 3) 0, type := _, pos := _, after := _, guard := none }) (v := ?_) rfl (by kernel_rfl) (by kernel_rfl) (by kernel_rfl) (fun _ _ _ h => h) ?_ hHeld ?_
                rotate_left
                · (refine Or.inl ⟨by rfl, fun w hSw => ?_⟩; (try dsimp only at hSw); go_simp; (try with_reducible rfl))
                (try simp only [Act.put, List.setIfInBounds_toArray, List.set_cons_zero, List.set_cons_succ])
                refine wpAnyH_take (i := 3) (oi := { dst := some 40, op := .load 23 (.tmp 39), type := _, pos := _, after := _, guard := none }) (v := ?_) rfl (by kernel_rfl) (by kernel_rfl) (by kernel_rfl) (fun _ _ _ h => h) ?_ hHeld ?_
                rotate_left
                · (refine Or.inl ⟨by rfl, fun w hSw => ?_⟩; (try dsimp only at hSw); go_simp; (try with_reducible rfl))
                (try simp only [Act.put, List.setIfInBounds_toArray, List.set_cons_zero, List.set_cons_succ])
                refine wpAnyH_take (i := 4) (oi := { dst := some 41, op := .call { callee := .builtin .len, args := #[(.tmp 40)], argTypes := #[23] }, type := _, pos := _, after := _, guard := none }) (v := ?_) rfl (by kernel_rfl) (by kernel_rfl) (by kernel_rfl) (fun _ _ _ h => h) ?_ hHeld ?_
                rotate_left
                · (refine Or.inl ⟨by rfl, fun w hSw => ?_⟩; (try dsimp only at hSw); go_simp; (try with_reducible rfl))
                (try simp only [Act.put, List.setIfInBounds_toArray, List.set_cons_zero, List.set_cons_succ])
                refine wpAnyH_take (i := 5) (oi := { dst := some 42, op := .binOp .gtr 3 (.tmp 38) (.tmp 41) 3, type := _, pos := _, after := _, guard := none }) (v := .bool false) rfl (by kernel_rfl) (by kernel_rfl) (by kernel_rfl) (fun _ _ _ h => h) ?_ hHeld ?_
                · (refine Or.inl ⟨by rfl, fun w hSw => ?_⟩; (try dsimp only at hSw); go_simp; (try omega))
                (try simp only [Act.put, List.setIfInBounds_toArray, List.set_cons_zero, List.set_cons_succ])
                refine wpAnyH_take (i := 6) (oi := { dst := some 43, op := .move (.tmp 42), type := _, pos := _, after := _, guard := none }) (v := ?_) rfl (by kernel_rfl) (by kernel_rfl) (by kernel_rfl) (fun _ _ _ h => h) ?_ hHeld ?_
                rotate_left
                · (refine Or.inl ⟨by rfl, fun w hSw => ?_⟩; (try dsimp only at hSw); go_simp; (try with_reducible rfl))
                (try simp only [Act.put, List.setIfInBounds_toArray, List.set_cons_zero, List.set_cons_succ])
                refine wpAnyH_take (i := 7) (oi := { dst := some 44, op := .move (.tmp 6), type := _, pos := _, after := _, guard := some (6, false) }) (v := ?_) rfl (by kernel_rfl) (by kernel_rfl) (by kernel_rfl) (fun _ _ _ h => h) ?_ hHeld ?_
                rotate_left
                · (refine Or.inl ⟨by rfl, fun w hSw => ?_⟩; (try dsimp only at hSw); go_simp; (try with_reducible rfl))
                (try simp only [Act.put, List.setIfInBounds_toArray, List.set_cons_zero, List.set_cons_succ])
                refine wpAnyH_take (i := 8) (oi := { dst := some 45, op := .move (.tmp 6), type := _, pos := _, after := _, guard := some (6, false) }) (v := ?_) rfl (by kernel_rfl) (by kernel_rfl) (by kernel_rfl) (fun _ _ _ h => h) ?_ hHeld ?_
                rotate_left
                · (refine Or.inl ⟨by rfl, fun w hSw => ?_⟩; (try dsimp only at hSw); go_simp; (try with_reducible rfl))
                (try simp only [Act.put, List.setIfInBounds_toArray, List.set_cons_zero, List.set_cons_succ])
                refine wpAnyH_take (i := 9) (oi := { dst := some 46, op := .call { callee := .builtin .len, args := #[(.tmp 45)], argTypes := #[23] }, type := _, pos := _, after := _, guard := some (6, false) }) (v := ?_) rfl (by kernel_rfl) (by kernel_rfl) (by kernel_rfl) (fun _ _ _ h => h) ?_ hHeld ?_
                rotate_left
                · (refine Or.inl ⟨by rfl, fun w hSw => ?_⟩; (try dsimp only at hSw); go_simp; (try with_reducible rfl))
                (try simp only [Act.put, List.setIfInBounds_toArray, List.set_cons_zero, List.set_cons_succ])
                refine wpAnyH_take (i := 10) (oi := { dst := some 47, op := .binOp .sub 3 (.tmp 46) (.const (.int .i64 1)) 3, type := _, pos := _, after := _, guard := some (6, false) }) (v := ?_) rfl (by kernel_rfl) (by kernel_rfl) (by kernel_rfl) (fun _ _ _ h => h) ?_ hHeld ?_
                rotate_left
                · (refine Or.inl ⟨by rfl, fun w hSw => ?_⟩; (try dsimp only at hSw); go_simp; (try with_reducible rfl))
                (try simp only [Act.put, List.setIfInBounds_toArray, List.set_cons_zero, List.set_cons_succ])
                refine wpAnyH_take (i := 11) (oi := { dst := some 48, op := .indexAddr 23 (.tmp 44) (.tmp 47), type := _, pos := _, after := _, guard := some (6, false) }) (v := ?_) rfl (by kernel_rfl) (by kernel_rfl) (by kernel_rfl) (fun _ _ _ h => h) ?_ hHeld ?_
                rotate_left
                · (refine Or.inl ⟨by rfl, fun w hSw => ?_⟩; (try dsimp only at hSw); go_simp; (try with_reducible rfl))
                (try simp only [Act.put, List.setIfInBounds_toArray, List.set_cons_zero, List.set_cons_succ])
                refine wpAnyH_take (i := 12) (oi := { dst := some 49, op := .load 3 (.tmp 48), type := _, pos := _, after := _, guard := some (6, false) }) (v := ?_) rfl (by kernel_rfl) (by kernel_rfl) (by kernel_rfl) (fun _ _ _ h => h) ?_ hHeld ?_
                rotate_left
                · (refine Or.inl ⟨by rfl, fun w hSw => ?_⟩; (try dsimp only at hSw); go_simp; (try with_reducible rfl))
                (try simp only [Act.put, List.setIfInBounds_toArray, List.set_cons_zero, List.set_cons_succ])
                refine wpAnyH_take (i := 13) (oi := { dst := some 50, op := .load 39 (.tmp 3), type := _, pos := _, after := _, guard := some (6, false) }) (v := ?_) rfl (by kernel_rfl) (by kernel_rfl) (by kernel_rfl) (fun _ _ _ h => h) ?_ hHeld ?_
                rotate_left
                · (refine Or.inl ⟨by rfl, fun w hSw => ?_⟩; (try dsimp only at hSw); go_simp; (try with_reducible rfl))
                (try simp only [Act.put, List.setIfInBounds_toArray, List.set_cons_zero, List.set_cons_succ])
                refine wpAnyH_ready (rs := [14]) (by kernel_rfl) (by simp) ?_
                refine AllReadyH.cons (o := { dst := some 51, op := .call { callee := .value (.func 30), args := #[(.tmp 50)], argTypes := #[39] }, type := _, pos := _, after := _, guard := some (6, false) }) rfl (fun K hK => ?_) AllReadyH.nil
                go_simp
                (with_reducible refine (RT.out _ (HB3.out.trans (hHeld.2.2.bel.mono HB3.out.size))).mono ?_); rintro e wU ⟨rfl, hbU⟩
                (try go_wp2_with fail)
                refine hK.out _ _ ?_ (fun hH2 => ?_)
                · exact ⟨hHeld.2.2.cell hbU (by omega) hHeld.1, hHeld.2.2.cell hbU (by omega) hHeld.2.1, hHeld.2.2.call hbU⟩
                clear hK K hHeld
                have hHeld := hH2
                clear hH2
                (try simp only [Act.put, List.setIfInBounds_toArray, List.set_cons_zero, List.set_cons_succ])
                refine wpAnyH_take (i := 15) (oi := { dst := some 52, op := .binOp .neq 3 (.tmp 49) (.tmp 51) 3, type := _, pos := _, after := _, guard := some (6, false) }) (v := .bool (!ld)) rfl (by kernel_rfl) (by kernel_rfl) (by kernel_rfl) (fun _ _ _ h => h) ?_ hHeld ?_
                · (refine Or.inl ⟨by rfl, fun w hSw => ?_⟩; (try dsimp only at hSw); go_simp; (try rfl))
                (try simp only [Act.put, List.setIfInBounds_toArray, List.set_cons_zero, List.set_cons_succ])
                refine wpAnyH_take (i := 16) (oi := { dst := some 53, op := .pick (.tmp 43) (.const (.bool true)) (.tmp 52), type := _, pos := _, after := _, guard := none }) (v := ?_) rfl (by kernel_rfl) (by kernel_rfl) (by kernel_rfl) (fun _ _ _ h => h) ?_ hHeld ?_
                rotate_left
                · (refine Or.inl ⟨by rfl, fun w hSw => ?_⟩; (try dsimp only at hSw); go_simp; (try with_reducible rfl))
                (try simp only [Act.put, List.setIfInBounds_toArray, List.set_cons_zero, List.set_cons_succ])
                refine wpAnyH_done (by kernel_rfl) ?_ _
                go_wp2_with fail
                go_meet
                exact ⟨by first | rfl | trivial, hHeld.2.2⟩
              case rest =>
              obtain ⟨rfl, hkp⟩ := hcut
              obtain ⟨w9, rfl⟩ : ∃ wo : World, wo = wc := ⟨_, rfl⟩
              have HB9 := hid (HB3.out.trans (hkp.bel.mono HB3.out.size))
              have KQ9 := hid (KQ3.out.below hkp.bel)
              have KF9 := hid (KF3.out.below hkp.bel)
              clear hkp cp0 hne
              cases ld with
              | false =>
                have HF := hid (vjt_l (x := x) hlt HLD.out)
                go_wp2
                go_ret
                exact ⟨by rw [HF.out]; rfl, HB9.out⟩
              | true =>
                have HN := hid (show ∀ j, j < i + 1 → lead y y.length j = true from fun j hj => by
                  by_cases e : j = i
                  · subst e; exact HLD.out
                  · exact hall.out j (by omega))
                go_wp2
                go_roundw
                case rel => exact ⟨i + 1, by omega, by go_num, HN, KQ9, KF9, HB9⟩
                case measure => simp [intOf]; omega
          · have hlt' : ¬ (i : Int) < (y.length : Int) := by omega
            have HT := hid (show isT y = true by
              unfold isT
              rw [decide_eq_true (show 0 ≤ jroot y by rw [HJR.out]; omega), Bool.true_and, List.all_eq_true]
              exact fun j hj => hall.out j (by have := List.mem_range.1 hj; omega))
            have HVK := hid (vjt_k HQV.out HLN.out HT.out)
            go_wp2
            clear q0 q1 q2 q6 r0 r1 r2
            go_loopw [7, 8, 9] (fun vv _ _ wr => ∃ v : Nat, v ≤ n5 ∧ vv = .int .i64 v ∧ Hid (∀ u, u < v → cntT x.2.1 y u y.length = 1) ∧ Hid (HasL wr w.heap.size [.int .i64 x.1, .slice q x.2.1.length capq, .slice o x.2.2.length capo]) ∧ Hid (HasL wr (w.heap.size + 1) [.slice a y.length cap]) ∧ Hid (Below w.heap.size w wr)) (fun vv _ _ _ => n5 - (intOf vv).toNat)
            case atStart => exact ⟨0, Nat.zero_le _, rfl, hid (fun j h => by omega), kq, kf, hb⟩
            case round =>
              obtain ⟨v, hv', rfl, hones, kq2, kf2, hb2⟩ := hrel
              obtain ⟨w2b, rfl⟩ : ∃ w2 : World, w2 = wr := ⟨_, rfl⟩
              clear kq kf hb
              obtain ⟨q0, q1, q2, _, _, _, q6⟩ := kq2.out.three
              rw [HN5.out] at q0
              by_cases hlv : v < n5
              · have hlv' : (v : Int) < (n5 : Int) := by omega
                obtain ⟨r0, r1, r2⟩ := kf2.out.one
                go_wp2
                clear q0 q1 q2 q6 r0 r1 r2
                go_loopw [8, 9] (fun tv iv wr => ∃ i m : Nat, i ≤ y.length ∧ iv = .int .i64 i ∧ tv = .int .i64 m ∧ m ≤ i ∧ Hid (m = cntT x.2.1 y v i) ∧ Hid (HasL wr w.heap.size [.int .i64 x.1, .slice q x.2.1.length capq, .slice o x.2.2.length capo]) ∧ Hid (HasL wr (w.heap.size + 1) [.slice a y.length cap]) ∧ Hid (Below w.heap.size w wr)) (fun _ iv _ => y.length - (intOf iv).toNat)
                case atStart => exact ⟨0, 0, Nat.zero_le _, rfl, rfl, Nat.le_refl _, hid rfl, kq2, kf2, hb2⟩
                case round =>
                  obtain ⟨i, m, hi3, rfl, rfl, hmi, hcm, KQ3, KF3, HB3⟩ := hrel
                  obtain ⟨w3, rfl⟩ : ∃ w3 : World, w3 = wr := ⟨_, rfl⟩
                  clear kq2 kf2 hb2
                  obtain ⟨q0, q1, q2, _, _, _, q6⟩ := KQ3.out.three
                  obtain ⟨r0, r1, r2⟩ := KF3.out.one
                  have hz3 := KF3.out.1
                  have hz4 := HB3.out.size
                  by_cases hli : i < y.length
                  · have hli' : (i : Int) < (y.length : Int) := by omega
                    have h0i : (0 : Int) ≤ (i : Int) := by omega
                    have hiu : i < x.2.1.length := by rw [← HLN.out]; exact hli
                    have hiu' : (i : Int) < (x.2.1.length : Int) := by omega
                    obtain ⟨b, off, aj, capj, he, _, hbB, c0, c1, rx⟩ := atoms_at (HQE.out.grow good_atom HB3.out hh) i hiu
                    subst he
                    obtain ⟨bt, offt, ha, d0⟩ := Jtr.ints_at (HFE.out.grow good_int HB3.out hh') i hli
                    subst ha
                    have hbt : bt < w.heap.size := by
                      obtain ⟨b', _, e', hlt', _⟩ := rd_of HFE.out (by omega)
                      simp only [Option.some.injEq, Addr.mk.injEq, and_true] at e'
                      omega
                    have CI := hid (fun W (hW : Below w3.heap.size w3 W) => HC.out W i hiu v _ (good_atom.keep rx (sm_below hW (Nat.le_trans hh HB3.out.size))) (HB3.out.trans (hW.mono HB3.out.size)))
                    obtain ⟨mi, hmi2⟩ : ∃ z, decide ((v : Int) ∈ x.2.1[i].2) = z := ⟨_, rfl⟩
                    rw [hmi2] at CI
                    have HMV := hid (show mv x.2.1 i v = mi by rw [mv_at hiu]; exact hmi2)
                    clear rx hmi2
                    cases mi with
                    | false =>
                      have HTP := hid (show top x.2.1 y v i = false by unfold top; rw [HMV.out]; rfl)
                      go_upto_region 16 with fail
                      go_cut [95] (fun s wx => s = .bool false ∧ Kp w3 0 wx)
                      case first =>
                        refine wp_region_held_drew (S := (fun w' => w'.cell? ⟨w.heap.size, 1, none⟩ = some (.slice (some ⟨b, off, none⟩) x.2.1.length capq) ∧ w'.cell? ⟨w.heap.size + 1, 0, none⟩ = some (.slice (some ⟨bt, offt, none⟩) y.length cap) ∧ w'.cell? ⟨b, off + i * 2, none⟩ = some (.string x.2.1[i].1) ∧ w'.cell? ⟨b, off + i * 2 + 1, none⟩ = some (.slice aj x.2.1[i].2.length capj) ∧ Kp w3 0 w')) (by kernel_rfl) ⟨q1, r0, c0, c1, (kp_refl w3).drew⟩ (fun hHeld => ?_)
                        refine wpAnyH_take (i := 0) (oi := { dst := some 67, op := .fieldAddr 30 (.tmp 2) 1, type := _, pos := _, after := _, guard := none }) (v := ?_) rfl (by kernel_rfl) (by kernel_rfl) (by kernel_rfl) (fun _ _ _ h => h) ?_ hHeld ?_
                        rotate_left
                        · (refine Or.inl ⟨by rfl, fun w hSw => ?_⟩; (try dsimp only at hSw); go_simp; (try with_reducible rfl))
                        (try simp only [Act.put, List.setIfInBounds_toArray, List.set_cons_zero, List.set_cons_succ])
                        refine wpAnyH_take (i := 1) (oi := { dst := some 68, op := .load 28 (.tmp 67), type := _, pos := _, after := _, guard := none }) (v := ?_) rfl (by kernel_rfl) (by kernel_rfl) (by kernel_rfl) (fun _ _ _ h => h) ?_ hHeld ?_
                        rotate_left
                        · (refine Or.inl ⟨by rfl, fun w hSw => ?_⟩; (try dsimp only at hSw); go_simp; (try with_reducible rfl))
                        (try simp only [Act.put, List.setIfInBounds_toArray, List.set_cons_zero, List.set_cons_succ])
                        refine wpAnyH_take (i := 2) (oi := { dst := some 69, op := .move (.tmp 9), type := _, pos := _, after := _, guard := none }) (v := ?_) rfl (by kernel_rfl) (by kernel_rfl) (by kernel_rfl) (fun _ _ _ h => h) ?_ hHeld ?_
                        rotate_left
                        · (refine Or.inl ⟨by rfl, fun w hSw => ?_⟩; (try dsimp only at hSw); go_simp; (try with_reducible rfl))
                        (try simp only [Act.put, List.setIfInBounds_toArray, List.set_cons_zero, List.set_cons_succ])
                        refine wpAnyH_take (i := 3) (oi := { dst := some 70, op := .indexAddr 28 (.tmp 68) (.tmp 69), type := _, pos := _, after := _, guard := none }) (v := ?_) rfl (by kernel_rfl) (by kernel_rfl) (by kernel_rfl) (fun _ _ _ h => h) ?_ hHeld ?_
                        rotate_left
                        · (refine Or.inl ⟨by rfl, fun w hSw => ?_⟩; (try dsimp only at hSw); go_simp; (try with_reducible rfl))
                        (try simp only [Act.put, List.setIfInBounds_toArray, List.set_cons_zero, List.set_cons_succ])
                        refine wpAnyH_take (i := 4) (oi := { dst := some 71, op := .load 66 (.tmp 70), type := _, pos := _, after := _, guard := none }) (v := ?_) rfl (by kernel_rfl) (by kernel_rfl) (by kernel_rfl) (fun _ _ _ h => h) ?_ hHeld ?_
                        rotate_left
                        · (refine Or.inl ⟨by rfl, fun w hSw => ?_⟩; (try dsimp only at hSw); go_simp; (try with_reducible rfl))
                        (try simp only [Act.put, List.setIfInBounds_toArray, List.set_cons_zero, List.set_cons_succ])
                        refine wpAnyH_take (i := 5) (oi := { dst := some 72, op := .move (.tmp 7), type := _, pos := _, after := _, guard := none }) (v := ?_) rfl (by kernel_rfl) (by kernel_rfl) (by kernel_rfl) (fun _ _ _ h => h) ?_ hHeld ?_
                        rotate_left
                        · (refine Or.inl ⟨by rfl, fun w hSw => ?_⟩; (try dsimp only at hSw); go_simp; (try with_reducible rfl))
                        (try simp only [Act.put, List.setIfInBounds_toArray, List.set_cons_zero, List.set_cons_succ])
                        refine wpAnyH_ready (rs := [6]) (by kernel_rfl) (by simp) ?_
                        refine AllReadyH.cons (o := { dst := some 73, op := .call { callee := .value (.func 48), args := #[(.tmp 71), (.tmp 72)], argTypes := #[66, 3] }, type := _, pos := _, after := _, guard := none }) rfl (fun K hK => ?_) AllReadyH.nil
                        go_simp
                        (with_reducible refine (CI.out _ hHeld.2.2.2.2.bel).mono ?_); rintro e wU ⟨rfl, hbU⟩
                        (try go_wp2_with fail)
                        refine hK.out _ _ ?_ (fun hH2 => ?_)
                        · exact ⟨hHeld.2.2.2.2.cell hbU (by omega) hHeld.1, hHeld.2.2.2.2.cell hbU (by omega) hHeld.2.1, hHeld.2.2.2.2.cell hbU (by omega) hHeld.2.2.1, hHeld.2.2.2.2.cell hbU (by omega) hHeld.2.2.2.1, hHeld.2.2.2.2.call hbU⟩
                        clear hK K hHeld
                        have hHeld := hH2
                        clear hH2
                        (try simp only [Act.put, List.setIfInBounds_toArray, List.set_cons_zero, List.set_cons_succ])
                        refine wpAnyH_take (i := 7) (oi := { dst := some 74, op := .move (.tmp 73), type := _, pos := _, after := _, guard := none }) (v := ?_) rfl (by kernel_rfl) (by kernel_rfl) (by kernel_rfl) (fun _ _ _ h => h) ?_ hHeld ?_
                        rotate_left
                        · (refine Or.inl ⟨by rfl, fun w hSw => ?_⟩; (try dsimp only at hSw); go_simp; (try with_reducible rfl))
                        (try simp only [Act.put, List.setIfInBounds_toArray, List.set_cons_zero, List.set_cons_succ])
                        refine wpAnyH_take (i := 8) (oi := { dst := some 75, op := .fieldAddr 39 (.tmp 3) 0, type := _, pos := _, after := _, guard := some (7, true) }) (v := undef) rfl (by kernel_rfl) (by kernel_rfl) (by kernel_rfl) (fun _ _ _ h => h) (Or.inr ?_) hHeld ?_
                        · exact ⟨by rfl, rfl⟩
                        (try simp only [Act.put, List.setIfInBounds_toArray, List.set_cons_zero, List.set_cons_succ])
                        refine wpAnyH_take (i := 9) (oi := { dst := some 76, op := .load 23 (.tmp 75), type := _, pos := _, after := _, guard := some (7, true) }) (v := undef) rfl (by kernel_rfl) (by kernel_rfl) (by kernel_rfl) (fun _ _ _ h => h) (Or.inr ?_) hHeld ?_
                        · exact ⟨by rfl, rfl⟩
                        (try simp only [Act.put, List.setIfInBounds_toArray, List.set_cons_zero, List.set_cons_succ])
                        refine wpAnyH_take (i := 10) (oi := { dst := some 77, op := .move (.tmp 9), type := _, pos := _, after := _, guard := some (7, true) }) (v := undef) rfl (by kernel_rfl) (by kernel_rfl) (by kernel_rfl) (fun _ _ _ h => h) (Or.inr ?_) hHeld ?_
                        · exact ⟨by rfl, rfl⟩
                        (try simp only [Act.put, List.setIfInBounds_toArray, List.set_cons_zero, List.set_cons_succ])
                        refine wpAnyH_take (i := 11) (oi := { dst := some 78, op := .indexAddr 23 (.tmp 76) (.tmp 77), type := _, pos := _, after := _, guard := some (7, true) }) (v := undef) rfl (by kernel_rfl) (by kernel_rfl) (by kernel_rfl) (fun _ _ _ h => h) (Or.inr ?_) hHeld ?_
                        · exact ⟨by rfl, rfl⟩
                        (try simp only [Act.put, List.setIfInBounds_toArray, List.set_cons_zero, List.set_cons_succ])
                        refine wpAnyH_take (i := 12) (oi := { dst := some 79, op := .load 3 (.tmp 78), type := _, pos := _, after := _, guard := some (7, true) }) (v := undef) rfl (by kernel_rfl) (by kernel_rfl) (by kernel_rfl) (fun _ _ _ h => h) (Or.inr ?_) hHeld ?_
                        · exact ⟨by rfl, rfl⟩
                        (try simp only [Act.put, List.setIfInBounds_toArray, List.set_cons_zero, List.set_cons_succ])
                        refine wpAnyH_take (i := 13) (oi := { dst := some 80, op := .binOp .eql 3 (.tmp 79) (.const (.int .i64 (-1))) 3, type := _, pos := _, after := _, guard := some (7, true) }) (v := undef) rfl (by kernel_rfl) (by kernel_rfl) (by kernel_rfl) (fun _ _ _ h => h) (Or.inr ?_) hHeld ?_
                        · exact ⟨by rfl, rfl⟩
                        (try simp only [Act.put, List.setIfInBounds_toArray, List.set_cons_zero, List.set_cons_succ])
                        refine wpAnyH_take (i := 14) (oi := { dst := some 81, op := .move (.tmp 80), type := _, pos := _, after := _, guard := some (7, true) }) (v := undef) rfl (by kernel_rfl) (by kernel_rfl) (by kernel_rfl) (fun _ _ _ h => h) (Or.inr ?_) hHeld ?_
                        · exact ⟨by rfl, rfl⟩
                        (try simp only [Act.put, List.setIfInBounds_toArray, List.set_cons_zero, List.set_cons_succ])
                        refine wpAnyH_take (i := 15) (oi := { dst := some 82, op := .fieldAddr 30 (.tmp 2) 1, type := _, pos := _, after := _, guard := some (14, false) }) (v := undef) rfl (by kernel_rfl) (by kernel_rfl) (by kernel_rfl) (fun _ _ _ h => h) (Or.inr ?_) hHeld ?_
                        · exact ⟨by rfl, rfl⟩
                        (try simp only [Act.put, List.setIfInBounds_toArray, List.set_cons_zero, List.set_cons_succ])
                        refine wpAnyH_take (i := 16) (oi := { dst := some 83, op := .load 28 (.tmp 82), type := _, pos := _, after := _, guard := some (14, false) }) (v := undef) rfl (by kernel_rfl) (by kernel_rfl) (by kernel_rfl) (fun _ _ _ h => h) (Or.inr ?_) hHeld ?_
                        · exact ⟨by rfl, rfl⟩
                        (try simp only [Act.put, List.setIfInBounds_toArray, List.set_cons_zero, List.set_cons_succ])
                        refine wpAnyH_take (i := 17) (oi := { dst := some 84, op := .fieldAddr 39 (.tmp 3) 0, type := _, pos := _, after := _, guard := some (14, false) }) (v := undef) rfl (by kernel_rfl) (by kernel_rfl) (by kernel_rfl) (fun _ _ _ h => h) (Or.inr ?_) hHeld ?_
                        · exact ⟨by rfl, rfl⟩
                        (try simp only [Act.put, List.setIfInBounds_toArray, List.set_cons_zero, List.set_cons_succ])
                        refine wpAnyH_take (i := 18) (oi := { dst := some 85, op := .load 23 (.tmp 84), type := _, pos := _, after := _, guard := some (14, false) }) (v := undef) rfl (by kernel_rfl) (by kernel_rfl) (by kernel_rfl) (fun _ _ _ h => h) (Or.inr ?_) hHeld ?_
                        · exact ⟨by rfl, rfl⟩
                        (try simp only [Act.put, List.setIfInBounds_toArray, List.set_cons_zero, List.set_cons_succ])
                        refine wpAnyH_take (i := 19) (oi := { dst := some 86, op := .move (.tmp 9), type := _, pos := _, after := _, guard := some (14, false) }) (v := undef) rfl (by kernel_rfl) (by kernel_rfl) (by kernel_rfl) (fun _ _ _ h => h) (Or.inr ?_) hHeld ?_
                        · exact ⟨by rfl, rfl⟩
                        (try simp only [Act.put, List.setIfInBounds_toArray, List.set_cons_zero, List.set_cons_succ])
                        refine wpAnyH_take (i := 20) (oi := { dst := some 87, op := .indexAddr 23 (.tmp 85) (.tmp 86), type := _, pos := _, after := _, guard := some (14, false) }) (v := undef) rfl (by kernel_rfl) (by kernel_rfl) (by kernel_rfl) (fun _ _ _ h => h) (Or.inr ?_) hHeld ?_
                        · exact ⟨by rfl, rfl⟩
                        (try simp only [Act.put, List.setIfInBounds_toArray, List.set_cons_zero, List.set_cons_succ])
                        refine wpAnyH_take (i := 21) (oi := { dst := some 88, op := .load 3 (.tmp 87), type := _, pos := _, after := _, guard := some (14, false) }) (v := undef) rfl (by kernel_rfl) (by kernel_rfl) (by kernel_rfl) (fun _ _ _ h => h) (Or.inr ?_) hHeld ?_
                        · exact ⟨by rfl, rfl⟩
                        (try simp only [Act.put, List.setIfInBounds_toArray, List.set_cons_zero, List.set_cons_succ])
                        refine wpAnyH_take (i := 22) (oi := { dst := some 89, op := .indexAddr 28 (.tmp 83) (.tmp 88), type := _, pos := _, after := _, guard := some (14, false) }) (v := undef) rfl (by kernel_rfl) (by kernel_rfl) (by kernel_rfl) (fun _ _ _ h => h) (Or.inr ?_) hHeld ?_
                        · exact ⟨by rfl, rfl⟩
                        (try simp only [Act.put, List.setIfInBounds_toArray, List.set_cons_zero, List.set_cons_succ])
                        refine wpAnyH_take (i := 23) (oi := { dst := some 90, op := .load 66 (.tmp 89), type := _, pos := _, after := _, guard := some (14, false) }) (v := undef) rfl (by kernel_rfl) (by kernel_rfl) (by kernel_rfl) (fun _ _ _ h => h) (Or.inr ?_) hHeld ?_
                        · exact ⟨by rfl, rfl⟩
                        (try simp only [Act.put, List.setIfInBounds_toArray, List.set_cons_zero, List.set_cons_succ])
                        refine wpAnyH_take (i := 24) (oi := { dst := some 91, op := .move (.tmp 7), type := _, pos := _, after := _, guard := some (14, false) }) (v := undef) rfl (by kernel_rfl) (by kernel_rfl) (by kernel_rfl) (fun _ _ _ h => h) (Or.inr ?_) hHeld ?_
                        · exact ⟨by rfl, rfl⟩
                        (try simp only [Act.put, List.setIfInBounds_toArray, List.set_cons_zero, List.set_cons_succ])
                        refine wpAnyH_take (i := 25) (oi := { dst := some 92, op := .call { callee := .value (.func 48), args := #[(.tmp 90), (.tmp 91)], argTypes := #[66, 3] }, type := _, pos := _, after := _, guard := some (14, false) }) (v := undef) rfl (by kernel_rfl) (by kernel_rfl) (by kernel_rfl) (fun _ _ _ h => h) (Or.inr ?_) hHeld ?_
                        · exact ⟨by rfl, rfl⟩
                        (try simp only [Act.put, List.setIfInBounds_toArray, List.set_cons_zero, List.set_cons_succ])
                        refine wpAnyH_take (i := 26) (oi := { dst := some 93, op := .unOp .not 4 (.tmp 92), type := _, pos := _, after := _, guard := some (14, false) }) (v := undef) rfl (by kernel_rfl) (by kernel_rfl) (by kernel_rfl) (fun _ _ _ h => h) (Or.inr ?_) hHeld ?_
                        · exact ⟨by rfl, rfl⟩
                        (try simp only [Act.put, List.setIfInBounds_toArray, List.set_cons_zero, List.set_cons_succ])
                        refine wpAnyH_take (i := 27) (oi := { dst := some 94, op := .pick (.tmp 81) (.const (.bool true)) (.tmp 93), type := _, pos := _, after := _, guard := some (7, true) }) (v := undef) rfl (by kernel_rfl) (by kernel_rfl) (by kernel_rfl) (fun _ _ _ h => h) (Or.inr ?_) hHeld ?_
                        · exact ⟨by rfl, rfl⟩
                        (try simp only [Act.put, List.setIfInBounds_toArray, List.set_cons_zero, List.set_cons_succ])
                        refine wpAnyH_take (i := 28) (oi := { dst := some 95, op := .pick (.tmp 74) (.tmp 94) (.const (.bool false)), type := _, pos := _, after := _, guard := none }) (v := ?_) rfl (by kernel_rfl) (by kernel_rfl) (by kernel_rfl) (fun _ _ _ h => h) ?_ hHeld ?_
                        rotate_left
                        · (refine Or.inl ⟨by rfl, fun w hSw => ?_⟩; (try dsimp only at hSw); go_simp; (try with_reducible rfl))
                        (try simp only [Act.put, List.setIfInBounds_toArray, List.set_cons_zero, List.set_cons_succ])
                        refine wpAnyH_done (by kernel_rfl) ?_ _
                        go_wp2_with fail
                        go_meet
                        exact ⟨by first | rfl | trivial, hHeld.2.2.2.2⟩
                      case rest =>
                      obtain ⟨rfl, hkp⟩ := hcut
                      obtain ⟨w9, rfl⟩ : ∃ wo : World, wo = wc := ⟨_, rfl⟩
                      have HB9 := hid (HB3.out.trans (hkp.bel.mono HB3.out.size))
                      have KQ9 := hid (KQ3.out.below hkp.bel)
                      have KF9 := hid (KF3.out.below hkp.bel)
                      clear hkp q0 q1 q2 q6 r0 r1 r2 c0 c1 d0
                      go_wp2
                      go_roundw
                      case rel => exact ⟨i + 1, m, by omega, by go_num, rfl, by omega, hid (by rw [cntT_step, HTP.out, ← hcm.out]; rfl), KQ9, KF9, HB9⟩
                      case measure => simp [intOf]; omega
                    | true =>
                      by_cases hr : y[i] = -1
                      · have HTP := hid (show top x.2.1 y v i = true by unfold top; rw [HMV.out, parOf_at hli, hr]; rfl)
                        rw [hr] at d0
                        clear hr
                        go_upto_region 16 with fail
                        go_cut [95] (fun s wx => s = .bool true ∧ Kp w3 0 wx)
                        case first =>
                          refine wp_region_held_drew (S := (fun w' => w'.cell? ⟨w.heap.size, 1, none⟩ = some (.slice (some ⟨b, off, none⟩) x.2.1.length capq) ∧ w'.cell? ⟨w.heap.size + 1, 0, none⟩ = some (.slice (some ⟨bt, offt, none⟩) y.length cap) ∧ w'.cell? ⟨b, off + i * 2, none⟩ = some (.string x.2.1[i].1) ∧ w'.cell? ⟨b, off + i * 2 + 1, none⟩ = some (.slice aj x.2.1[i].2.length capj) ∧ w'.cell? ⟨bt, offt + i, none⟩ = some (.int .i64 (-1)) ∧ Kp w3 0 w')) (by kernel_rfl) ⟨q1, r0, c0, c1, d0, (kp_refl w3).drew⟩ (fun hHeld => ?_)
                          refine wpAnyH_take (i := 0) (oi := { dst := some 67, op := .fieldAddr 30 (.tmp 2) 1, type := _, pos := _, after := _, guard := none }) (v := ?_) rfl (by kernel_rfl) (by kernel_rfl) (by kernel_rfl) (fun _ _ _ h => h) ?_ hHeld ?_
                          rotate_left
                          · (refine Or.inl ⟨by rfl, fun w hSw => ?_⟩; (try dsimp only at hSw); go_simp; (try with_reducible rfl))
                          (try simp only [Act.put, List.setIfInBounds_toArray, List.set_cons_zero, List.set_cons_succ])
                          refine wpAnyH_take (i := 1) (oi := { dst := some 68, op := .load 28 (.tmp 67), type := _, pos := _, after := _, guard := none }) (v := ?_) rfl (by kernel_rfl) (by kernel_rfl) (by kernel_rfl) (fun _ _ _ h => h) ?_ hHeld ?_
                          rotate_left
                          · (refine Or.inl ⟨by rfl, fun w hSw => ?_⟩; (try dsimp only at hSw); go_simp; (try with_reducible rfl))
                          (try simp only [Act.put, List.setIfInBounds_toArray, List.set_cons_zero, List.set_cons_succ])
                          refine wpAnyH_take (i := 2) (oi := { dst := some 69, op := .move (.tmp 9), type := _, pos := _, after := _, guard := none }) (v := ?_) rfl (by kernel_rfl) (by kernel_rfl) (by kernel_rfl) (fun _ _ _ h => h) ?_ hHeld ?_
                          rotate_left
                          · (refine Or.inl ⟨by rfl, fun w hSw => ?_⟩; (try dsimp only at hSw); go_simp; (try with_reducible rfl))
                          (try simp only [Act.put, List.setIfInBounds_toArray, List.set_cons_zero, List.set_cons_succ])
                          refine wpAnyH_take (i := 3) (oi := { dst := some 70, op := .indexAddr 28 (.tmp 68) (.tmp 69), type := _, pos := _, after := _, guard := none }) (v := ?_) rfl (by kernel_rfl) (by kernel_rfl) (by kernel_rfl) (fun _ _ _ h => h) ?_ hHeld ?_
                          rotate_left
                          · (refine Or.inl ⟨by rfl, fun w hSw => ?_⟩; (try dsimp only at hSw); go_simp; (try with_reducible rfl))
                          (try simp only [Act.put, List.setIfInBounds_toArray, List.set_cons_zero, List.set_cons_succ])
                          refine wpAnyH_take (i := 4) (oi := { dst := some 71, op := .load 66 (.tmp 70), type := _, pos := _, after := _, guard := none }) (v := ?_) rfl (by kernel_rfl) (by kernel_rfl) (by kernel_rfl) (fun _ _ _ h => h) ?_ hHeld ?_
                          rotate_left
                          · (refine Or.inl ⟨by rfl, fun w hSw => ?_⟩; (try dsimp only at hSw); go_simp; (try with_reducible rfl))
                          (try simp only [Act.put, List.setIfInBounds_toArray, List.set_cons_zero, List.set_cons_succ])
                          refine wpAnyH_take (i := 5) (oi := { dst := some 72, op := .move (.tmp 7), type := _, pos := _, after := _, guard := none }) (v := ?_) rfl (by kernel_rfl) (by kernel_rfl) (by kernel_rfl) (fun _ _ _ h => h) ?_ hHeld ?_
                          rotate_left
                          · (refine Or.inl ⟨by rfl, fun w hSw => ?_⟩; (try dsimp only at hSw); go_simp; (try with_reducible rfl))
                          (try simp only [Act.put, List.setIfInBounds_toArray, List.set_cons_zero, List.set_cons_succ])
                          refine wpAnyH_ready (rs := [6]) (by kernel_rfl) (by simp) ?_
                          refine AllReadyH.cons (o := { dst := some 73, op := .call { callee := .value (.func 48), args := #[(.tmp 71), (.tmp 72)], argTypes := #[66, 3] }, type := _, pos := _, after := _, guard := none }) rfl (fun K hK => ?_) AllReadyH.nil
                          go_simp
                          (with_reducible refine (CI.out _ hHeld.2.2.2.2.2.bel).mono ?_); rintro e wU ⟨rfl, hbU⟩
                          (try go_wp2_with fail)
                          refine hK.out _ _ ?_ (fun hH2 => ?_)
                          · exact ⟨hHeld.2.2.2.2.2.cell hbU (by omega) hHeld.1, hHeld.2.2.2.2.2.cell hbU (by omega) hHeld.2.1, hHeld.2.2.2.2.2.cell hbU (by omega) hHeld.2.2.1, hHeld.2.2.2.2.2.cell hbU (by omega) hHeld.2.2.2.1, hHeld.2.2.2.2.2.cell hbU (by omega) hHeld.2.2.2.2.1, hHeld.2.2.2.2.2.call hbU⟩
                          clear hK K hHeld
                          have hHeld := hH2
                          clear hH2
                          (try simp only [Act.put, List.setIfInBounds_toArray, List.set_cons_zero, List.set_cons_succ])
                          refine wpAnyH_take (i := 7) (oi := { dst := some 74, op := .move (.tmp 73), type := _, pos := _, after := _, guard := none }) (v := ?_) rfl (by kernel_rfl) (by kernel_rfl) (by kernel_rfl) (fun _ _ _ h => h) ?_ hHeld ?_
                          rotate_left
                          · (refine Or.inl ⟨by rfl, fun w hSw => ?_⟩; (try dsimp only at hSw); go_simp; (try with_reducible rfl))
                          (try simp only [Act.put, List.setIfInBounds_toArray, List.set_cons_zero, List.set_cons_succ])
                          refine wpAnyH_take (i := 8) (oi := { dst := some 75, op := .fieldAddr 39 (.tmp 3) 0, type := _, pos := _, after := _, guard := some (7, true) }) (v := ?_) rfl (by kernel_rfl) (by kernel_rfl) (by kernel_rfl) (fun _ _ _ h => h) ?_ hHeld ?_
                          rotate_left
                          · (refine Or.inl ⟨by rfl, fun w hSw => ?_⟩; (try dsimp only at hSw); go_simp; (try with_reducible rfl))
                          (try simp only [Act.put, List.setIfInBounds_toArray, List.set_cons_zero, List.set_cons_succ])
                          refine wpAnyH_take (i := 9) (oi := { dst := some 76, op := .load 23 (.tmp 75), type := _, pos := _, after := _, guard := some (7, true) }) (v := ?_) rfl (by kernel_rfl) (by kernel_rfl) (by kernel_rfl) (fun _ _ _ h => h) ?_ hHeld ?_
                          rotate_left
                          · (refine Or.inl ⟨by rfl, fun w hSw => ?_⟩; (try dsimp only at hSw); go_simp; (try with_reducible rfl))
                          (try simp only [Act.put, List.setIfInBounds_toArray, List.set_cons_zero, List.set_cons_succ])
                          refine wpAnyH_take (i := 10) (oi := { dst := some 77, op := .move (.tmp 9), type := _, pos := _, after := _, guard := some (7, true) }) (v := ?_) rfl (by kernel_rfl) (by kernel_rfl) (by kernel_rfl) (fun _ _ _ h => h) ?_ hHeld ?_
                          rotate_left
                          · (refine Or.inl ⟨by rfl, fun w hSw => ?_⟩; (try dsimp only at hSw); go_simp; (try with_reducible rfl))
                          (try simp only [Act.put, List.setIfInBounds_toArray, List.set_cons_zero, List.set_cons_succ])
                          refine wpAnyH_take (i := 11) (oi := { dst := some 78, op := .indexAddr 23 (.tmp 76) (.tmp 77), type := _, pos := _, after := _, guard := some (7, true) }) (v := ?_) rfl (by kernel_rfl) (by kernel_rfl) (by kernel_rfl) (fun _ _ _ h => h) ?_ hHeld ?_
                          rotate_left
                          · (refine Or.inl ⟨by rfl, fun w hSw => ?_⟩; (try dsimp only at hSw); go_simp; (try with_reducible rfl))
                          (try simp only [Act.put, List.setIfInBounds_toArray, List.set_cons_zero, List.set_cons_succ])
                          refine wpAnyH_take (i := 12) (oi := { dst := some 79, op := .load 3 (.tmp 78), type := _, pos := _, after := _, guard := some (7, true) }) (v := ?_) rfl (by kernel_rfl) (by kernel_rfl) (by kernel_rfl) (fun _ _ _ h => h) ?_ hHeld ?_
                          rotate_left
                          · (refine Or.inl ⟨by rfl, fun w hSw => ?_⟩; (try dsimp only at hSw); go_simp; (try with_reducible rfl))
                          (try simp only [Act.put, List.setIfInBounds_toArray, List.set_cons_zero, List.set_cons_succ])
                          refine wpAnyH_take (i := 13) (oi := { dst := some 80, op := .binOp .eql 3 (.tmp 79) (.const (.int .i64 (-1))) 3, type := _, pos := _, after := _, guard := some (7, true) }) (v := .bool true) rfl (by kernel_rfl) (by kernel_rfl) (by kernel_rfl) (fun _ _ _ h => h) ?_ hHeld ?_
                          · (refine Or.inl ⟨by rfl, fun w hSw => ?_⟩; (try dsimp only at hSw); go_simp; (try rfl))
                          (try simp only [Act.put, List.setIfInBounds_toArray, List.set_cons_zero, List.set_cons_succ])
                          refine wpAnyH_take (i := 14) (oi := { dst := some 81, op := .move (.tmp 80), type := _, pos := _, after := _, guard := some (7, true) }) (v := ?_) rfl (by kernel_rfl) (by kernel_rfl) (by kernel_rfl) (fun _ _ _ h => h) ?_ hHeld ?_
                          rotate_left
                          · (refine Or.inl ⟨by rfl, fun w hSw => ?_⟩; (try dsimp only at hSw); go_simp; (try with_reducible rfl))
                          (try simp only [Act.put, List.setIfInBounds_toArray, List.set_cons_zero, List.set_cons_succ])
                          refine wpAnyH_take (i := 15) (oi := { dst := some 82, op := .fieldAddr 30 (.tmp 2) 1, type := _, pos := _, after := _, guard := some (14, false) }) (v := undef) rfl (by kernel_rfl) (by kernel_rfl) (by kernel_rfl) (fun _ _ _ h => h) (Or.inr ?_) hHeld ?_
                          · exact ⟨by rfl, rfl⟩
                          (try simp only [Act.put, List.setIfInBounds_toArray, List.set_cons_zero, List.set_cons_succ])
                          refine wpAnyH_take (i := 16) (oi := { dst := some 83, op := .load 28 (.tmp 82), type := _, pos := _, after := _, guard := some (14, false) }) (v := undef) rfl (by kernel_rfl) (by kernel_rfl) (by kernel_rfl) (fun _ _ _ h => h) (Or.inr ?_) hHeld ?_
                          · exact ⟨by rfl, rfl⟩
                          (try simp only [Act.put, List.setIfInBounds_toArray, List.set_cons_zero, List.set_cons_succ])
                          refine wpAnyH_take (i := 17) (oi := { dst := some 84, op := .fieldAddr 39 (.tmp 3) 0, type := _, pos := _, after := _, guard := some (14, false) }) (v := undef) rfl (by kernel_rfl) (by kernel_rfl) (by kernel_rfl) (fun _ _ _ h => h) (Or.inr ?_) hHeld ?_
                          · exact ⟨by rfl, rfl⟩
                          (try simp only [Act.put, List.setIfInBounds_toArray, List.set_cons_zero, List.set_cons_succ])
                          refine wpAnyH_take (i := 18) (oi := { dst := some 85, op := .load 23 (.tmp 84), type := _, pos := _, after := _, guard := some (14, false) }) (v := undef) rfl (by kernel_rfl) (by kernel_rfl) (by kernel_rfl) (fun _ _ _ h => h) (Or.inr ?_) hHeld ?_
                          · exact ⟨by rfl, rfl⟩
                          (try simp only [Act.put, List.setIfInBounds_toArray, List.set_cons_zero, List.set_cons_succ])
                          refine wpAnyH_take (i := 19) (oi := { dst := some 86, op := .move (.tmp 9), type := _, pos := _, after := _, guard := some (14, false) }) (v := undef) rfl (by kernel_rfl) (by kernel_rfl) (by kernel_rfl) (fun _ _ _ h => h) (Or.inr ?_) hHeld ?_
                          · exact ⟨by rfl, rfl⟩
                          (try simp only [Act.put, List.setIfInBounds_toArray, List.set_cons_zero, List.set_cons_succ])
                          refine wpAnyH_take (i := 20) (oi := { dst := some 87, op := .indexAddr 23 (.tmp 85) (.tmp 86), type := _, pos := _, after := _, guard := some (14, false) }) (v := undef) rfl (by kernel_rfl) (by kernel_rfl) (by kernel_rfl) (fun _ _ _ h => h) (Or.inr ?_) hHeld ?_
                          · exact ⟨by rfl, rfl⟩
                          (try simp only [Act.put, List.setIfInBounds_toArray, List.set_cons_zero, List.set_cons_succ])
                          refine wpAnyH_take (i := 21) (oi := { dst := some 88, op := .load 3 (.tmp 87), type := _, pos := _, after := _, guard := some (14, false) }) (v := undef) rfl (by kernel_rfl) (by kernel_rfl) (by kernel_rfl) (fun _ _ _ h => h) (Or.inr ?_) hHeld ?_
                          · exact ⟨by rfl, rfl⟩
                          (try simp only [Act.put, List.setIfInBounds_toArray, List.set_cons_zero, List.set_cons_succ])
                          refine wpAnyH_take (i := 22) (oi := { dst := some 89, op := .indexAddr 28 (.tmp 83) (.tmp 88), type := _, pos := _, after := _, guard := some (14, false) }) (v := undef) rfl (by kernel_rfl) (by kernel_rfl) (by kernel_rfl) (fun _ _ _ h => h) (Or.inr ?_) hHeld ?_
                          · exact ⟨by rfl, rfl⟩
                          (try simp only [Act.put, List.setIfInBounds_toArray, List.set_cons_zero, List.set_cons_succ])
                          refine wpAnyH_take (i := 23) (oi := { dst := some 90, op := .load 66 (.tmp 89), type := _, pos := _, after := _, guard := some (14, false) }) (v := undef) rfl (by kernel_rfl) (by kernel_rfl) (by kernel_rfl) (fun _ _ _ h => h) (Or.inr ?_) hHeld ?_
                          · exact ⟨by rfl, rfl⟩
                          (try simp only [Act.put, List.setIfInBounds_toArray, List.set_cons_zero, List.set_cons_succ])
                          refine wpAnyH_take (i := 24) (oi := { dst := some 91, op := .move (.tmp 7), type := _, pos := _, after := _, guard := some (14, false) }) (v := undef) rfl (by kernel_rfl) (by kernel_rfl) (by kernel_rfl) (fun _ _ _ h => h) (Or.inr ?_) hHeld ?_
                          · exact ⟨by rfl, rfl⟩
                          (try simp only [Act.put, List.setIfInBounds_toArray, List.set_cons_zero, List.set_cons_succ])
                          refine wpAnyH_take (i := 25) (oi := { dst := some 92, op := .call { callee := .value (.func 48), args := #[(.tmp 90), (.tmp 91)], argTypes := #[66, 3] }, type := _, pos := _, after := _, guard := some (14, false) }) (v := undef) rfl (by kernel_rfl) (by kernel_rfl) (by kernel_rfl) (fun _ _ _ h => h) (Or.inr ?_) hHeld ?_
                          · exact ⟨by rfl, rfl⟩
                          (try simp only [Act.put, List.setIfInBounds_toArray, List.set_cons_zero, List.set_cons_succ])
                          refine wpAnyH_take (i := 26) (oi := { dst := some 93, op := .unOp .not 4 (.tmp 92), type := _, pos := _, after := _, guard := some (14, false) }) (v := undef) rfl (by kernel_rfl) (by kernel_rfl) (by kernel_rfl) (fun _ _ _ h => h) (Or.inr ?_) hHeld ?_
                          · exact ⟨by rfl, rfl⟩
                          (try simp only [Act.put, List.setIfInBounds_toArray, List.set_cons_zero, List.set_cons_succ])
                          refine wpAnyH_take (i := 27) (oi := { dst := some 94, op := .pick (.tmp 81) (.const (.bool true)) (.tmp 93), type := _, pos := _, after := _, guard := some (7, true) }) (v := ?_) rfl (by kernel_rfl) (by kernel_rfl) (by kernel_rfl) (fun _ _ _ h => h) ?_ hHeld ?_
                          rotate_left
                          · (refine Or.inl ⟨by rfl, fun w hSw => ?_⟩; (try dsimp only at hSw); go_simp; (try with_reducible rfl))
                          (try simp only [Act.put, List.setIfInBounds_toArray, List.set_cons_zero, List.set_cons_succ])
                          refine wpAnyH_take (i := 28) (oi := { dst := some 95, op := .pick (.tmp 74) (.tmp 94) (.const (.bool false)), type := _, pos := _, after := _, guard := none }) (v := ?_) rfl (by kernel_rfl) (by kernel_rfl) (by kernel_rfl) (fun _ _ _ h => h) ?_ hHeld ?_
                          rotate_left
                          · (refine Or.inl ⟨by rfl, fun w hSw => ?_⟩; (try dsimp only at hSw); go_simp; (try with_reducible rfl))
                          (try simp only [Act.put, List.setIfInBounds_toArray, List.set_cons_zero, List.set_cons_succ])
                          refine wpAnyH_done (by kernel_rfl) ?_ _
                          go_wp2_with fail
                          go_meet
                          exact ⟨by first | rfl | trivial, hHeld.2.2.2.2.2⟩
                        case rest =>
                        obtain ⟨rfl, hkp⟩ := hcut
                        obtain ⟨w9, rfl⟩ : ∃ wo : World, wo = wc := ⟨_, rfl⟩
                        have HB9 := hid (HB3.out.trans (hkp.bel.mono HB3.out.size))
                        have KQ9 := hid (KQ3.out.below hkp.bel)
                        have KF9 := hid (KF3.out.below hkp.bel)
                        clear hkp q0 q1 q2 q6 r0 r1 r2 c0 c1 d0
                        go_wp2
                        go_roundw
                        case rel => exact ⟨i + 1, m + 1, by omega, by go_num, by go_num, by omega, hid (by rw [cntT_step, HTP.out, ← hcm.out]; rfl), KQ9, KF9, HB9⟩
                        case measure => simp [intOf]; omega
                      · have hpr : 0 ≤ y[i] ∧ y[i] < (y.length : Int) := by
                          rcases lead_par hli (isT_at HT.out i hli) with h | h
                          · exact absurd h hr
                          · exact h
                        obtain ⟨p, hpp⟩ : ∃ p : Nat, y[i] = (p : Int) := ⟨y[i].toNat, by omega⟩
                        have hpu : p < x.2.1.length := by rw [← HLN.out]; omega
                        have hpu' : (p : Int) < (x.2.1.length : Int) := by omega
                        have h0p : (0 : Int) ≤ (p : Int) := by omega
                        obtain ⟨b', off', ap, capp, he, _, _, c2, c3, rp⟩ := atoms_at (HQE.out.grow good_atom HB3.out hh) p hpu
                        simp only [Option.some.injEq, Addr.mk.injEq, and_true] at he
                        obtain ⟨rfl, rfl⟩ := he
                        have CP := hid (fun W (hW : Below w3.heap.size w3 W) => HC.out W p hpu v _ (good_atom.keep rp (sm_below hW (Nat.le_trans hh HB3.out.size))) (HB3.out.trans (hW.mono HB3.out.size)))
                        obtain ⟨bb, hbb⟩ : ∃ z, decide ((v : Int) ∈ x.2.1[p].2) = z := ⟨_, rfl⟩
                        rw [hbb] at CP
                        have HTP := hid (show top x.2.1 y v i = !bb by
                          unfold top
                          rw [HMV.out, parOf_at hli, hpp, Int.toNat_natCast, mv_at hpu, decide_eq_false (by omega)]
                          unfold mem
                          rw [hbb]
                          rfl)
                        have t1 : ((p : Int) == (-1 : Int)) = false := by simp
                        rw [hpp] at d0
                        clear rp hbb hr hpr hpp
                        go_upto_region 16 with fail
                        go_cut [95] (fun s wx => s = .bool (!bb) ∧ Kp w3 0 wx)
                        case first =>
                          refine wp_region_held_drew (S := (fun w' => w'.cell? ⟨w.heap.size, 1, none⟩ = some (.slice (some ⟨b, off, none⟩) x.2.1.length capq) ∧ w'.cell? ⟨w.heap.size + 1, 0, none⟩ = some (.slice (some ⟨bt, offt, none⟩) y.length cap) ∧ w'.cell? ⟨b, off + i * 2, none⟩ = some (.string x.2.1[i].1) ∧ w'.cell? ⟨b, off + i * 2 + 1, none⟩ = some (.slice aj x.2.1[i].2.length capj) ∧ w'.cell? ⟨bt, offt + i, none⟩ = some (.int .i64 (p : Int)) ∧ w'.cell? ⟨b, off + p * 2, none⟩ = some (.string x.2.1[p].1) ∧ w'.cell? ⟨b, off + p * 2 + 1, none⟩ = some (.slice ap x.2.1[p].2.length capp) ∧ Kp w3 0 w')) (by kernel_rfl) ⟨q1, r0, c0, c1, d0, c2, c3, (kp_refl w3).drew⟩ (fun hHeld => ?_)
                          refine wpAnyH_take (i := 0) (oi := { dst := some 67, op := .fieldAddr 30 (.tmp 2) 1, type := _, pos := _, after := _, guard := none }) (v := ?_) rfl (by kernel_rfl) (by kernel_rfl) (by kernel_rfl) (fun _ _ _ h => h) ?_ hHeld ?_
                          rotate_left
                          · (refine Or.inl ⟨by rfl, fun w hSw => ?_⟩; (try dsimp only at hSw); go_simp; (try with_reducible rfl))
                          (try simp only [Act.put, List.setIfInBounds_toArray, List.set_cons_zero, List.set_cons_succ])
                          refine wpAnyH_take (i := 1) (oi := { dst := some 68, op := .load 28 (.tmp 67), type := _, pos := _, after := _, guard := none }) (v := ?_) rfl (by kernel_rfl) (by kernel_rfl) (by kernel_rfl) (fun _ _ _ h => h) ?_ hHeld ?_
                          rotate_left
                          · (refine Or.inl ⟨by rfl, fun w hSw => ?_⟩; (try dsimp only at hSw); go_simp; (try with_reducible rfl))
                          (try simp only [Act.put, List.setIfInBounds_toArray, List.set_cons_zero, List.set_cons_succ])
                          refine wpAnyH_take (i := 2) (oi := { dst := some 69, op := .move (.tmp 9), type := _, pos := _, after := _, guard := none }) (v := ?_) rfl (by kernel_rfl) (by kernel_rfl) (by kernel_rfl) (fun _ _ _ h => h) ?_ hHeld ?_
                          rotate_left
                          · (refine Or.inl ⟨by rfl, fun w hSw => ?_⟩; (try dsimp only at hSw); go_simp; (try with_reducible rfl))
                          (try simp only [Act.put, List.setIfInBounds_toArray, List.set_cons_zero, List.set_cons_succ])
                          refine wpAnyH_take (i := 3) (oi := { dst := some 70, op := .indexAddr 28 (.tmp 68) (.tmp 69), type := _, pos := _, after := _, guard := none }) (v := ?_) rfl (by kernel_rfl) (by kernel_rfl) (by kernel_rfl) (fun _ _ _ h => h) ?_ hHeld ?_
                          rotate_left
                          · (refine Or.inl ⟨by rfl, fun w hSw => ?_⟩; (try dsimp only at hSw); go_simp; (try with_reducible rfl))
                          (try simp only [Act.put, List.setIfInBounds_toArray, List.set_cons_zero, List.set_cons_succ])
                          refine wpAnyH_take (i := 4) (oi := { dst := some 71, op := .load 66 (.tmp 70), type := _, pos := _, after := _, guard := none }) (v := ?_) rfl (by kernel_rfl) (by kernel_rfl) (by kernel_rfl) (fun _ _ _ h => h) ?_ hHeld ?_
                          rotate_left
                          · (refine Or.inl ⟨by rfl, fun w hSw => ?_⟩; (try dsimp only at hSw); go_simp; (try with_reducible rfl))
                          (try simp only [Act.put, List.setIfInBounds_toArray, List.set_cons_zero, List.set_cons_succ])
                          refine wpAnyH_take (i := 5) (oi := { dst := some 72, op := .move (.tmp 7), type := _, pos := _, after := _, guard := none }) (v := ?_) rfl (by kernel_rfl) (by kernel_rfl) (by kernel_rfl) (fun _ _ _ h => h) ?_ hHeld ?_
                          rotate_left
                          · (refine Or.inl ⟨by rfl, fun w hSw => ?_⟩; (try dsimp only at hSw); go_simp; (try with_reducible rfl))
                          (try simp only [Act.put, List.setIfInBounds_toArray, List.set_cons_zero, List.set_cons_succ])
                          refine wpAnyH_ready (rs := [6]) (by kernel_rfl) (by simp) ?_
                          refine AllReadyH.cons (o := { dst := some 73, op := .call { callee := .value (.func 48), args := #[(.tmp 71), (.tmp 72)], argTypes := #[66, 3] }, type := _, pos := _, after := _, guard := none }) rfl (fun K hK => ?_) AllReadyH.nil
                          go_simp
                          (with_reducible refine (CI.out _ hHeld.2.2.2.2.2.2.2.bel).mono ?_); rintro e wU ⟨rfl, hbU⟩
                          (try go_wp2_with fail)
                          refine hK.out _ _ ?_ (fun hH2 => ?_)
                          · exact ⟨hHeld.2.2.2.2.2.2.2.cell hbU (by omega) hHeld.1, hHeld.2.2.2.2.2.2.2.cell hbU (by omega) hHeld.2.1, hHeld.2.2.2.2.2.2.2.cell hbU (by omega) hHeld.2.2.1, hHeld.2.2.2.2.2.2.2.cell hbU (by omega) hHeld.2.2.2.1, hHeld.2.2.2.2.2.2.2.cell hbU (by omega) hHeld.2.2.2.2.1, hHeld.2.2.2.2.2.2.2.cell hbU (by omega) hHeld.2.2.2.2.2.1, hHeld.2.2.2.2.2.2.2.cell hbU (by omega) hHeld.2.2.2.2.2.2.1, hHeld.2.2.2.2.2.2.2.call hbU⟩
                          clear hK K hHeld
                          have hHeld := hH2
                          clear hH2
                          (try simp only [Act.put, List.setIfInBounds_toArray, List.set_cons_zero, List.set_cons_succ])
                          refine wpAnyH_take (i := 7) (oi := { dst := some 74, op := .move (.tmp 73), type := _, pos := _, after := _, guard := none }) (v := ?_) rfl (by kernel_rfl) (by kernel_rfl) (by kernel_rfl) (fun _ _ _ h => h) ?_ hHeld ?_
                          rotate_left
                          · (refine Or.inl ⟨by rfl, fun w hSw => ?_⟩; (try dsimp only at hSw); go_simp; (try with_reducible rfl))
                          (try simp only [Act.put, List.setIfInBounds_toArray, List.set_cons_zero, List.set_cons_succ])
                          refine wpAnyH_take (i := 8) (oi := { dst := some 75, op := .fieldAddr 39 (.tmp 3) 0, type := _, pos := _, after := _, guard := some (7, true) }) (v := ?_) rfl (by kernel_rfl) (by kernel_rfl) (by kernel_rfl) (fun _ _ _ h => h) ?_ hHeld ?_
                          rotate_left
                          · (refine Or.inl ⟨by rfl, fun w hSw => ?_⟩; (try dsimp only at hSw); go_simp; (try with_reducible rfl))
                          (try simp only [Act.put, List.setIfInBounds_toArray, List.set_cons_zero, List.set_cons_succ])
                          refine wpAnyH_take (i := 9) (oi := { dst := some 76, op := .load 23 (.tmp 75), type := _, pos := _, after := _, guard := some (7, true) }) (v := ?_) rfl (by kernel_rfl) (by kernel_rfl) (by kernel_rfl) (fun _ _ _ h => h) ?_ hHeld ?_
                          rotate_left
                          · (refine Or.inl ⟨by rfl, fun w hSw => ?_⟩; (try dsimp only at hSw); go_simp; (try with_reducible rfl))
                          (try simp only [Act.put, List.setIfInBounds_toArray, List.set_cons_zero, List.set_cons_succ])
                          refine wpAnyH_take (i := 10) (oi := { dst := some 77, op := .move (.tmp 9), type := _, pos := _, after := _, guard := some (7, true) }) (v := ?_) rfl (by kernel_rfl) (by kernel_rfl) (by kernel_rfl) (fun _ _ _ h => h) ?_ hHeld ?_
                          rotate_left
                          · (refine Or.inl ⟨by rfl, fun w hSw => ?_⟩; (try dsimp only at hSw); go_simp; (try with_reducible rfl))
                          (try simp only [Act.put, List.setIfInBounds_toArray, List.set_cons_zero, List.set_cons_succ])
                          refine wpAnyH_take (i := 11) (oi := { dst := some 78, op := .indexAddr 23 (.tmp 76) (.tmp 77), type := _, pos := _, after := _, guard := some (7, true) }) (v := ?_) rfl (by kernel_rfl) (by kernel_rfl) (by kernel_rfl) (fun _ _ _ h => h) ?_ hHeld ?_
                          rotate_left
                          · (refine Or.inl ⟨by rfl, fun w hSw => ?_⟩; (try dsimp only at hSw); go_simp; (try with_reducible rfl))
                          (try simp only [Act.put, List.setIfInBounds_toArray, List.set_cons_zero, List.set_cons_succ])
                          refine wpAnyH_take (i := 12) (oi := { dst := some 79, op := .load 3 (.tmp 78), type := _, pos := _, after := _, guard := some (7, true) }) (v := ?_) rfl (by kernel_rfl) (by kernel_rfl) (by kernel_rfl) (fun _ _ _ h => h) ?_ hHeld ?_
                          rotate_left
                          · (refine Or.inl ⟨by rfl, fun w hSw => ?_⟩; (try dsimp only at hSw); go_simp; (try with_reducible rfl))
                          (try simp only [Act.put, List.setIfInBounds_toArray, List.set_cons_zero, List.set_cons_succ])
                          refine wpAnyH_take (i := 13) (oi := { dst := some 80, op := .binOp .eql 3 (.tmp 79) (.const (.int .i64 (-1))) 3, type := _, pos := _, after := _, guard := some (7, true) }) (v := .bool false) rfl (by kernel_rfl) (by kernel_rfl) (by kernel_rfl) (fun _ _ _ h => h) ?_ hHeld ?_
                          · (refine Or.inl ⟨by rfl, fun w hSw => ?_⟩; (try dsimp only at hSw); go_simp; (try rfl))
                          (try simp only [Act.put, List.setIfInBounds_toArray, List.set_cons_zero, List.set_cons_succ])
                          refine wpAnyH_take (i := 14) (oi := { dst := some 81, op := .move (.tmp 80), type := _, pos := _, after := _, guard := some (7, true) }) (v := ?_) rfl (by kernel_rfl) (by kernel_rfl) (by kernel_rfl) (fun _ _ _ h => h) ?_ hHeld ?_
                          rotate_left
                          · (refine Or.inl ⟨by rfl, fun w hSw => ?_⟩; (try dsimp only at hSw); go_simp; (try with_reducible rfl))
                          (try simp only [Act.put, List.setIfInBounds_toArray, List.set_cons_zero, List.set_cons_succ])
                          refine wpAnyH_take (i := 15) (oi := { dst := some 82, op := .fieldAddr 30 (.tmp 2) 1, type := _, pos := _, after := _, guard := some (14, false) }) (v := ?_) rfl (by kernel_rfl) (by kernel_rfl) (by kernel_rfl) (fun _ _ _ h => h) ?_ hHeld ?_
                          rotate_left
                          · (refine Or.inl ⟨by rfl, fun w hSw => ?_⟩; (try dsimp only at hSw); go_simp; (try with_reducible rfl))
                          (try simp only [Act.put, List.setIfInBounds_toArray, List.set_cons_zero, List.set_cons_succ])
                          refine wpAnyH_take (i := 16) (oi := { dst := some 83, op := .load 28 (.tmp 82), type := _, pos := _, after := _, guard := some (14, false) }) (v := ?_) rfl (by kernel_rfl) (by kernel_rfl) (by kernel_rfl) (fun _ _ _ h => h) ?_ hHeld ?_
                          rotate_left
                          · (refine Or.inl ⟨by rfl, fun w hSw => ?_⟩; (try dsimp only at hSw); go_simp; (try with_reducible rfl))
                          (try simp only [Act.put, List.setIfInBounds_toArray, List.set_cons_zero, List.set_cons_succ])
                          refine wpAnyH_take (i := 17) (oi := { dst := some 84, op := .fieldAddr 39 (.tmp 3) 0, type := _, pos := _, after := _, guard := some (14, false) }) (v := ?_) rfl (by kernel_rfl) (by kernel_rfl) (by kernel_rfl) (fun _ _ _ h => h) ?_ hHeld ?_
                          rotate_left
                          · (refine Or.inl ⟨by rfl, fun w hSw => ?_⟩; (try dsimp only at hSw); go_simp; (try with_reducible rfl))
                          (try simp only [Act.put, List.setIfInBounds_toArray, List.set_cons_zero, List.set_cons_succ])
                          refine wpAnyH_take (i := 18) (oi := { dst := some 85, op := .load 23 (.tmp 84), type := _, pos := _, after := _, guard := some (14, false) }) (v := ?_) rfl (by kernel_rfl) (by kernel_rfl) (by kernel_rfl) (fun _ _ _ h => h) ?_ hHeld ?_
                          rotate_left
                          · (refine Or.inl ⟨by rfl, fun w hSw => ?_⟩; (try dsimp only at hSw); go_simp; (try with_reducible rfl))
                          (try simp only [Act.put, List.setIfInBounds_toArray, List.set_cons_zero, List.set_cons_succ])
                          refine wpAnyH_take (i := 19) (oi := { dst := some 86, op := .move (.tmp 9), type := _, pos := _, after := _, guard := some (14, false) }) (v := ?_) rfl (by kernel_rfl) (by kernel_rfl) (by kernel_rfl) (fun _ _ _ h => h) ?_ hHeld ?_
                          rotate_left
                          · (refine Or.inl ⟨by rfl, fun w hSw => ?_⟩; (try dsimp only at hSw); go_simp; (try with_reducible rfl))
                          (try simp only [Act.put, List.setIfInBounds_toArray, List.set_cons_zero, List.set_cons_succ])
                          refine wpAnyH_take (i := 20) (oi := { dst := some 87, op := .indexAddr 23 (.tmp 85) (.tmp 86), type := _, pos := _, after := _, guard := some (14, false) }) (v := ?_) rfl (by kernel_rfl) (by kernel_rfl) (by kernel_rfl) (fun _ _ _ h => h) ?_ hHeld ?_
                          rotate_left
                          · (refine Or.inl ⟨by rfl, fun w hSw => ?_⟩; (try dsimp only at hSw); go_simp; (try with_reducible rfl))
                          (try simp only [Act.put, List.setIfInBounds_toArray, List.set_cons_zero, List.set_cons_succ])
                          refine wpAnyH_take (i := 21) (oi := { dst := some 88, op := .load 3 (.tmp 87), type := _, pos := _, after := _, guard := some (14, false) }) (v := ?_) rfl (by kernel_rfl) (by kernel_rfl) (by kernel_rfl) (fun _ _ _ h => h) ?_ hHeld ?_
                          rotate_left
                          · (refine Or.inl ⟨by rfl, fun w hSw => ?_⟩; (try dsimp only at hSw); go_simp; (try with_reducible rfl))
                          (try simp only [Act.put, List.setIfInBounds_toArray, List.set_cons_zero, List.set_cons_succ])
                          refine wpAnyH_take (i := 22) (oi := { dst := some 89, op := .indexAddr 28 (.tmp 83) (.tmp 88), type := _, pos := _, after := _, guard := some (14, false) }) (v := ?_) rfl (by kernel_rfl) (by kernel_rfl) (by kernel_rfl) (fun _ _ _ h => h) ?_ hHeld ?_
                          rotate_left
                          · (refine Or.inl ⟨by rfl, fun w hSw => ?_⟩; (try dsimp only at hSw); go_simp; (try with_reducible rfl))
                          (try simp only [Act.put, List.setIfInBounds_toArray, List.set_cons_zero, List.set_cons_succ])
                          refine wpAnyH_take (i := 23) (oi := { dst := some 90, op := .load 66 (.tmp 89), type := _, pos := _, after := _, guard := some (14, false) }) (v := ?_) rfl (by kernel_rfl) (by kernel_rfl) (by kernel_rfl) (fun _ _ _ h => h) ?_ hHeld ?_
                          rotate_left
                          · (refine Or.inl ⟨by rfl, fun w hSw => ?_⟩; (try dsimp only at hSw); go_simp; (try with_reducible rfl))
                          (try simp only [Act.put, List.setIfInBounds_toArray, List.set_cons_zero, List.set_cons_succ])
                          refine wpAnyH_take (i := 24) (oi := { dst := some 91, op := .move (.tmp 7), type := _, pos := _, after := _, guard := some (14, false) }) (v := ?_) rfl (by kernel_rfl) (by kernel_rfl) (by kernel_rfl) (fun _ _ _ h => h) ?_ hHeld ?_
                          rotate_left
                          · (refine Or.inl ⟨by rfl, fun w hSw => ?_⟩; (try dsimp only at hSw); go_simp; (try with_reducible rfl))
                          (try simp only [Act.put, List.setIfInBounds_toArray, List.set_cons_zero, List.set_cons_succ])
                          refine wpAnyH_ready (rs := [25]) (by kernel_rfl) (by simp) ?_
                          refine AllReadyH.cons (o := { dst := some 92, op := .call { callee := .value (.func 48), args := #[(.tmp 90), (.tmp 91)], argTypes := #[66, 3] }, type := _, pos := _, after := _, guard := some (14, false) }) rfl (fun K hK => ?_) AllReadyH.nil
                          go_simp
                          (with_reducible refine (CP.out _ hHeld.2.2.2.2.2.2.2.bel).mono ?_); rintro e wV ⟨rfl, hbV⟩
                          (try go_wp2_with fail)
                          refine hK.out _ _ ?_ (fun hH2 => ?_)
                          · exact ⟨hHeld.2.2.2.2.2.2.2.cell hbV (by omega) hHeld.1, hHeld.2.2.2.2.2.2.2.cell hbV (by omega) hHeld.2.1, hHeld.2.2.2.2.2.2.2.cell hbV (by omega) hHeld.2.2.1, hHeld.2.2.2.2.2.2.2.cell hbV (by omega) hHeld.2.2.2.1, hHeld.2.2.2.2.2.2.2.cell hbV (by omega) hHeld.2.2.2.2.1, hHeld.2.2.2.2.2.2.2.cell hbV (by omega) hHeld.2.2.2.2.2.1, hHeld.2.2.2.2.2.2.2.cell hbV (by omega) hHeld.2.2.2.2.2.2.1, hHeld.2.2.2.2.2.2.2.call hbV⟩
                          clear hK K hHeld
                          have hHeld := hH2
                          clear hH2
                          (try simp only [Act.put, List.setIfInBounds_toArray, List.set_cons_zero, List.set_cons_succ])
                          refine wpAnyH_take (i := 26) (oi := { dst := some 93, op := .unOp .not 4 (.tmp 92), type := _, pos := _, after := _, guard := some (14, false) }) (v := ?_) rfl (by kernel_rfl) (by kernel_rfl) (by kernel_rfl) (fun _ _ _ h => h) ?_ hHeld ?_
                          rotate_left
                          · (refine Or.inl ⟨by rfl, fun w hSw => ?_⟩; (try dsimp only at hSw); go_simp; (try with_reducible rfl))
                          (try simp only [Act.put, List.setIfInBounds_toArray, List.set_cons_zero, List.set_cons_succ])
                          refine wpAnyH_take (i := 27) (oi := { dst := some 94, op := .pick (.tmp 81) (.const (.bool true)) (.tmp 93), type := _, pos := _, after := _, guard := some (7, true) }) (v := ?_) rfl (by kernel_rfl) (by kernel_rfl) (by kernel_rfl) (fun _ _ _ h => h) ?_ hHeld ?_
                          rotate_left
                          · (refine Or.inl ⟨by rfl, fun w hSw => ?_⟩; (try dsimp only at hSw); go_simp; (try with_reducible rfl))
                          (try simp only [Act.put, List.setIfInBounds_toArray, List.set_cons_zero, List.set_cons_succ])
                          refine wpAnyH_take (i := 28) (oi := { dst := some 95, op := .pick (.tmp 74) (.tmp 94) (.const (.bool false)), type := _, pos := _, after := _, guard := none }) (v := ?_) rfl (by kernel_rfl) (by kernel_rfl) (by kernel_rfl) (fun _ _ _ h => h) ?_ hHeld ?_
                          rotate_left
                          · (refine Or.inl ⟨by rfl, fun w hSw => ?_⟩; (try dsimp only at hSw); go_simp; (try with_reducible rfl))
                          (try simp only [Act.put, List.setIfInBounds_toArray, List.set_cons_zero, List.set_cons_succ])
                          refine wpAnyH_done (by kernel_rfl) ?_ _
                          go_wp2_with fail
                          go_meet
                          exact ⟨by first | rfl | trivial, hHeld.2.2.2.2.2.2.2⟩
                        case rest =>
                        obtain ⟨rfl, hkp⟩ := hcut
                        obtain ⟨w9, rfl⟩ : ∃ wo : World, wo = wc := ⟨_, rfl⟩
                        clear c2 c3
                        have HB9 := hid (HB3.out.trans (hkp.bel.mono HB3.out.size))
                        have KQ9 := hid (KQ3.out.below hkp.bel)
                        have KF9 := hid (KF3.out.below hkp.bel)
                        clear hkp q0 q1 q2 q6 r0 r1 r2 c0 c1 d0
                        cases bb with
                        | true =>
                          go_wp2
                          go_roundw
                          case rel => exact ⟨i + 1, m, by omega, by go_num, rfl, by omega, hid (by rw [cntT_step, HTP.out, ← hcm.out]; rfl), KQ9, KF9, HB9⟩
                          case measure => simp [intOf]; omega
                        | false =>
                          go_wp2
                          go_roundw
                          case rel => exact ⟨i + 1, m + 1, by omega, by go_num, by go_num, by omega, hid (by rw [cntT_step, HTP.out, ← hcm.out]; rfl), KQ9, KF9, HB9⟩
                          case measure => simp [intOf]; omega
                  · have hli' : ¬ (i : Int) < (y.length : Int) := by omega
                    have e : i = y.length := by omega
                    have HCT := hid (show m = cntT x.2.1 y v y.length by rw [hcm.out, e])
                    have HT1 := hid (top_one HQV.out HN5.out HLN.out HT.out hlv)
                    by_cases hm1 : m = 1
                    · have t1 : ((m : Int) != 1) = false := by simp [hm1]
                      have HN := hid (show ∀ u, u < v + 1 → cntT x.2.1 y u y.length = 1 from fun u hu => by
                        by_cases e2 : u = v
                        · subst e2; rw [← HCT.out]; exact hm1
                        · exact hones.out u (by omega))
                      clear e hcm hm1
                      go_wp2
                      go_roundw
                      case rel => exact ⟨v + 1, by omega, by go_num, HN, KQ3, KF3, HB3⟩
                      case measure => simp [intOf]; omega
                    · have t1 : ((m : Int) != 1) = true := by simp; omega
                      have HF := hid (show vjt x y = false by
                        rw [HVK.out]
                        exact okT_no (v := v) (by omega) (by rw [← HCT.out]; have := HT1.out; rw [← HCT.out] at this; omega))
                      clear e hcm hm1
                      go_wp2
                      go_ret
                      exact ⟨by rw [HF.out]; rfl, HB3.out⟩
              · have hlv' : ¬ (v : Int) < (n5 : Int) := by omega
                have HF := hid (show vjt x y = true by
                  rw [HVK.out]
                  refine okT_yes (fun u hu => ?_)
                  by_cases hun : u < n5
                  · rw [hones.out u (by omega)]
                    exact Nat.le_refl _
                  · rw [cntT_zero _ (fun i => top_none HVA.out (by omega) i)]
                    exact Nat.zero_le _)
                go_wp2
                go_ret
                exact ⟨by rw [HF.out]; rfl, hb2.out⟩
    · have t1 : ((y.length : Int) != (x.2.1.length : Int)) = true := by simp; omega
      have HF := hid (vjt_n hln)
      clear hln
      go_wp2
      go_ret
      exact ⟨by rw [HF.out]; rfl, HB.out⟩
end Go.Proofs.Ytaeeogighoobdaa.JtvS
