/- Do all the variables of one atom occur in another? The model's test and the program's (by a map). -/
import Derived.Test.YtehbkgmpnkmgjaaVarIn
import Derived.Test.YtehbkgmpnkmgjaaMapB
import Derived.Test.YtehbkgmpnkmgjaaLawKit
import Derived.Test.YtehbkgmpnkmgjaaKeep
import Derived.Test.YtehbkgmpnkmgjaaKept
import Derived.Deep.RegionHeld3
import Derived.Deep.DeepCutAuto
namespace Go.Proofs.Ytehbkgmpnkmgjaa.SubA
open Go.RowKit
open Go.Maps (Keyed int_keyed keyOf_int_mk)
open Go.Proofs.Ytehbkgmpnkmgjaa.Num Go.Proofs.Ytehbkgmpnkmgjaa.IntRow Go.Proofs.Ytehbkgmpnkmgjaa.Rdr Go.Proofs.Ytehbkgmpnkmgjaa.Dat Go.Proofs.Ytehbkgmpnkmgjaa.HasL Go.Proofs.Ytehbkgmpnkmgjaa.VarIn Go.Proofs.Ytehbkgmpnkmgjaa.MapB Go.Proofs.Ytehbkgmpnkmgjaa.LawKit Go.Proofs.Ytehbkgmpnkmgjaa.Keep Go.Proofs.Ytehbkgmpnkmgjaa.Kept
set_option linter.unusedVariables false

def sub (xs ys : List Int) : Bool := xs.all fun v => decide (v ∈ ys)
theorem sub_no {xs ys : List Int} (k : Nat) (h : k < xs.length) (e : decide (xs[k] ∈ ys) = false) : sub xs ys = false := by
  rw [sub, List.all_eq_false]
  exact ⟨xs[k], List.getElem_mem h, by rw [e]; decide⟩
theorem sub_yes {xs ys : List Int} (h : ∀ j (h : j < xs.length), decide (xs[j] ∈ ys) = true) : sub xs ys = true := by
  rw [sub, List.all_eq_true]
  intro v hv
  obtain ⟨j, hj, rfl⟩ := List.getElem_of_mem hv
  exact h j hj

theorem spec_hasL (cs : List Value) (x : AtomD) (v : Int) (bb : Bool) (lo hi : Nat) (w : World) (hs : x.2.length ≤ 1048576) (h : rAtom w lo hi cs x) (hh : hi ≤ w.heap.size) (hb : decide (v ∈ x.2) = bb) :
    Calls Try.prog 37 #[.agg cs.toArray, .int .i64 v] w fun e w' => e = .returned (.bool bb) ∧ Below w.heap.size w w' := by
  subst hb
  exact spec_has cs x v lo hi w hs h hh

set_option maxRecDepth 100000 in
set_option maxHeartbeats 4000000 in
theorem spec_sub (cs ds : List Value) (x y : AtomD) (lo hi lo' hi' : Nat) (w : World) (hs : x.2.length ≤ 1048576) (hs' : y.2.length ≤ 1048576) (h : rAtom w lo hi cs x) (h' : rAtom w lo' hi' ds y) (hh : hi ≤ w.heap.size) (hh' : hi' ≤ w.heap.size) :
    Calls Try.prog 14 #[.agg cs.toArray, .agg ds.toArray] w fun e w' => e = .returned (.bool (sub x.2 y.2)) ∧ Below w.heap.size w w' := by
  obtain ⟨a, cap, hcs, _, _, hr⟩ := atom_open h
  subst hcs
  have HY := hid h'
  obtain ⟨a2, cap2, hds, _, _, hr2⟩ := atom_open h'
  subst hds
  have K0 := hid ((hasl_new w [.string x.1, .slice a x.2.length cap] 38).alloc (.cells #[.string y.1, .slice a2 y.2.length cap2] 38))
  have K1 := hid (hasl_new (w.alloc (.cells #[.string x.1, .slice a x.2.length cap] 38)) [.string y.1, .slice a2 y.2.length cap2] 38)
  have B2 := hid (((Below.refl w.heap.size w).alloc (Nat.le_refl _) (.cells #[.string x.1, .slice a x.2.length cap] 38)).alloc (by simp) (.cells #[.string y.1, .slice a2 y.2.length cap2] 38))
  simp only [World.size_alloc] at K1
  have HR := hid (rd_of hr)
  clear h h' hr hr2
  go_enter Try.func14, Try.ntmps14
  go_wp2
  go_loopw [5] (fun i wr => ∃ k : Nat, k ≤ x.2.length ∧ i = .int .i64 k ∧ Hid (∀ j (h : j < x.2.length), j < k → decide (x.2[j] ∈ y.2) = true) ∧ Hid (HasL wr w.heap.size [.string x.1, .slice a x.2.length cap]) ∧ Hid (HasL wr (w.heap.size + 1) [.string y.1, .slice a2 y.2.length cap2]) ∧ Hid (Below w.heap.size w wr)) (fun i _ => x.2.length - (intOf i).toNat)
  case atStart => exact ⟨0, Nat.zero_le _, rfl, hid (fun j _ h => by omega), K0, K1, B2⟩
  case round =>
    obtain ⟨k, hk, rfl, hall, k0, k1, hb⟩ := hrel
    obtain ⟨p0, p1, _, _, pz⟩ := k0.out.two
    obtain ⟨q0, q1, _, _, qz⟩ := k1.out.two
    by_cases hlt : k < x.2.length
    · have hlt' : (k : Int) < (x.2.length : Int) := by omega
      have h0' : (0 : Int) ≤ (k : Int) := by omega
      obtain ⟨b, off, he, hbB, hc⟩ := HR.out.below (hb.out.mono hh) (by omega)
      subst he
      have g := hc k hlt
      clear hc
      have hsz := hb.out.size
      have hbo : b < wr.heap.size := by omega
      obtain ⟨bb, hbb⟩ : ∃ z, decide (x.2[k] ∈ y.2) = z := ⟨_, rfl⟩
      have HBB := hid hbb
      have RY := hid (good_atom.grow HY.out hb.out hh')
      have hiw : hi' ≤ wr.heap.size := by omega
      clear hbb
      have hk2 := kp_refl wr
      go_upto_region 4 with fail
      go_cut [20] (fun s wx => s = .bool (!bb) ∧ Kp wr 0 wx)
      case first =>
        go_region_held3 (fun w' => w'.cell? ⟨w.heap.size, 1, none⟩ = some (.slice (some ⟨b, off, none⟩) x.2.length cap) ∧ w'.cell? ⟨w.heap.size + 1, 0, none⟩ = some (.string y.1) ∧ w'.cell? ⟨w.heap.size + 1, 1, none⟩ = some (.slice a2 y.2.length cap2) ∧ w'.cell? ⟨b, off + k, none⟩ = some (.int .i64 x.2[k]) ∧ Kp wr 0 w')
          (first
            | (go_split_ands
               repeat' apply And.intro
               all_goals (first | (with_reducible assumption) | (with_reducible exact cell_drew (by assumption)) | (with_reducible exact Kp.drew (by assumption)) | (with_reducible exact Kp.cell (by assumption) hb1 (by omega) (by assumption)) | (with_reducible exact Kp.call (by assumption) hb1))))
          (first
            | (go_split_ands; go_at_call 37; (with_reducible refine (spec_hasL _ y x.2[k] bb lo' hi' _ hs' (gd_kp good_atom RY.out (by with_reducible assumption) hiw) (kp_le (by with_reducible assumption) hiw) HBB.out).mono ?_); rintro e wF ⟨rfl, hb1⟩))
        all_goals
          go_wp2_with fail
          go_meet
          go_split_ands
          exact ⟨rfl, by with_reducible assumption⟩
      case rest =>
      obtain ⟨rfl, hkp⟩ := hcut
      obtain ⟨w5, rfl⟩ : ∃ wo : World, wo = wc := ⟨_, rfl⟩
      have hb5 := hkp.bel
      have HB5 := hid (hb.out.trans (hb5.mono hsz))
      have KA5 := hid (k0.out.below hb5)
      have KB5 := hid (k1.out.below hb5)
      clear hb5 hkp hk2 p0 p1 q0 q1 g
      cases bb with
      | false =>
        have hf := hid (sub_no k hlt HBB.out)
        go_wp2
        go_ret
        exact ⟨by rw [hf.out]; rfl, HB5.out⟩
      | true =>
        have HA := hid (show ∀ j (h : j < x.2.length), j < k + 1 → decide (x.2[j] ∈ y.2) = true from fun j hj hjk => by
          by_cases e : j = k
          · subst e; exact HBB.out
          · exact hall.out j hj (by omega))
        go_wp2
        go_roundw
        case rel => exact ⟨k + 1, by omega, by go_num, HA, KA5, KB5, HB5⟩
        case measure => simp [intOf]; omega
    · have hf := hid (sub_yes (fun j hj => hall.out j hj (by omega)))
      go_wp2
      go_ret
      exact ⟨by rw [hf.out]; rfl, hb.out⟩

/-! ### the program's -/
theorem lawK : Keyed Try.prog 3 := int_keyed Try.underlying3
theorem zeroB (w : World) : (zeroValue 4).run Try.prog w = .ok (.bool false) w := by kernel_rfl

set_option maxRecDepth 100000 in
set_option maxHeartbeats 1000000 in
theorem impl_sub (cs ds : List Value) (x y : AtomD) (lo hi lo' hi' : Nat) (w : World) (hs : x.2.length ≤ 1048576) (hs' : y.2.length ≤ 1048576) (hwx : ∀ z ∈ x.2, (Lit.int .i64 z).wf = true) (hwy : ∀ z ∈ y.2, (Lit.int .i64 z).wf = true) (h : rAtom w lo hi cs x) (h' : rAtom w lo' hi' ds y) (hh : hi ≤ w.heap.size) (hh' : hi' ≤ w.heap.size) :
    Calls Try.prog 16 #[.agg cs.toArray, .agg ds.toArray] w fun e w' => e = .returned (.bool (sub x.2 y.2)) ∧ Below w.heap.size w w' := by
  obtain ⟨a, cap, hcs, _, _, hr⟩ := atom_open h
  subst hcs
  obtain ⟨a2, cap2, hds, _, _, hr2⟩ := atom_open h'
  subst hds
  have B2 := hid (((Below.refl w.heap.size w).alloc (Nat.le_refl _) (.cells #[.string x.1, .slice a x.2.length cap] 38)).alloc (by simp) (.cells #[.string y.1, .slice a2 y.2.length cap2] 38))
  have K0 := hid ((hasl_new w [.string x.1, .slice a x.2.length cap] 38).alloc (.cells #[.string y.1, .slice a2 y.2.length cap2] 38))
  have K1 := hid (hasl_new (w.alloc (.cells #[.string x.1, .slice a x.2.length cap] 38)) [.string y.1, .slice a2 y.2.length cap2] 38)
  simp only [World.size_alloc] at K1
  have HX := hid (rd_of hr)
  have HY := hid (rd_of hr2)
  have HWX := hid (fun k (hk : k < x.2.length) => keyOf_int_mk (P := Try.prog) Try.underlying3 (hwx _ (List.getElem_mem hk)))
  have HWY := hid (fun k (hk : k < y.2.length) => keyOf_int_mk (P := Try.prog) Try.underlying3 (hwy _ (List.getElem_mem hk)))
  clear h h' hr hr2 hwx hwy
  have hmm := @run_makeMap Try.prog
  go_enter Try.func16, Try.ntmps16
  go_wp2
  go_loopw [7, 14] (fun _ i wr => ∃ k : Nat, k ≤ y.2.length ∧ i = .int .i64 k ∧ Hid (wr.ownsMap Try.prog 3 (plainElem Try.prog 4) (w.heap.size + 2) k (DB (y.2.take k))) ∧ Hid (HasL wr w.heap.size [.string x.1, .slice a x.2.length cap]) ∧ Hid (Below w.heap.size w wr)) (fun _ i _ => y.2.length - (intOf i).toNat)
  case atStart => exact ⟨0, Nat.zero_le _, rfl, hid (by
    have h0 := World.ownsMap_made (H := Unit) ((w.alloc (.cells #[.string x.1, .slice a x.2.length cap] 38)).alloc (.cells #[.string y.1, .slice a2 y.2.length cap2] 38)) Try.prog 3 (plainElem Try.prog 4)
    simp only [World.size_alloc] at h0
    exact h0), hid (K0.out.alloc _), hid (B2.out.alloc B2.out.size _)⟩
  case round =>
    obtain ⟨k, hk, rfl, hown, hbox, hb⟩ := hrel
    by_cases hlt : k < y.2.length
    · have hlt' : (k : Int) < (y.2.length : Int) := by omega
      have h0' : (0 : Int) ≤ (k : Int) := by omega
      obtain ⟨b, off, he, hbB, hc⟩ := HY.out.below (hb.out.mono hh') (by omega)
      subst he
      have g := hc k hlt
      clear hc
      have hkey := HWY.out k hlt
      have HO := hown.out
      go_wp2_with (first
        | (at_mapUpdate; refine wpList_mapUpdate_own _ rfl _ _ _ 75 rfl 3 4 lawK Try.underlying75 _ (w.heap.size + 2) k _ rfl HO (by unfold maxLen; omega) _ _ _ rfl rfl hkey _ [] (plainElem_bool Try.underlying4 true) ?_; intro w1 hown1 hgrow1)
        | go_in)
      have hs2 := hbox.out.1
      have HB1 := hid (hb.out.grown hgrow1 hb.out.size (fun j hj => by cases hj; omega))
      have HO1 := hid (show w1.ownsMap Try.prog 3 (plainElem Try.prog 4) (w.heap.size + 2) (k + 1) (DB (y.2.take (k + 1))) by
        rw [List.take_succ_eq_append_getElem hlt, db_snoc]; exact hown1)
      have HX1 := hid (hbox.out.under ((Below.refl (w.heap.size + 2) wr).grown hgrow1 (Nat.le_of_lt HO.lt) (fun j hj => by cases hj; exact Nat.le_refl _)) (by omega))
      clear HO hown1 hgrow1
      go_roundw
      case rel => exact ⟨k + 1, by omega, by go_num, HO1, HX1, HB1⟩
      case measure => simp [intOf]; omega
    · have hlt' : ¬ (k : Int) < (y.2.length : Int) := by omega
      have hke : k = y.2.length := by omega
      subst hke
      have HM := hid (show wr.ownsMap Try.prog 3 (plainElem Try.prog 4) (w.heap.size + 2) y.2.length (DB y.2) by
        have := hown.out; rw [List.take_length] at this; exact this)
      obtain ⟨p0, p1, _, _, pz⟩ := hbox.out.two
      clear hown
      go_wp2
      go_loop [9, 24] (fun _ i => ∃ k : Nat, k ≤ x.2.length ∧ i = .int .i64 k ∧ Hid (∀ j (h : j < x.2.length), j < k → decide (x.2[j] ∈ y.2) = true)) (fun _ i => x.2.length - (intOf i).toNat)
      case atStart => exact ⟨0, Nat.zero_le _, rfl, hid (fun j _ h => by omega)⟩
      case round =>
        obtain ⟨k, hk, rfl, hall⟩ := hrel
        by_cases hlt2 : k < x.2.length
        · have hlt2' : (k : Int) < (x.2.length : Int) := by omega
          have h0' : (0 : Int) ≤ (k : Int) := by omega
          obtain ⟨b, off, he, hbB, hc⟩ := HX.out.below (hb.out.mono hh) (by omega)
          subst he
          have g := hc k hlt2
          clear hc
          have hkey := HWX.out k hlt2
          have HO := HM.out
          obtain ⟨bb, hbb⟩ : ∃ z, decide (x.2[k] ∈ y.2) = z := ⟨_, rfl⟩
          have HBB := hid hbb
          clear hbb
          cases bb with
          | false =>
            have hf := hid (sub_no k hlt2 HBB.out)
            go_wp2_with (first
              | (at_lookup; refine wpList_lookup_bool _ rfl _ _ 75 rfl 3 4 lawK Try.underlying75 Try.underlying4 (zeroB _) (w.heap.size + 2) _ _ rfl HO _ rfl hkey ?_; rw [HBB.out])
              | go_in)
            go_ret
            exact ⟨by rw [hf.out]; rfl, hb.out⟩
          | true =>
            have HA := hid (show ∀ j (h : j < x.2.length), j < k + 1 → decide (x.2[j] ∈ y.2) = true from fun j hj hjk => by
              by_cases e : j = k
              · subst e; exact HBB.out
              · exact hall.out j hj (by omega))
            go_wp2_with (first
              | (at_lookup; refine wpList_lookup_bool _ rfl _ _ 75 rfl 3 4 lawK Try.underlying75 Try.underlying4 (zeroB _) (w.heap.size + 2) _ _ rfl HO _ rfl hkey ?_; rw [HBB.out])
              | go_in)
            go_round
            case rel => exact ⟨k + 1, by omega, by go_num, HA⟩
            case measure => simp [intOf]; omega
        · have hlt2' : ¬ (k : Int) < (x.2.length : Int) := by omega
          have hf := hid (sub_yes (fun j hj => hall.out j hj (by omega)))
          go_wp2
          go_ret
          exact ⟨by rw [hf.out]; rfl, hb.out⟩
end Go.Proofs.Ytehbkgmpnkmgjaa.SubA
