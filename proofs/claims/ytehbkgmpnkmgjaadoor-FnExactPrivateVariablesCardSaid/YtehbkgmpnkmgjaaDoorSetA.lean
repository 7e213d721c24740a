/- The variables of an atom, the common variables of two: the program's functions (by sets), the model's of the common ones. -/
import Derived.Test.YtehbkgmpnkmgjaaDoorSetI
import Derived.Test.YtehbkgmpnkmgjaaDoorAtmVars
import Derived.Test.YtehbkgmpnkmgjaaDoorLawKit
import Derived.Test.YtehbkgmpnkmgjaaDoorKeep
import Derived.Test.YtehbkgmpnkmgjaaDoorKept
import Derived.Deep.RegionHeld3
import Derived.Deep.DeepCutAuto
namespace Go.Proofs.YtehbkgmpnkmgjaaDoor.SetA
open Go.RowKit
open Go.Proofs.YtehbkgmpnkmgjaaDoor.Num Go.Proofs.YtehbkgmpnkmgjaaDoor.IntRow Go.Proofs.YtehbkgmpnkmgjaaDoor.IntLaw Go.Proofs.YtehbkgmpnkmgjaaDoor.Rdr Go.Proofs.YtehbkgmpnkmgjaaDoor.Dat Go.Proofs.YtehbkgmpnkmgjaaDoor.HasL Go.Proofs.YtehbkgmpnkmgjaaDoor.VarIn Go.Proofs.YtehbkgmpnkmgjaaDoor.SetV Go.Proofs.YtehbkgmpnkmgjaaDoor.SetI Go.Proofs.YtehbkgmpnkmgjaaDoor.AtmVars Go.Proofs.YtehbkgmpnkmgjaaDoor.LawKit Go.Proofs.YtehbkgmpnkmgjaaDoor.Keep Go.Proofs.YtehbkgmpnkmgjaaDoor.Kept
set_option linter.unusedVariables false

theorem m5_fin : ∀ b0 b1 b2 b3 b4 : Bool, (b0.toNat + 2 * b1.toNat + 4 * b2.toNat + 8 * b3.toNat + 16 * b4.toNat) < 32 ∧ (b0.toNat + 2 * b1.toNat + 4 * b2.toNat + 8 * b3.toNat + 16 * b4.toNat).testBit 0 = b0 ∧ (b0.toNat + 2 * b1.toNat + 4 * b2.toNat + 8 * b3.toNat + 16 * b4.toNat).testBit 1 = b1 ∧ (b0.toNat + 2 * b1.toNat + 4 * b2.toNat + 8 * b3.toNat + 16 * b4.toNat).testBit 2 = b2 ∧ (b0.toNat + 2 * b1.toNat + 4 * b2.toNat + 8 * b3.toNat + 16 * b4.toNat).testBit 3 = b3 ∧ (b0.toNat + 2 * b1.toNat + 4 * b2.toNat + 8 * b3.toNat + 16 * b4.toNat).testBit 4 = b4 := by decide
theorem ex_is (p : Nat → Bool) : ∃ m, Is m p := by
  obtain ⟨h, h0, h1, h2, h3, h4⟩ := m5_fin (p 0) (p 1) (p 2) (p 3) (p 4)
  refine ⟨_, h, fun v hv => ?_⟩
  rcases (by omega : v = 0 ∨ v = 1 ∨ v = 2 ∨ v = 3 ∨ v = 4) with rfl | rfl | rfl | rfl | rfl
  · exact h0
  · exact h1
  · exact h2
  · exact h3
  · exact h4
/-- variableSetOf, the number known ahead. -/
theorem ofM (a : Option Addr) (cap B : Nat) (xs : List Int) (m : Nat) (w : World) (hn : xs.length ≤ 1048576) (h : Rd w B a xs) (hm : Is m (mem xs)) :
    Calls Tryd.prog 56 #[.slice a xs.length cap] w fun e w' => e = .returned (.int .u64 m) ∧ w = w' :=
  (impl_of a cap B xs w hn h).mono fun e w' ⟨n, he, hi, hw⟩ => ⟨by rw [he, is_eq hi hm (fun _ _ => rfl)], hw⟩
/-- list, the result known ahead. -/
theorem listM (m : Nat) (p : Nat → Bool) (w : World) (hm : Is m p) (hT : Tab w) :
    Calls Tryd.prog 51 #[.int .u64 m] w fun e w' => ∃ a cap, e = .returned (.slice a (fl p 5).length cap) ∧ Own w' w.heap.size 3 (.slice a (fl p 5).length cap) (fl p 5) ∧ Below w.heap.size w w' :=
  (impl_list m w hm.1 hT).mono fun e w' ⟨a, cap, he, ho, hb⟩ => by rw [lst_is hm] at he ho; exact ⟨a, cap, he, ho, hb⟩

theorem avs_fl (xs : List Int) (k : Nat) : avs xs k = fl (mem xs) k := by
  induction k with
  | zero => rfl
  | succ k ih =>
    rw [avs, fl, ih]
    unfold mem
    simp only [decide_eq_true_eq]

/-! ### the variables of an atom -/
theorem impl_avars (cs : List Value) (x : AtomD) (lo hi : Nat) (w : World) (hs : x.2.length ≤ 1048576) (h : rAtom w lo hi cs x) (hh : hi ≤ w.heap.size) (hT : Tab w) :
    Calls Tryd.prog 32 #[.agg cs.toArray] w (Vrs x.2 w) := by
  obtain ⟨a, cap, hcs, _, _, hr⟩ := atom_open h
  subst hcs
  have K0 := hid (hasl_new w [.string x.1, .slice a x.2.length cap] 46)
  have B1 := hid ((Below.refl w.heap.size w).alloc (Nat.le_refl _) (.cells #[.string x.1, .slice a x.2.length cap] 46))
  obtain ⟨m, hm⟩ := ex_is (mem x.2)
  have O := hid (ofM a cap hi x.2 m _ hs ((rd_of hr).below (B1.out.mono hh)) hm)
  have L := hid (listM m _ _ hm (hT.below B1.out))
  clear h hr hT hm
  go_enter Tryd.func32, Tryd.ntmps32
  obtain ⟨p0, p1, p2, p3, p4⟩ := K0.out.two
  go_wp2_with fail
  with_reducible refine O.out.mono ?_
  rintro e w1 ⟨rfl, rfl⟩
  go_wp2_with fail
  with_reducible refine L.out.mono ?_
  rintro e w2 ⟨av, capv, rfl, ho, hb⟩
  have HO := hid ho
  have HB := hid (B1.out.trans (hb.mono B1.out.size))
  have HE := hid (avs_fl x.2 5)
  clear ho hb p0 p1 p2 p3 p4
  go_wp2
  go_ret
  refine ⟨av, capv, by rw [HE.out]; rfl, ?_, HB.out⟩
  rw [HE.out]
  exact HO.out.mono B1.out.size

/-! ### the common variables -/
def Cmn (xs ys : List Int) (w : World) (e : Ending) (w' : World) : Prop := ∃ a cap, e = .returned (.slice a (fl (fun v => mem xs v && mem ys v) 5).length cap) ∧ Own w' w.heap.size 3 (.slice a (fl (fun v => mem xs v && mem ys v) 5).length cap) (fl (fun v => mem xs v && mem ys v) 5) ∧ Below w.heap.size w w'
set_option maxRecDepth 100000 in
set_option maxHeartbeats 1000000 in
theorem spec_common (cs ds : List Value) (x y : AtomD) (lo hi lo' hi' : Nat) (w : World) (hs : x.2.length ≤ 1048576) (hs' : y.2.length ≤ 1048576) (h : rAtom w lo hi cs x) (h' : rAtom w lo' hi' ds y) (hh : hi ≤ w.heap.size) (hh' : hi' ≤ w.heap.size) :
    Calls Tryd.prog 24 #[.agg cs.toArray, .agg ds.toArray] w (Cmn x.2 y.2 w) := by
  obtain ⟨i0, hi0, hz0, hz1, hz2⟩ := info_parts IntLaw.info
  obtain ⟨a, cap, hcs, _, _, hr⟩ := atom_open h
  subst hcs
  obtain ⟨a2, cap2, hds, _, _, hr2⟩ := atom_open h'
  subst hds
  have K0 := hid ((hasl_new w [.string x.1, .slice a x.2.length cap] 46).alloc (.cells #[.string y.1, .slice a2 y.2.length cap2] 46))
  have K1 := hid (hasl_new (w.alloc (.cells #[.string x.1, .slice a x.2.length cap] 46)) [.string y.1, .slice a2 y.2.length cap2] 46)
  have B2 := hid (((Below.refl w.heap.size w).alloc (Nat.le_refl _) (.cells #[.string x.1, .slice a x.2.length cap] 46)).alloc (by simp) (.cells #[.string y.1, .slice a2 y.2.length cap2] 46))
  simp only [World.size_alloc] at K1
  have C := hid (fun W (k : Int) (hW : Below w.heap.size w W) => spec_has _ x k lo hi W hs (good_atom.keep h (sm_below hW hh)) (Nat.le_trans hh hW.size))
  have D := hid (fun W (k : Int) (hW : Below w.heap.size w W) => spec_has _ y k lo' hi' W hs' (good_atom.keep h' (sm_below hW hh')) (Nat.le_trans hh' hW.size))
  clear h h' hr hr2
  go_enter Tryd.func24, Tryd.ntmps24
  go_wp2
  go_loopw [5, 6] (fun v i wr => ∃ k : Nat, k ≤ 5 ∧ i = .int .i64 k ∧ Own wr (w.heap.size + 2) 3 v (fl (fun v => mem x.2 v && mem y.2 v) k) ∧ Hid (HasL wr w.heap.size [.string x.1, .slice a x.2.length cap]) ∧ Hid (HasL wr (w.heap.size + 1) [.string y.1, .slice a2 y.2.length cap2]) ∧ Hid (Below w.heap.size w wr) ∧ w.heap.size + 2 ≤ wr.heap.size) (fun _ i _ => 5 - (intOf i).toNat)
  case atStart => exact ⟨0, by omega, rfl, by simpa [fl] using own_lit ((w.alloc (.cells #[.string x.1, .slice a x.2.length cap] 46)).alloc (.cells #[.string y.1, .slice a2 y.2.length cap2] 46)) (w.heap.size + 2) 3 (by simp), hid (K0.out.alloc _), hid (K1.out.alloc _), hid (B2.out.alloc B2.out.size _), by simp⟩
  case round =>
    obtain ⟨k, hk, rfl, hown, k0, k1, hb, hsz⟩ := hrel
    by_cases hlt : k < 5
    · have hlt' : (k : Int) < 5 := by omega
      obtain ⟨p0, p1, p2, p3, p4⟩ := k0.out.two
      go_wp2_with fail
      with_reducible refine (C.out _ k hb.out).mono ?_
      rintro e w1 ⟨rfl, hb1⟩
      have HB := hid (hb.out.trans (hb1.mono hb.out.size))
      have KA := hid (k0.out.below hb1)
      have KB := hid (k1.out.below hb1)
      have HO := hown.below' hb1
      have hsz1 : w.heap.size + 2 ≤ w1.heap.size := Nat.le_trans hsz hb1.size
      have hln := fl_len (fun v => mem x.2 v && mem y.2 v) k
      clear p0 p1 p2 p3 p4 k0 k1 hb hown hb1 hsz
      cases hin : decide ((k : Int) ∈ x.2) with
      | false =>
        have E := hid (fl_no (p := fun v => mem x.2 v && mem y.2 v) (k := k) (by unfold mem; simp only [hin, Bool.false_and]))
        clear hin
        rw [← E.out] at HO
        go_wp2
        go_roundw
        case rel => exact ⟨k + 1, by omega, by go_num, HO, KA, KB, HB, hsz1⟩
        case measure => simp [intOf]; omega
      | true =>
        obtain ⟨p0, p1, p2, p3, p4⟩ := KB.out.two
        have HIN := hid hin
        clear hin
        go_wp2_with fail
        with_reducible refine (D.out _ k HB.out).mono ?_
        rintro e w2 ⟨rfl, hb1⟩
        have HB2 := hid (HB.out.trans (hb1.mono HB.out.size))
        have KA2 := hid (KA.out.below hb1)
        have KB2 := hid (KB.out.below hb1)
        have HO2 := HO.below' hb1
        have hsz2 : w.heap.size + 2 ≤ w2.heap.size := Nat.le_trans hsz1 hb1.size
        clear p0 p1 p2 p3 p4 KA KB HB HO hb1 hsz1
        cases hin : decide ((k : Int) ∈ y.2) with
        | false =>
          have E := hid (fl_no (p := fun v => mem x.2 v && mem y.2 v) (k := k) (by unfold mem; simp only [hin, Bool.and_false]))
          clear hin
          rw [← E.out] at HO2
          go_wp2
          go_roundw
          case rel => exact ⟨k + 1, by omega, by go_num, HO2, KA2, KB2, HB2, hsz2⟩
          case measure => simp [intOf]; omega
        | true =>
          have E := hid (fl_yes (p := fun v => mem x.2 v && mem y.2 v) (k := k) (by unfold mem; simp only [hin, HIN.out, Bool.and_self]))
          clear hin
          go_wp2_with (at_builtin; refine append_int rfl _ _ 23 rfl (w.heap.size + 2) 3 i0 Tryd.underlying23 hi0 hz0 hz1 hz2 w2 w2 _ (fl (fun v => mem x.2 v && mem y.2 v) k) (k : Int) HO2 (by rfl) (Below.refl _ _) hsz2 _ rfl (by rfl) (by omega) ?_)
          intro v1 w3 hown1 hbel1 hsz3 hgr
          have HB3 := hid (HB2.out.trans (hbel1.mono (by omega)))
          have KA3 := hid (KA2.out.under hbel1 (by omega))
          have KB3 := hid (KB2.out.under hbel1 (by omega))
          rw [← E.out] at hown1
          clear HB2 KA2 KB2 HO2 hsz2 hbel1 hgr
          go_wp2
          go_roundw
          case rel => exact ⟨k + 1, by omega, by go_num, hown1, KA3, KB3, HB3, hsz3⟩
          case measure => simp [intOf]; omega
    · have hlt' : ¬ (k : Int) < 5 := by omega
      have e : k = 5 := by omega
      subst e
      obtain ⟨av, capv, rfl, _, _, _⟩ := hown.form
      have HO := hid (hown.mono (show w.heap.size ≤ w.heap.size + 2 by omega))
      clear hown k0 k1
      go_wp2
      go_ret
      exact ⟨av, capv, rfl, HO.out, hb.out⟩

set_option maxRecDepth 100000 in
set_option maxHeartbeats 1000000 in
theorem impl_common (cs ds : List Value) (x y : AtomD) (lo hi lo' hi' : Nat) (w : World) (hs : x.2.length ≤ 1048576) (hs' : y.2.length ≤ 1048576) (h : rAtom w lo hi cs x) (h' : rAtom w lo' hi' ds y) (hh : hi ≤ w.heap.size) (hh' : hi' ≤ w.heap.size) (hT : Tab w) :
    Calls Tryd.prog 26 #[.agg cs.toArray, .agg ds.toArray] w (Cmn x.2 y.2 w) := by
  obtain ⟨a, cap, hcs, _, _, hr⟩ := atom_open h
  subst hcs
  obtain ⟨a2, cap2, hds, _, _, hr2⟩ := atom_open h'
  subst hds
  have K0 := hid ((hasl_new w [.string x.1, .slice a x.2.length cap] 46).alloc (.cells #[.string y.1, .slice a2 y.2.length cap2] 46))
  have K1 := hid (hasl_new (w.alloc (.cells #[.string x.1, .slice a x.2.length cap] 46)) [.string y.1, .slice a2 y.2.length cap2] 46)
  have B2 := hid (((Below.refl w.heap.size w).alloc (Nat.le_refl _) (.cells #[.string x.1, .slice a x.2.length cap] 46)).alloc (by simp) (.cells #[.string y.1, .slice a2 y.2.length cap2] 46))
  simp only [World.size_alloc] at K1
  obtain ⟨m, hm⟩ := ex_is (mem x.2)
  obtain ⟨n, hn⟩ := ex_is (mem y.2)
  obtain ⟨p, hp⟩ : ∃ z, m &&& n = z := ⟨_, rfl⟩
  have e1 : bits .and .u64 (m : Int) (n : Int) = (p : Int) := by rw [← hp]; exact u_and hm.1 (by have := hn.1; omega)
  have HI := hid (show Is p (fun v => mem x.2 v && mem y.2 v) by rw [← hp]; exact is_and hm hn)
  have HX := hid ((rd_of hr).below (B2.out.mono hh))
  have HY := hid ((rd_of hr2).below (B2.out.mono hh'))
  have HM := hid hm
  have HN := hid hn
  have HT := hid (hT.below B2.out)
  have hw2 := B2.out.size
  clear h h' hr hr2 hT hm hn hp
  go_enter Tryd.func26, Tryd.ntmps26
  obtain ⟨w2, hw⟩ : ∃ z, z = (w.alloc (.cells #[.string x.1, .slice a x.2.length cap] 46)).alloc (.cells #[.string y.1, .slice a2 y.2.length cap2] 46) := ⟨_, rfl⟩
  rw [← hw] at K0 K1 B2 HX HY HT hw2
  obtain ⟨p0, p1, _, _, pz⟩ := K0.out.two
  obtain ⟨q0, q1, _, _, qz⟩ := K1.out.two
  have hiw : hi ≤ w2.heap.size := by omega
  have hiw' : hi' ≤ w2.heap.size := by omega
  have hk2 := kp_refl w2
  go_upto_region 1 with fail
  rw [← hw]
  clear hw
  go_cut [4] (fun s wx => ∃ (a0 : Option Addr) (cap0 : Nat), s = .slice a0 (fl (fun v => mem x.2 v && mem y.2 v) 5).length cap0 ∧ Own wx w2.heap.size 3 (.slice a0 (fl (fun v => mem x.2 v && mem y.2 v) 5).length cap0) (fl (fun v => mem x.2 v && mem y.2 v) 5) ∧ Kp w2 0 wx)
  case first =>
    go_region_held3 (fun w' => w'.cell? ⟨w.heap.size, 1, none⟩ = some (.slice a x.2.length cap) ∧ w'.cell? ⟨w.heap.size + 1, 1, none⟩ = some (.slice a2 y.2.length cap2) ∧ Kp w2 0 w')
      (first
        | (go_split_ands
           repeat' apply And.intro
           all_goals (first | (with_reducible assumption) | (with_reducible exact cell_drew (by assumption)) | (with_reducible exact Kp.drew (by assumption)) | (with_reducible exact Kp.cell (by assumption) hb1 (by omega) (by assumption)) | (with_reducible exact Kp.call (by assumption) hb1))))
      (first
        | (go_split_ands; go_at_call 56; (with_reducible refine (ofM a cap hi x.2 m _ hs (rd_kp HX.out (by with_reducible assumption) hiw) HM.out).mono ?_); rintro e wC ⟨rfl, rfl⟩)
        | (go_split_ands; go_at_call 56; (with_reducible refine (ofM a2 cap2 hi' y.2 n _ hs' (rd_kp HY.out (by with_reducible assumption) hiw') HN.out).mono ?_); rintro e wC ⟨rfl, rfl⟩)
        | (go_split_ands; go_at_call 51; (with_reducible refine (listM p _ _ HI.out (HT.out.below (Kp.bel (n := 0) (by with_reducible assumption)))).mono ?_); rintro e wC ⟨a0, cap0, rfl, hown, hb1⟩; have hz1 : w2.heap.size ≤ _ := (Kp.bel (n := 0) (by with_reducible assumption)).size; have HO := hid (hown.mono hz1); clear hown))
    all_goals
      go_wp2_with fail
      go_meet
      go_split_ands
      exact ⟨a0, cap0, rfl, HO.out, by with_reducible assumption⟩
  case rest =>
  obtain ⟨a0, cap0, rfl, ho, hkp⟩ := hcut
  obtain ⟨w5, rfl⟩ : ∃ wo : World, wo = wc := ⟨_, rfl⟩
  have HO := hid (ho.mono hw2)
  have HB := hid (B2.out.trans (hkp.bel.mono hw2))
  clear ho hkp hk2 p0 p1 q0 q1
  go_wp2
  go_ret
  exact ⟨a0, cap0, rfl, HO.out, HB.out⟩
end Go.Proofs.YtehbkgmpnkmgjaaDoor.SetA
