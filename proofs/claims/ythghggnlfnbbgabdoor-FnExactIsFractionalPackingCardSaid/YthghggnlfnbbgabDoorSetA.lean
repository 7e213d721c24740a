/- The variables of an atom, the common variables of two: the program's functions (by sets), the model's of the common ones. -/
import Derived.Test.YthghggnlfnbbgabDoorSetI
import Derived.Test.YthghggnlfnbbgabDoorAtmVars
import Derived.Test.YthghggnlfnbbgabDoorLawKit
import Derived.Test.YthghggnlfnbbgabDoorKeep
import Derived.Test.YthghggnlfnbbgabDoorKept
import Derived.Deep.RegionHeld3
import Derived.Deep.DeepCutAuto
namespace Go.Proofs.YthghggnlfnbbgabDoor.SetA
open Go.RowKit
open Go.Proofs.YthghggnlfnbbgabDoor.Num Go.Proofs.YthghggnlfnbbgabDoor.IntRow Go.Proofs.YthghggnlfnbbgabDoor.IntLaw Go.Proofs.YthghggnlfnbbgabDoor.Rdr Go.Proofs.YthghggnlfnbbgabDoor.Dat Go.Proofs.YthghggnlfnbbgabDoor.HasL Go.Proofs.YthghggnlfnbbgabDoor.VarIn Go.Proofs.YthghggnlfnbbgabDoor.SetV Go.Proofs.YthghggnlfnbbgabDoor.SetI Go.Proofs.YthghggnlfnbbgabDoor.AtmVars Go.Proofs.YthghggnlfnbbgabDoor.LawKit Go.Proofs.YthghggnlfnbbgabDoor.Keep Go.Proofs.YthghggnlfnbbgabDoor.Kept
set_option linter.unusedVariables false

theorem m5_fin : ∀ b0 b1 b2 b3 b4 : Bool, (b0.toNat + 2 * b1.toNat + 4 * b2.toNat + 8 * b3.toNat + 16 * b4.toNat) < 32 ∧ (b0.toNat + 2 * b1.toNat + 4 * b2.toNat + 8 * b3.toNat + 16 * b4.toNat).testBit 0 = b0 ∧ (b0.toNat + 2 * b1.toNat + 4 * b2.toNat + 8 * b3.toNat + 16 * b4.toNat).testBit 1 = b1 ∧ (b0.toNat + 2 * b1.toNat + 4 * b2.toNat + 8 * b3.toNat + 16 * b4.toNat).testBit 2 = b2 ∧ (b0.toNat + 2 * b1.toNat + 4 * b2.toNat + 8 * b3.toNat + 16 * b4.toNat).testBit 3 = b3 ∧ (b0.toNat + 2 * b1.toNat + 4 * b2.toNat + 8 * b3.toNat + 16 * b4.toNat).testBit 4 = b4 := by decide
theorem ex_is (p : Nat → Bool) : ∃ m, Is m p := by
  obtain ⟨h, h0, h1, h2, h3, h4⟩ := m5_fin (p 0) (p 1) (p 2) (p 3) (p 4)
  refine ⟨_, h, fun v hv => ?_⟩
  rcases (by omega : v = 0 ∨ v = 1 ∨ v = 2 ∨ v = 3 ∨ v = 4) with rfl | rfl | rfl | rfl | rfl
  · exact h0
  · exact h1
  · exact h2
  · exact h3
  · exact h4
/-- variableSetOf, the number known ahead. -/
theorem ofM (a : Option Addr) (cap B : Nat) (xs : List Int) (m : Nat) (w : World) (hn : xs.length ≤ 1048576) (h : Rd w B a xs) (hm : Is m (mem xs)) :
    Calls Tryd.prog 44 #[.slice a xs.length cap] w fun e w' => e = .returned (.int .u64 m) ∧ w = w' :=
  (impl_of a cap B xs w hn h).mono fun e w' ⟨n, he, hi, hw⟩ => ⟨by rw [he, is_eq hi hm (fun _ _ => rfl)], hw⟩
/-- list, the result known ahead. -/
theorem listM (m : Nat) (p : Nat → Bool) (w : World) (hm : Is m p) (hT : Tab w) :
    Calls Tryd.prog 45 #[.int .u64 m] w fun e w' => ∃ a cap, e = .returned (.slice a (fl p 5).length cap) ∧ Own w' w.heap.size 3 (.slice a (fl p 5).length cap) (fl p 5) ∧ Below w.heap.size w w' :=
  (impl_list m w hm.1 hT).mono fun e w' ⟨a, cap, he, ho, hb⟩ => by rw [lst_is hm] at he ho; exact ⟨a, cap, he, ho, hb⟩

theorem avs_fl (xs : List Int) (k : Nat) : avs xs k = fl (mem xs) k := by
  induction k with
  | zero => rfl
  | succ k ih =>
    rw [avs, fl, ih]
    unfold mem
    simp only [decide_eq_true_eq]

/-! ### the variables of an atom -/
theorem impl_avars (cs : List Value) (x : AtomD) (lo hi : Nat) (w : World) (hs : x.2.length ≤ 1048576) (h : rAtom w lo hi cs x) (hh : hi ≤ w.heap.size) (hT : Tab w) :
    Calls Tryd.prog 26 #[.agg cs.toArray] w (Vrs x.2 w) := by
  obtain ⟨a, cap, hcs, _, _, hr⟩ := atom_open h
  subst hcs
  have K0 := hid (hasl_new w [.string x.1, .slice a x.2.length cap] 45)
  have B1 := hid ((Below.refl w.heap.size w).alloc (Nat.le_refl _) (.cells #[.string x.1, .slice a x.2.length cap] 45))
  obtain ⟨m, hm⟩ := ex_is (mem x.2)
  have O := hid (ofM a cap hi x.2 m _ hs ((rd_of hr).below (B1.out.mono hh)) hm)
  have L := hid (listM m _ _ hm (hT.below B1.out))
  clear h hr hT hm
  go_enter Tryd.func26, Tryd.ntmps26
  obtain ⟨p0, p1, p2, p3, p4⟩ := K0.out.two
  go_wp2_with fail
  with_reducible refine O.out.mono ?_
  rintro e w1 ⟨rfl, rfl⟩
  go_wp2_with fail
  with_reducible refine L.out.mono ?_
  rintro e w2 ⟨av, capv, rfl, ho, hb⟩
  have HO := hid ho
  have HB := hid (B1.out.trans (hb.mono B1.out.size))
  have HE := hid (avs_fl x.2 5)
  clear ho hb p0 p1 p2 p3 p4
  go_wp2
  go_ret
  refine ⟨av, capv, by rw [HE.out]; rfl, ?_, HB.out⟩
  rw [HE.out]
  exact HO.out.mono B1.out.size

/-! ### the common variables -/
end Go.Proofs.YthghggnlfnbbgabDoor.SetA
