/- The variables of an atom, the common variables of two: the program's functions (by sets), the model's of the common ones. -/
import Derived.Test.YtffhfnkcbgbliaaDoorSetI
import Derived.Test.YtffhfnkcbgbliaaDoorLawKit
import Derived.Test.YtffhfnkcbgbliaaDoorKeep
import Derived.Test.YtffhfnkcbgbliaaDoorKept
import Derived.Deep.RegionHeld3
import Derived.Deep.DeepCutAuto
namespace Go.Proofs.YtffhfnkcbgbliaaDoor.SetA
open Go.RowKit
open Go.Proofs.YtffhfnkcbgbliaaDoor.Num Go.Proofs.YtffhfnkcbgbliaaDoor.IntRow Go.Proofs.YtffhfnkcbgbliaaDoor.IntLaw Go.Proofs.YtffhfnkcbgbliaaDoor.Rdr Go.Proofs.YtffhfnkcbgbliaaDoor.Dat Go.Proofs.YtffhfnkcbgbliaaDoor.HasL Go.Proofs.YtffhfnkcbgbliaaDoor.VarIn Go.Proofs.YtffhfnkcbgbliaaDoor.SetV Go.Proofs.YtffhfnkcbgbliaaDoor.SetI Go.Proofs.YtffhfnkcbgbliaaDoor.LawKit Go.Proofs.YtffhfnkcbgbliaaDoor.Keep Go.Proofs.YtffhfnkcbgbliaaDoor.Kept
set_option linter.unusedVariables false

theorem m5_fin : ∀ b0 b1 b2 b3 b4 : Bool, (b0.toNat + 2 * b1.toNat + 4 * b2.toNat + 8 * b3.toNat + 16 * b4.toNat) < 32 ∧ (b0.toNat + 2 * b1.toNat + 4 * b2.toNat + 8 * b3.toNat + 16 * b4.toNat).testBit 0 = b0 ∧ (b0.toNat + 2 * b1.toNat + 4 * b2.toNat + 8 * b3.toNat + 16 * b4.toNat).testBit 1 = b1 ∧ (b0.toNat + 2 * b1.toNat + 4 * b2.toNat + 8 * b3.toNat + 16 * b4.toNat).testBit 2 = b2 ∧ (b0.toNat + 2 * b1.toNat + 4 * b2.toNat + 8 * b3.toNat + 16 * b4.toNat).testBit 3 = b3 ∧ (b0.toNat + 2 * b1.toNat + 4 * b2.toNat + 8 * b3.toNat + 16 * b4.toNat).testBit 4 = b4 := by decide
theorem ex_is (p : Nat → Bool) : ∃ m, Is m p := by
  obtain ⟨h, h0, h1, h2, h3, h4⟩ := m5_fin (p 0) (p 1) (p 2) (p 3) (p 4)
  refine ⟨_, h, fun v hv => ?_⟩
  rcases (by omega : v = 0 ∨ v = 1 ∨ v = 2 ∨ v = 3 ∨ v = 4) with rfl | rfl | rfl | rfl | rfl
  · exact h0
  · exact h1
  · exact h2
  · exact h3
  · exact h4
/-- variableSetOf, the number known ahead. -/
theorem ofM (a : Option Addr) (cap B : Nat) (xs : List Int) (m : Nat) (w : World) (hn : xs.length ≤ 1048576) (h : Rd w B a xs) (hm : Is m (mem xs)) :
    Calls Tryd.prog 30 #[.slice a xs.length cap] w fun e w' => e = .returned (.int .u64 m) ∧ w = w' :=
  (impl_of a cap B xs w hn h).mono fun e w' ⟨n, he, hi, hw⟩ => ⟨by rw [he, is_eq hi hm (fun _ _ => rfl)], hw⟩
/-- list, the result known ahead. -/
theorem listM (m : Nat) (p : Nat → Bool) (w : World) (hm : Is m p) (hT : Tab w) :
    Calls Tryd.prog 31 #[.int .u64 m] w fun e w' => ∃ a cap, e = .returned (.slice a (fl p 5).length cap) ∧ Own w' w.heap.size 3 (.slice a (fl p 5).length cap) (fl p 5) ∧ Below w.heap.size w w' :=
  (impl_list m w hm.1 hT).mono fun e w' ⟨a, cap, he, ho, hb⟩ => by rw [lst_is hm] at he ho; exact ⟨a, cap, he, ho, hb⟩

/-! ### the variables of an atom -/
/-! ### the common variables -/
end Go.Proofs.YtffhfnkcbgbliaaDoor.SetA
