/- The draw of an int out of a short list (spec.l1PickInt). -/
import Derived.Test.YtikpgkholhokoaaDraw
import Derived.WalkKit
import Derived.ProofKit
import Derived.OpenShut
import Derived.IntWalk
import Derived.BigQuiet
namespace Go.Proofs.Ytikpgkholhokoaa.Pick
open Go.ChangeShapes Go.WideShapes Go.ChangeAt Go.RowKit
open Go.Proofs.Ytikpgkholhokoaa.Num Go.Proofs.Ytikpgkholhokoaa.Row Go.Proofs.Ytikpgkholhokoaa.Cur Go.Proofs.Ytikpgkholhokoaa.Draw
set_option linter.unusedVariables false

/-- What a draw of an int leaves: the answer, the cursor moved, nothing else of what was there. -/
def IntAt (c : Nat) (sv : Value) (l : List UInt8) (r : Int × St) (w : World) (e : Ending) (w' : World) : Prop :=
  e = .returned (.int .i64 r.1) ∧ Cu w' c sv l r.2 ∧ w.grownBy w' (some c)

def pickF (l : List UInt8) (zs : List Int) (s : St) : Int × St :=
  (zs.getD (belowF l (zs.length : Nat) s).1.toNat 0, (belowF l (zs.length : Nat) s).2)

theorem pick_any (c : Nat) (sv : Value) (l : List UInt8) (s : St) (w : World) (hc : Cu w c sv l s) (b cap : Nat) (zs : List Int) (h1 : 1 ≤ zs.length) (h2 : zs.length ≤ 1000) (hbc : b ≠ c)
    (hcell : ∀ j, j < zs.length → w.cell? ⟨b, j, none⟩ = some (.int .i64 (zs.getD j 0))) :
    Calls Try.prog 22 #[.pointer (some ⟨c, 0, none⟩), .slice (some ⟨b, 0, none⟩) zs.length cap] w fun e w' => IntAt c sv l (pickF l zs s) w e w' := by
  have HB := hid (below_any c (zs.length : Nat) sv l s w hc (by omega))
  have hbd := belowF_bounds l (zs.length : Nat) s (by omega)
  have HC := hid hcell
  clear hc hcell
  unfold pickF
  generalize belowF l (zs.length : Nat) s = r at HB hbd ⊢
  obtain ⟨x, s1⟩ := r
  obtain ⟨x0, x1⟩ := hbd
  simp only at *
  obtain ⟨n, rfl⟩ := Int.eq_ofNat_of_zero_le x0
  have hn : n < zs.length := by omega
  simp only [Int.toNat_natCast]
  have hcn := HC.out n hn
  generalize zs.getD n 0 = z at hcn ⊢
  have HZ := hid hcn
  clear hcn
  go_enter Try.func22, Try.ntmps22
  go_wp2_with fail
  refine HB.out.mono ?_
  rintro e w1 ⟨rfl, hc1, hg1⟩
  have hce : w1.cell? ⟨b, n, none⟩ = some (.int .i64 z) := hg1.cell HZ.out (by simp; omega)
  have K1 := hid hc1
  have K2 := hid hg1
  clear hc1 hg1
  go_wp2_with fail
  go_ret
  exact ⟨rfl, K1.out, K2.out⟩

end Go.Proofs.Ytikpgkholhokoaa.Pick
