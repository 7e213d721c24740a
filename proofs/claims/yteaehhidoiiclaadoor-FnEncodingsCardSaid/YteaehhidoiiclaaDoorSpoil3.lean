/- The draw that spoils a text (spec.l1Spoil): a byte changed. -/
import Derived.Test.YteaehhidoiiclaaDoorSpoil
import Derived.WalkKit
import Derived.ProofKit
import Derived.OpenShut
import Derived.IntWalk
import Derived.BigQuiet
import Derived.Deep.QuietTactic
import Derived.Deep.RegionHeld3
import Derived.Deep.DrawnRows
namespace Go.Proofs.YteaehhidoiiclaaDoor.Spoil
open Go.ChangeShapes Go.WideShapes Go.ChangeAt Go.RowKit
open Go.Proofs.YteaehhidoiiclaaDoor.Num Go.Proofs.YteaehhidoiiclaaDoor.Row Go.Proofs.YteaehhidoiiclaaDoor.Cur Go.Proofs.YteaehhidoiiclaaDoor.Draw Go.Proofs.YteaehhidoiiclaaDoor.NumDraw Go.Proofs.YteaehhidoiiclaaDoor.TextDraw
attribute [local go_sem ↓] Go.wp_at_zero Go.wp_at_succ
set_option linter.unusedVariables false

set_option maxHeartbeats 800000 in
set_option maxRecDepth 100000 in
theorem spoil3 (q : Int) (c : Nat) (sv : Value) (l : List UInt8) (s1 s2 : St) (w : World) (t : ByteArray) (ht : t.size ≤ 100) (n : Nat) (hn : n < t.size)
    (b1 : Calls Tryd.prog 30 #[.pointer (some ⟨c, 0, none⟩), .int .i64 (t.size : Nat)] w fun e w' => e = .returned (.int .i64 (n : Nat)) ∧ Cu w' c sv l s1 ∧ w.grownBy w' (some c))
    (b2 : ∀ w, Cu w c sv l s1 → Calls Tryd.prog 30 #[.pointer (some ⟨c, 0, none⟩), .int .i64 4] w fun e w' => e = .returned (.int .i64 q) ∧ Cu w' c sv l s2 ∧ w.grownBy w' (some c)) (hq0 : q ≠ 0) (hq1 : q ≠ 1) (hq2 : q ≠ 2) :
    Calls Tryd.prog 29 #[.pointer (some ⟨c, 0, none⟩), .string t] w fun e w' => StrAt c sv l (t.extract 0 n ++ ⟨#[xorB (((t.data.toList.getD n 0).toNat : Nat) : Int) (belowF l 255 s2).1]⟩ ++ t.extract (n + 1) t.size, (belowF l 255 s2).2) w e w' := by
  have hgd : t.data.toList.getD n 0 = t[n] := by
    have h1 : n < t.data.toList.length := by simpa using hn
    rw [List.getD_eq_getElem?_getD, List.getElem?_eq_getElem h1]
    simp
    rfl
  rw [hgd]
  clear hgd
  have B3 := hid fun w h => below_any c 255 sv l s2 w h (by omega)
  obtain ⟨b0, b1'⟩ := belowF_bounds l 255 s2 (by omega)
  generalize belowF l 255 s2 = r3 at B3 b0 b1' ⊢
  obtain ⟨b, s3⟩ := r3
  simp only at *
  have htb : t[n].toNat < 256 := t[n].toNat_lt
  obtain ⟨z, hz⟩ : ∃ z, IntKind.u8.wrap (bits .xor .i64 ((t[n].toNat : Nat) : Int) (1 + b)) = z := ⟨_, rfl⟩
  have hz0 : 0 ≤ z := by rw [← hz, IntKind.wrap_u8]; omega
  have hz1 : z ≤ 255 := by rw [← hz, IntKind.wrap_u8]; omega
  have HX := hid (show xorB ((t[n].toNat : Nat) : Int) b = TextDraw.byteOf z by unfold xorB; rw [hz])
  have hcv := hid fun w => convert_one (P := Tryd.prog) w 22 5 9 Tryd.underlying22 Tryd.underlying5 Tryd.underlying9 z (TextDraw.byteOf z) (byteOf_int z hz0 hz1).symm
  have e1 : IntKind.i64.wrap ((t[n].toNat : Nat) : Int) = ((t[n].toNat : Nat) : Int) := IntWalk.i64_in _ (by omega)
  have e2 : IntKind.i64.wrap (1 + b) = 1 + b := IntWalk.i64_in _ (by omega)
  have e3 : IntKind.i64.wrap ((n : Int) + 1) = (n : Int) + 1 := IntWalk.i64_in _ (by omega)
  have e4 : ((n : Int) + 1).toNat = n + 1 := by omega
  have e5 : (n : Int) + 1 ≤ (t.size : Int) := by omega
  have e6 : (0 : Int) ≤ (n : Int) := by omega
  have e7 : (n : Int) ≤ (t.size : Int) := by omega
  have e8 : (0 : Int) ≤ (n : Int) + 1 := by omega
  have e9 : (n : Int) < (t.size : Int) := by omega
  rw [HX.out]
  have f0 : (q == 0) = false := by simpa using hq0
  have f1 : (q == 1) = false := by simpa using hq1
  have f2 : (q == 2) = false := by simpa using hq2
  have e0 : ((t.size : Int) == 0) = false := by simp only [beq_eq_false_iff_ne]; omega
  have B1 := hid b1
  have B2 := hid b2
  clear b1 b2
  go_enter Tryd.func29, Tryd.ntmps29
  go_wp2_with fail
  refine B1.out.mono ?_
  rintro e w1 ⟨rfl, hc1, hg1⟩
  have C1 := hid hc1
  have G1 := hid hg1
  clear hc1 hg1
  go_wp2_with fail
  refine (B2.out _ C1.out).mono ?_
  rintro e w2 ⟨rfl, hc2, hg2⟩
  have C2 := hid hc2
  have G2 := hid (grown_trans G1.out hg2)
  clear hc2 hg2
  go_wp2_with fail

  go_region_with (go_at_call 30; refine (B3.out _ (C2.out.drew)).mono ?_; rintro e w3 ⟨rfl, hc3, hg3⟩; have C3 := hid hc3; have G3 := hid hg3; have hcv3 := hcv.out w3; clear hc3 hg3)
  all_goals go_wp2_with fail
  all_goals go_ret
  all_goals exact ⟨rfl, cu_alloc C3.out _, grown_alloc (grown_trans (grown_drew1 G2.out) G3.out) _⟩

end Go.Proofs.YteaehhidoiiclaaDoor.Spoil
