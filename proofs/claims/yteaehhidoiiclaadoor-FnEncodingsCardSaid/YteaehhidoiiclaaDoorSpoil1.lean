/- The draw that spoils a text (spec.l1Spoil): a byte put in. -/
import Derived.Test.YteaehhidoiiclaaDoorSpoil
import Derived.WalkKit
import Derived.ProofKit
import Derived.OpenShut
import Derived.IntWalk
import Derived.BigQuiet
import Derived.Deep.QuietTactic
import Derived.Deep.RegionWith
namespace Go.Proofs.YteaehhidoiiclaaDoor.Spoil
open Go.ChangeShapes Go.WideShapes Go.ChangeAt Go.RowKit
open Go.Proofs.YteaehhidoiiclaaDoor.Num Go.Proofs.YteaehhidoiiclaaDoor.Row Go.Proofs.YteaehhidoiiclaaDoor.Cur Go.Proofs.YteaehhidoiiclaaDoor.Draw Go.Proofs.YteaehhidoiiclaaDoor.NumDraw Go.Proofs.YteaehhidoiiclaaDoor.TextDraw
set_option linter.unusedVariables false

set_option maxHeartbeats 3200000 in
set_option maxRecDepth 100000 in
theorem spoil1 (c : Nat) (sv : Value) (l : List UInt8) (s1 s2 : St) (w : World) (t : ByteArray) (ht : t.size ≤ 100) (n : Nat) (hn : n < t.size)
    (b1 : Calls Tryd.prog 30 #[.pointer (some ⟨c, 0, none⟩), .int .i64 (t.size : Nat)] w fun e w' => e = .returned (.int .i64 (n : Nat)) ∧ Cu w' c sv l s1 ∧ w.grownBy w' (some c))
    (b2 : ∀ w, Cu w c sv l s1 → Calls Tryd.prog 30 #[.pointer (some ⟨c, 0, none⟩), .int .i64 4] w fun e w' => e = .returned (.int .i64 1) ∧ Cu w' c sv l s2 ∧ w.grownBy w' (some c)) :
    Calls Tryd.prog 29 #[.pointer (some ⟨c, 0, none⟩), .string t] w fun e w' => StrAt c sv l (t.extract 0 n ++ ⟨#[TextDraw.byteOf (byteF l s2).1]⟩ ++ t.extract n t.size, (byteF l s2).2) w e w' := by
  have B3 := hid fun w h => byte_any c sv l s2 w h
  obtain ⟨b0, b1'⟩ := byteF_bounds l s2
  generalize byteF l s2 = r3 at B3 b0 b1' ⊢
  obtain ⟨b, s3⟩ := r3
  simp only at *
  have hcv := hid fun w => convert_one (P := Tryd.prog) w 22 5 9 Tryd.underlying22 Tryd.underlying5 Tryd.underlying9 b (TextDraw.byteOf b) (byteOf_int b b0 b1').symm
  have hwb : IntKind.u8.wrap b = b := by rw [IntKind.wrap_u8]; omega
  have e0 : ((t.size : Int) == 0) = false := by simp only [beq_eq_false_iff_ne]; omega
  have B1 := hid b1
  have B2 := hid b2
  clear b1 b2
  go_enter Tryd.func29, Tryd.ntmps29
  go_wp2_with fail
  refine B1.out.mono ?_
  rintro e w1 ⟨rfl, hc1, hg1⟩
  have C1 := hid hc1
  have G1 := hid hg1
  clear hc1 hg1
  go_wp2_with fail
  refine (B2.out _ C1.out).mono ?_
  rintro e w2 ⟨rfl, hc2, hg2⟩
  have C2 := hid hc2
  have G2 := hid (grown_trans G1.out hg2)
  clear hc2 hg2
  go_wp2_with fail
  go_region_with (go_at_call 32; refine (B3.out _ C2.out.drew).mono ?_; rintro e w3 ⟨rfl, hc3, hg3⟩; have C3 := hid hc3; have G3 := hid hg3; have hcv3 := hcv.out w3; clear hc3 hg3)
  all_goals go_wp2_with fail
  all_goals go_ret
  all_goals exact ⟨rfl, cu_alloc C3.out _, grown_alloc (grown_trans (grown_drew1 G2.out) G3.out) _⟩

end Go.Proofs.YteaehhidoiiclaaDoor.Spoil
