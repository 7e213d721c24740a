/- Contracts: taken by program (wip/tools/contracts.py) out of the law's template of this name. -/
import Derived.Test.YteaehhidoiiclaaDoorRows
import Derived.Test.YteaehhidoiiclaaDoorNum
import Derived.Test.YteaehhidoiiclaaDoorRow
import Derived.WalkKit
import Derived.ProofKit
import Derived.OpenShut
import Derived.ShutString
import Derived.IntWalk
import Derived.BigQuiet
import Derived.Deep.QuietTactic
import Derived.Deep.RegionLaw
import Derived.Deep.DeepMust
namespace Go.Proofs.YteaehhidoiiclaaDoor.EncodeHex
open Go.ChangeShapes Go.WideShapes Go.ChangeAt Go.RowKit
open Go.ChangeMaps (open_string shut_string)
open Go.Proofs.YteaehhidoiiclaaDoor.Num Go.Proofs.YteaehhidoiiclaaDoor.Row
set_option linter.unusedVariables false

theorem info : (Tryd.prog.info? 5).map (fun i => (i.zero, i.size, i.bytes)) = some (some (.int .u8 0), 1, 1) := by kernel_rfl

theorem impl_any (s : ByteArray) (w : World) (hs : s.size ≤ 1048576) :
    Calls Tryd.prog 16 #[.string s] w fun e w' => e = .returned (.string ⟨(hexL s.data.toList).toArray⟩) ∧ Below w.heap.size w w' := by
  obtain ⟨i0, hi, hz0, hz1, hz2⟩ := info_parts info
  have hmk := make_bytes (P := Tryd.prog) w 22 5 i0 Tryd.underlying22 hi hz0 hz1 hz2 0 (2 * s.size) (by omega) (by omega) (by omega)
  go_enter Tryd.func16, Tryd.ntmps16
  go_wp2
  go_loopw [3, 11] (fun v i wr => ∃ k : Nat, k ≤ s.size ∧ i = .int .i64 k ∧ Owns wr w.heap.size 5 v (hexL (s.data.toList.take k)) ∧ Below w.heap.size w wr ∧ w.heap.size ≤ wr.heap.size) (fun _ i _ => s.size - (intOf i).toNat)
  case atStart => exact ⟨0, Nat.zero_le _, rfl, Owns.made w _ _ _ _ (Nat.le_refl _) (by unfold maxLen; omega) (by simp), (Below.refl _ _).alloc (Nat.le_refl _) _, by simp⟩
  case round =>
    obtain ⟨k, hk, rfl, hown, hbel, hsz⟩ := hrel
    by_cases hlt : k < s.size
    · obtain ⟨b, hb⟩ : ∃ b : UInt8, Hid (b = s[k]) := ⟨_, hid rfl⟩
      obtain ⟨d1, h1⟩ : ∃ d : Nat, Hid (d = b.toNat / 16) := ⟨_, hid rfl⟩
      obtain ⟨d2, h2⟩ : ∃ d : Nat, Hid (d = b.toNat % 16) := ⟨_, hid rfl⟩
      have hb1 := b.toNat_lt
      have hd1 : d1 < 16 := by have := h1.out; omega
      have hd2 : d2 < 16 := by have := h2.out; omega
      have hd1i : (d1 : Int) < 16 := by omega
      have hd2i : (d2 : Int) < 16 := by omega
      have e1 : ((s[k].toNat : Nat) : Int) / 16 = (d1 : Int) := by rw [h1.out, hb.out]; rfl
      have e2 : ((s[k].toNat : Nat) : Int).tmod 16 = (d2 : Int) := by rw [h2.out, hb.out]; rfl
      have e3 : IntKind.u8.wrap (d1 : Int) = (d1 : Int) := by rw [IntKind.wrap_u8]; omega
      have e4 : IntKind.u8.wrap (d2 : Int) = (d2 : Int) := by rw [IntKind.wrap_u8]; omega
      have g1 := hx_at d1 hd1
      have g2 := hx_at d2 hd2
      have hown1 : Owns wr.drew w.heap.size 5 u3 (hexL (s.data.toList.take k)) := hown
      have hl : (hexL (s.data.toList.take k)).length ≤ 2097152 := by rw [hexL_length, List.length_take]; omega
      go_wp2
      go_region_law (refine step_two rfl _ _ 22 rfl w.heap.size 5 i0 Tryd.underlying22 hi hz0 hz1 hz2 w wr.drew _ _ (hx d1) (hx d2) hown1 (by rfl) hbel.drew hsz _ _ rfl rfl (by rfl) (by omega) ?_; intro v1 w1 hown2 hbel2 hsz2)
      all_goals
        clear hown hbel hsz hown1 e1 e2 e3 e4 g1 g2
        go_wp2
        go_roundw
        case rel =>
          refine ⟨k + 1, by omega, by go_num, ?_, hbel2, hsz2⟩
          rw [take_snoc s k hlt, hexL_snoc, ← hb.out, ← h1.out, ← h2.out]
          exact hown2
        case measure => simp [intOf]; omega
    · have hcv := convert_own (P := Tryd.prog) wr 22 5 9 Tryd.underlying22 Tryd.underlying5 Tryd.underlying9 _ u3 _ hown
      go_wp2
      go_ret
      refine ⟨?_, hbel⟩
      rw [List.take_of_length_le (by simp; omega)]
      rfl

end Go.Proofs.YteaehhidoiiclaaDoor.EncodeHex
