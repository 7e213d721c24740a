/- Contracts: taken by program (wip/tools/contracts.py) out of the law's template of this name. -/
import Derived.Test.YteaehhidoiiclaaDoorRows
import Derived.Test.YteaehhidoiiclaaDoorNum
import Derived.Test.YteaehhidoiiclaaDoorRow
import Derived.Test.YteaehhidoiiclaaDoorUnhex
import Derived.Test.YteaehhidoiiclaaDoorEncodeHex
import Derived.WalkKit
import Derived.ProofKit
import Derived.OpenShut
import Derived.ShutString
import Derived.IntWalk
import Derived.BigQuiet
import Derived.Deep.QuietTactic
namespace Go.Proofs.YteaehhidoiiclaaDoor.DecodeHex
open Go.ChangeShapes Go.WideShapes Go.ChangeAt Go.RowKit
open Go.ChangeMaps (open_string shut_string)
open Go.Proofs.YteaehhidoiiclaaDoor.Num Go.Proofs.YteaehhidoiiclaaDoor.Row Go.Proofs.YteaehhidoiiclaaDoor.Unhex
set_option linter.unusedVariables false

theorem info : (Tryd.prog.info? 5).map (fun i => (i.zero, i.size, i.bytes)) = some (some (.int .u8 0), 1, 1) := by kernel_rfl

theorem value_yes (c : UInt8) (d : Nat) (w : World) (h : unhex c = some d) :
    Calls Tryd.prog 26 #[.int .u8 (c.toNat : Nat)] w fun e w' => e = .returned (.tuple #[.int .u8 d, .bool true]) ∧ w = w' := by
  obtain ⟨h0, h1⟩ := unhex_some h
  generalize hn : c.toNat = n at h1
  clear h hn
  rcases h1 with ⟨rfl, h1⟩ | ⟨rfl, h1⟩
  · go_enter Tryd.func26, Tryd.ntmps26
    go_wp2
    go_ret2
    exact ⟨rfl, rfl⟩
  · go_enter Tryd.func26, Tryd.ntmps26
    go_wp2
    go_ret2
    refine ⟨?_, rfl⟩
    rw [show (d : Int) + 87 - 97 + 10 = (d : Int) by omega]
    rfl

theorem value_no (c : UInt8) (w : World) (h : unhex c = none) :
    Calls Tryd.prog 26 #[.int .u8 (c.toNat : Nat)] w fun e w' => e = .returned (.tuple #[.int .u8 0, .bool false]) ∧ w = w' := by
  obtain ⟨h0, h1⟩ := unhex_none h
  generalize hn : c.toNat = n at h0 h1
  clear h hn
  rcases h0 with h0 | h0
  · go_enter Tryd.func26, Tryd.ntmps26
    go_wp2
    go_ret2
    exact ⟨rfl, rfl⟩
  · rcases h1 with h1 | h1
    · go_enter Tryd.func26, Tryd.ntmps26
      go_wp2
      go_ret2
      exact ⟨rfl, rfl⟩
    · go_enter Tryd.func26, Tryd.ntmps26
      go_wp2
      go_ret2
      exact ⟨rfl, rfl⟩

set_option maxRecDepth 100000 in
theorem impl_even (s : ByteArray) (n : Nat) (w : World) (hs : s.size ≤ 1048576) (hn : s.size = 2 * n) :
    Calls Tryd.prog 15 #[.string s] w fun e w' => e = hexEnd (decH s.data.toList) ∧ Below w.heap.size w w' := by
  obtain ⟨i0, hi, hz0, hz1, hz2⟩ := info_parts info
  have HN := hid hn
  have hev : ((s.size : Int) % 2 != 0) = false := by simp only [bne_eq_false_iff_eq]; omega
  have hmk := make_bytes (P := Tryd.prog) w 22 5 i0 Tryd.underlying22 hi hz0 hz1 hz2 0 ((s.size : Int) / 2) (by omega) (by omega) (by omega)
  clear hn
  go_enter Tryd.func15, Tryd.ntmps15
  go_wp2
  go_loopw [4, 5] (fun v i wr => ∃ (k : Nat) (acc : List UInt8), 2 * k ≤ s.size ∧ i = .int .i64 (2 * k : Nat) ∧ Hid (SWay s (2 * k) acc) ∧ acc.length ≤ k ∧ Owns wr w.heap.size 5 v acc ∧ Below w.heap.size w wr ∧ w.heap.size ≤ wr.heap.size) (fun _ i _ => s.size - (intOf i).toNat)
  case atStart => exact ⟨0, [], Nat.zero_le _, rfl, hid (SWay.start s), Nat.zero_le _, Owns.made w _ _ _ _ (Nat.le_refl _) (by unfold maxLen; omega) (by simp), (Below.refl _ _).alloc (Nat.le_refl _) _, by simp⟩
  case round =>
    obtain ⟨k, acc, hk, rfl, hway, hacc, hown, hbel, hsz⟩ := hrel
    by_cases hlt : 2 * k < s.size
    · have hk1 : 2 * k + 1 < s.size := by have := HN.out; omega
      rcases hx : unhex s[2 * k] with _ | x
      · rcases hy : unhex s[2 * k + 1] with _ | y
        · have HB := hid (hway.out.bad hk1 (Or.inl hx))
          go_wp2_with fail
          refine (value_no s[2 * k] _ hx).mono ?_
          rintro e w1 ⟨rfl, rfl⟩
          go_wp2_with fail
          refine (value_no s[2 * k + 1] _ hy).mono ?_
          rintro e w1 ⟨rfl, rfl⟩
          go_wp2
          go_ret2
          exact ⟨by rw [HB.out]; rfl, hbel⟩
        · have HB := hid (hway.out.bad hk1 (Or.inl hx))
          go_wp2_with fail
          refine (value_no s[2 * k] _ hx).mono ?_
          rintro e w1 ⟨rfl, rfl⟩
          go_wp2_with fail
          refine (value_yes s[2 * k + 1] y _ hy).mono ?_
          rintro e w1 ⟨rfl, rfl⟩
          go_wp2
          go_ret2
          exact ⟨by rw [HB.out]; rfl, hbel⟩
      · rcases hy : unhex s[2 * k + 1] with _ | y
        · have HB := hid (hway.out.bad hk1 (Or.inr hy))
          go_wp2_with fail
          refine (value_yes s[2 * k] x _ hx).mono ?_
          rintro e w1 ⟨rfl, rfl⟩
          go_wp2_with fail
          refine (value_no s[2 * k + 1] _ hy).mono ?_
          rintro e w1 ⟨rfl, rfl⟩
          go_wp2
          go_ret2
          exact ⟨by rw [HB.out]; rfl, hbel⟩
        · have hx1 := (unhex_some hx).1
          have hy1 := (unhex_some hy).1
          have HG := hid (hway.out.good hk1 hx hy)
          have HX := hid hx
          have HY := hid hy
          clear hx hy
          go_wp2_with fail
          refine (value_yes s[2 * k] x _ HX.out).mono ?_
          rintro e w1 ⟨rfl, rfl⟩
          go_wp2_with fail
          refine (value_yes s[2 * k + 1] y _ HY.out).mono ?_
          rintro e w1 ⟨rfl, rfl⟩
          go_wp2_with (at_builtin; refine append_byte rfl _ _ 22 rfl w.heap.size 5 i0 Tryd.underlying22 hi hz0 hz1 hz2 w wr _ acc (pair x y) hown (by rfl) hbel hsz _ ?c1 (by rfl) (by omega) ?_)
          case c1 => rw [pair_int x y hx1 hy1]
          intro v1 w1 hown1 hbel1 hsz1
          clear hown hbel hsz
          go_wp2
          go_roundw
          case rel => exact ⟨k + 1, acc ++ [pair x y], by omega, by go_num, HG, by simp; omega, hown1, hbel1, hsz1⟩
          case measure => simp [intOf]; omega
    · have HD := hid (hway.out.done (by omega))
      have hcv := convert_own (P := Tryd.prog) wr 22 5 9 Tryd.underlying22 Tryd.underlying5 Tryd.underlying9 _ u4 _ hown
      go_wp2
      go_ret2
      exact ⟨by rw [HD.out]; rfl, hbel⟩

theorem impl_odd (s : ByteArray) (w : World) (hs : s.size ≤ 1048576) (hn : s.size % 2 = 1) :
    Calls Tryd.prog 15 #[.string s] w fun e w' => e = hexEnd (decH s.data.toList) ∧ Below w.heap.size w w' := by
  have hev : ((s.size : Int) % 2 != 0) = true := by simp only [bne_iff_ne]; omega
  have HD := hid (decH_odd s.size s.data.toList (by simp) hn)
  clear hn
  go_enter Tryd.func15, Tryd.ntmps15
  go_wp2
  go_ret2
  exact ⟨by rw [HD.out]; rfl, by first | exact Below.refl _ _ | exact (Below.refl _ _).alloc (Nat.le_refl _) _⟩

theorem impl_any (s : ByteArray) (w : World) (hs : s.size ≤ 1048576) :
    Calls Tryd.prog 15 #[.string s] w fun e w' => e = hexEnd (decH s.data.toList) ∧ Below w.heap.size w w' := by
  by_cases h : s.size % 2 = 1
  · exact impl_odd s w hs h
  · exact impl_even s (s.size / 2) w hs (by omega)

end Go.Proofs.YteaehhidoiiclaaDoor.DecodeHex
