/- The laws' text of a mark: some string (laws.markText). -/
import Derived.Test.YtffhfnkcbgbliaaDoorRows
import Derived.Test.YtffhfnkcbgbliaaDoorThaw
import Derived.Test.YtffhfnkcbgbliaaDoorNum
import Derived.Test.YtffhfnkcbgbliaaDoorRow
import Derived.IntWalk
import Derived.Deep.RegionWith
namespace Go.Proofs.YtffhfnkcbgbliaaDoor.MarkA
open Go.RowKit
open Go.Proofs.YtffhfnkcbgbliaaDoor.Num Go.Proofs.YtffhfnkcbgbliaaDoor.Thaw
set_option linter.unusedVariables false

def dgm (m : Nat) : UInt8 := UInt8.ofNat (48 + m % 10)
theorem dgm_int (m : Nat) : (((dgm m).toNat : Nat) : Int) = 48 + ((m % 10 : Nat) : Int) := by
  simp [dgm]; omega
theorem convert_mark {P : Program} {src e dst : TypeId} (hs : P.underlying src = some (.slice e)) (he : P.underlying e = some (.int .u8)) (hd : P.underlying dst = some .string)
    (z : Int) (c : UInt8) (hz : z = (c.toNat : Int)) (W : World) (b : Nat) (h : W.cell? ⟨b, 0, none⟩ = some (.int .u8 z)) : (convert src dst (.slice (some ⟨b, 0, none⟩) 1 1)).run P W = .ok (.string ⟨#[c]⟩) W := by
  subst hz
  have := run_convert_bytes_arg (P := P) W src e hs he b 0 1 1 [(c.toNat : Int)] rfl (fun i hi => by
    obtain rfl : i = 0 := by omega
    simpa using h) dst hd
  rw [this]
  simp [strOfNums]

theorem text_mark (k : Int) (w : World) (h0 : 0 ≤ k) (h1 : k ≤ 1000000000) :
    Calls Tryd.prog 73 #[.int .i64 k] w fun e w' => ∃ s : ByteArray, e = .returned (.string s) ∧ s.size ≤ 9223372036854775807 ∧ BF w.heap.size w w' := by
  by_cases hk : k ≤ 0
  · go_enter Tryd.func73, Tryd.ntmps73
    go_wp2
    go_ret
    exact ⟨_, rfl, by decide, BF.refl _ _⟩
  · go_enter Tryd.func73, Tryd.ntmps73
    go_wp2
    go_loopw [0, 3] (fun a s wr => ∃ (z : Nat) (t : ByteArray), a = .int .i64 z ∧ s = .string t ∧ z ≤ 1000000000 ∧ t.size + z ≤ 1000000000 ∧ Hid (BF w.heap.size w wr)) (fun a _ _ => (intOf a).toNat)
    case atStart => exact ⟨k.toNat, ⟨#[]⟩, by simp [Int.toNat_of_nonneg h0], rfl, by omega, by show 0 + k.toNat ≤ _; omega, hid (BF.refl _ _)⟩
    case round =>
      obtain ⟨z, t, rfl, rfl, hz, hts, hb⟩ := hrel
      by_cases hp : 0 < z
      · have hp' : (0 : Int) < (z : Int) := by omega
        have hcv := convert_mark (P := Tryd.prog) Tryd.underlying83 Tryd.underlying5 Tryd.underlying9 (48 + (z : Int) % 10) (dgm z) (by rw [dgm_int]; rfl)
        have e10 : (z : Int) / 10 = ((z / 10 : Nat) : Int) := by omega
        have w2 := IntWalk.i64_in ((z : Int) % 10) (by omega)
        have w3 := IntWalk.i64_in (48 + (z : Int) % 10) (by omega)
        have w5 : (z : Int).tmod 10 = (z : Int) % 10 := Int.tmod_eq_emod_of_nonneg (by omega)
        have w6 : (z : Int).tdiv 10 = (z : Int) / 10 := Int.tdiv_eq_ediv_of_nonneg (by omega)
        have w4 := IntWalk.u8_in (48 + (z : Int) % 10) (by omega)
        have w1 := IntWalk.i64_in ((z : Int) / 10) (by omega)
        have hc1 := hcv (wr.alloc (.cells #[.int .u8 (48 + (z : Int) % 10)] 5)) wr.heap.size (by simp)
        have HB := hid (hb.out.alloc hb.out.size (.cells #[.int .u8 (48 + (z : Int) % 10)] 5))
        have hst : ((⟨#[dgm z]⟩ : ByteArray) ++ t).size = 1 + t.size := by simp [ByteArray.size_append]; rfl
        have HZT := hid hst
        have E10 := hid e10
        clear hcv hst e10
        go_wp2
        go_roundw
        case rel => exact ⟨z / 10, _, by rw [E10.out], rfl, by omega, by rw [HZT.out]; omega, HB⟩
        case measure => simp [intOf]; omega
      · have hp' : ¬ (0 : Int) < (z : Int) := by omega
        have hst : ((⟨#[109]⟩ : ByteArray) ++ t).size = 1 + t.size := by simp [ByteArray.size_append]; rfl
        have HZT := hid hst
        clear hst
        go_wp2
        go_ret
        exact ⟨_, rfl, by rw [HZT.out]; omega, hb.out⟩
end Go.Proofs.YtffhfnkcbgbliaaDoor.MarkA
