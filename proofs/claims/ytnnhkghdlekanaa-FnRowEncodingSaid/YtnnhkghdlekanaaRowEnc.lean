/- The codes of values and rows (EncodeValue, EncodeRow), the program's and the model's. -/
import Derived.Test.YtnnhkghdlekanaaRows
import Derived.Test.YtnnhkghdlekanaaNum
import Derived.Test.YtnnhkghdlekanaaRow
import Derived.Test.YtnnhkghdlekanaaIntRow
import Derived.Test.YtnnhkghdlekanaaVals
import Derived.WalkKit
import Derived.IntWalk
import Derived.BigQuiet
import Derived.Deep.QuietTactic
namespace Go.Proofs.Ytnnhkghdlekanaa.RowEnc
open Go.RowKit
open Go.Proofs.Ytnnhkghdlekanaa.Num Go.Proofs.Ytnnhkghdlekanaa.Row Go.Proofs.Ytnnhkghdlekanaa.IntRow Go.Proofs.Ytnnhkghdlekanaa.Vals
set_option linter.unusedVariables false

theorem info : (Try.prog.info? 5).map (fun i => (i.zero, i.size, i.bytes)) = some (some (.int .u8 0), 1, 1) := by kernel_rfl

/-- The code of one value. -/
def encV (v : Int) : ByteArray := encS [v]
theorem encV_yes {v : Int} (h : okv v = true) : encV v = ⟨#[enc1 v]⟩ := by
  unfold encV
  rw [encS_yes (by simp [vals, h])]
  rfl
theorem encV_no {v : Int} (h : okv v = false) : encV v = ⟨#[]⟩ := by
  unfold encV
  rw [encS_no (by simp [vals, h])]

theorem spec_encv_yes (v : Int) (w : World) (h : okv v = true) :
    Calls Try.prog 24 #[.int .i64 v] w fun e w' => e = .returned (.string ⟨#[enc1 v]⟩) ∧ Below w.heap.size w w' := by
  have hcv := convert_one (P := Try.prog) w 22 5 9 Try.underlying22 Try.underlying5 Try.underlying9 (v + 1) (enc1 v) (enc1_int v h).symm
  obtain ⟨v0, v1⟩ := okv_iff.1 h
  have H := hid h
  clear h
  go_enter Try.func24, Try.ntmps24
  go_wp2_with fail
  refine (in_val_is _ _ _ H.out).mono ?_
  rintro e w' ⟨rfl, rfl⟩
  go_wp2
  go_ret
  exact ⟨rfl, (Below.refl _ _).alloc (Nat.le_refl _) _⟩
theorem spec_encv_no (v : Int) (w : World) (h : okv v = false) :
    Calls Try.prog 24 #[.int .i64 v] w fun e w' => e = .returned (.string ⟨#[]⟩) ∧ Below w.heap.size w w' := by
  have H := hid h
  clear h
  go_enter Try.func24, Try.ntmps24
  go_wp2_with fail
  refine (in_val_is _ _ _ H.out).mono ?_
  rintro e w' ⟨rfl, rfl⟩
  go_wp2
  go_ret
  exact ⟨rfl, Below.refl _ _⟩
theorem spec_encv (v : Int) (w : World) :
    Calls Try.prog 24 #[.int .i64 v] w fun e w' => e = .returned (.string (encV v)) ∧ Below w.heap.size w w' := by
  cases h : okv v with
  | true => rw [encV_yes h]; exact spec_encv_yes v w h
  | false => rw [encV_no h]; exact spec_encv_no v w h

theorem str_snoc (l : List UInt8) (c : UInt8) : (⟨l.toArray⟩ : ByteArray) ++ (⟨#[c]⟩ : ByteArray) = ⟨(l ++ [c]).toArray⟩ := by
  apply ByteArray.ext
  simp

theorem spec_enc_yes (a : Option Addr) (cap B : Nat) (xs : List Int) (w : World) (hn : xs.length ≤ 1048576) (h : Rd w B a xs) (hB : B ≤ w.heap.size) (hv : vals xs = true) :
    Calls Try.prog 26 #[.slice a xs.length cap] w fun e w' => e = .returned (.string ⟨(encL xs).toArray⟩) ∧ Below w.heap.size w w' := by
  have HV := hid hv
  clear hv
  go_enter Try.func26, Try.ntmps26
  go_wp2
  go_loopw [3, 4] (fun s i wr => ∃ k : Nat, k ≤ xs.length ∧ i = .int .i64 k ∧ s = .string ⟨(encL (xs.take k)).toArray⟩ ∧ Below w.heap.size w wr) (fun _ i _ => xs.length - (intOf i).toNat)
  case atStart => exact ⟨0, Nat.zero_le _, rfl, rfl, Below.refl _ _⟩
  case round =>
    obtain ⟨k, hk, rfl, rfl, hb⟩ := hrel
    by_cases hlt : k < xs.length
    · have hr := h.below (hb.mono hB)
      have A := hid (fun c => spec_are a c B xs wr hn hr)
      have HB := hid hb
      obtain ⟨b, off, rfl, hbB, hc⟩ := hr (by omega)
      have g := hc k hlt
      have hok := hid (vals_at HV.out k hlt)
      have hst := hid (encL_take xs k hlt)
      have hlen : (encL (xs.take k)).length ≤ 1048576 := by rw [encL_length]; simp; omega
      have hbw : b < wr.heap.size := by have := hb.size; omega
      clear hc hb hr h
      go_wp2_with fail
      refine (A.out _).mono ?_
      rintro e w1 ⟨rfl, rfl⟩
      rw [HV.out]
      go_wp2_with fail
      refine (spec_encv_yes _ _ hok.out).mono ?_
      rintro e w2 ⟨rfl, hb2⟩
      have HB2 := hid (HB.out.trans (hb2.mono HB.out.size))
      clear hb2
      go_wp2_with fail
      go_roundw
      case rel => exact ⟨k + 1, by omega, by go_num, by rw [hst.out, ← str_snoc], HB2.out⟩
      case measure => simp [intOf]; omega
    · have e : k = xs.length := by omega
      subst e
      clear h
      have ht : xs.take xs.length = xs := List.take_length
      have HB := hid hb
      clear hb
      go_wp2
      go_ret
      exact ⟨by rw [ht]; rfl, HB.out⟩

theorem spec_enc_no (a : Option Addr) (cap B : Nat) (xs : List Int) (w : World) (hn : xs.length ≤ 1048576) (h : Rd w B a xs) (hB : B ≤ w.heap.size) (hv : vals xs = false) :
    Calls Try.prog 26 #[.slice a xs.length cap] w fun e w' => e = .returned (.string ⟨#[]⟩) ∧ Below w.heap.size w w' := by
  have h0 : 0 < xs.length := by
    rcases Nat.eq_zero_or_pos xs.length with h | h
    · rw [List.eq_nil_of_length_eq_zero h] at hv; cases hv
    · exact h
  have h1 : (0 : Int) < (xs.length : Int) := by omega
  have A := hid (fun c => spec_are a c B xs w hn h)
  have HV := hid hv
  clear hv h
  go_enter Try.func26, Try.ntmps26
  go_wp2
  go_loop [3, 4] (fun s i => i = .int .i64 0 ∧ s = .string ⟨#[]⟩) (fun _ i => 0)
  case atStart => exact ⟨rfl, rfl⟩
  case round =>
    obtain ⟨rfl, rfl⟩ := hrel
    go_wp2_with fail
    refine (A.out _).mono ?_
    rintro e w1 ⟨rfl, rfl⟩
    rw [HV.out]
    go_wp2_with fail
    go_ret
    exact ⟨rfl, Below.refl _ _⟩
theorem spec_enc (a : Option Addr) (cap B : Nat) (xs : List Int) (w : World) (hn : xs.length ≤ 1048576) (h : Rd w B a xs) (hB : B ≤ w.heap.size) :
    Calls Try.prog 26 #[.slice a xs.length cap] w fun e w' => e = .returned (.string (encS xs)) ∧ Below w.heap.size w w' := by
  cases hv : vals xs with
  | true => rw [encS_yes hv]; exact spec_enc_yes a cap B xs w hn h hB hv
  | false => rw [encS_no hv]; exact spec_enc_no a cap B xs w hn h hB hv

/-- A row's code of which the first k bytes are written. -/
def frow (xs : List Int) (k : Nat) : Array Value := (cells (encL (xs.take k)) ++ List.replicate (xs.length - k) (Value.int .u8 0)).toArray
theorem frow_made (xs : List Int) : Array.replicate xs.length (Value.int .u8 0) = frow xs 0 := by
  simp [frow, cells, encL]
theorem frow_at (xs : List Int) (k : Nat) (h : k < xs.length) : (frow xs k)[k]? = some (Value.int .u8 0) := by
  have e : (cells (encL (xs.take k))).length = k := by rw [cells_length, encL_length]; simp; omega
  simp only [frow, List.getElem?_toArray]
  rw [List.getElem?_append_right (by omega), e, Nat.sub_self, List.getElem?_replicate, if_pos (by omega)]
theorem frow_set (xs : List Int) (k : Nat) (h : k < xs.length) (z : Int) (hz : z = (((enc1 xs[k]).toNat : Nat) : Int)) : (frow xs k).setIfInBounds k (.int .u8 z) = frow xs (k + 1) := by
  subst hz
  have e : (cells (encL (xs.take k))).length = k := by rw [cells_length, encL_length]; simp; omega
  unfold frow
  rw [encL_take xs k h, cells_append, cells_one, show xs.length - k = (xs.length - (k + 1)) + 1 by omega, List.replicate_succ]
  apply Array.toList_inj.1
  simp only [List.setIfInBounds_toArray]
  rw [List.set_append_right _ _ (by omega), e, Nat.sub_self, List.set_cons_zero, List.append_assoc]
  rfl
theorem frow_all (xs : List Int) : frow xs xs.length = zrow 0 (encL xs) := by
  simp [frow, zrow]

theorem impl_enc_yes (a : Option Addr) (cap B : Nat) (xs : List Int) (w : World) (hn : xs.length ≤ 1048576) (h : Rd w B a xs) (hB : B ≤ w.heap.size) (hv : vals xs = true) :
    Calls Try.prog 12 #[.slice a xs.length cap] w fun e w' => e = .returned (.string ⟨(encL xs).toArray⟩) ∧ Below w.heap.size w w' := by
  obtain ⟨i0, hi, hz0, hz1, hz2⟩ := info_parts info
  have A := hid (fun c => impl_are a c B xs w hn h)
  have HV := hid hv
  have hmk := make_bytes (P := Try.prog) w 22 5 i0 Try.underlying22 hi hz0 hz1 hz2 xs.length xs.length (by omega) (by omega) (by omega)
  simp only [Int.toNat_natCast, frow_made] at hmk
  clear hv
  go_enter Try.func12, Try.ntmps12
  go_wp2_with fail
  refine (A.out _).mono ?_
  rintro e w1 ⟨rfl, rfl⟩
  rw [HV.out]
  go_wp2_with fail
  go_loopw [4, 5, 14] (fun _ _ i wr => ∃ k : Nat, k ≤ xs.length ∧ i = .int .i64 k ∧ wr = w.alloc (.cells (frow xs k) 5)) (fun _ _ i _ => xs.length - (intOf i).toNat)
  case atStart => exact ⟨0, Nat.zero_le _, rfl, rfl⟩
  case round =>
    obtain ⟨k, hk, rfl, rfl⟩ := hrel
    clear hmk
    by_cases hlt : k < xs.length
    · obtain ⟨b, off, rfl, hbB, hc⟩ := h (by omega)
      have g := hc k hlt
      have hok := vals_at HV.out k hlt
      obtain ⟨v0, v1⟩ := okv_iff.1 hok
      have hbw : b < w.heap.size := by omega
      have hat := frow_at xs k hlt
      have hset := frow_set xs k hlt (xs[k] + 1) (enc1_int _ hok).symm
      clear hc h hok
      go_wp2
      go_roundw
      case rel => exact ⟨k + 1, by omega, by go_num, rfl⟩
      case measure => simp [intOf]; omega
    · have e : k = xs.length := by omega
      subst e
      have hcv := convert_block (P := Try.prog) w 22 5 9 Try.underlying22 Try.underlying5 Try.underlying9 (encL xs) xs.length xs.length (encL_length _)
      rw [← frow_all] at hcv
      clear h
      go_wp2
      go_ret
      exact ⟨rfl, (Below.refl _ _).alloc (Nat.le_refl _) _⟩

theorem impl_enc_no (a : Option Addr) (cap B : Nat) (xs : List Int) (w : World) (hn : xs.length ≤ 1048576) (h : Rd w B a xs) (hv : vals xs = false) :
    Calls Try.prog 12 #[.slice a xs.length cap] w fun e w' => e = .returned (.string ⟨#[]⟩) ∧ Below w.heap.size w w' := by
  have A := hid (fun c => impl_are a c B xs w hn h)
  have HV := hid hv
  clear hv h
  go_enter Try.func12, Try.ntmps12
  go_wp2_with fail
  refine (A.out _).mono ?_
  rintro e w1 ⟨rfl, rfl⟩
  rw [HV.out]
  go_wp2_with fail
  go_ret
  exact ⟨rfl, Below.refl _ _⟩
theorem impl_enc (a : Option Addr) (cap B : Nat) (xs : List Int) (w : World) (hn : xs.length ≤ 1048576) (h : Rd w B a xs) (hB : B ≤ w.heap.size) :
    Calls Try.prog 12 #[.slice a xs.length cap] w fun e w' => e = .returned (.string (encS xs)) ∧ Below w.heap.size w w' := by
  cases hv : vals xs with
  | true => rw [encS_yes hv]; exact impl_enc_yes a cap B xs w hn h hB hv
  | false => rw [encS_no hv]; exact impl_enc_no a cap B xs w hn h hv

theorem impl_encv (v : Int) (w : World) :
    Calls Try.prog 23 #[.int .i64 v] w fun e w' => e = .returned (.string (encV v)) ∧ Below w.heap.size w w' := by
  have hr : Rd (w.alloc (.cells #[.int .i64 v] 3)) (w.heap.size + 1) (some ⟨w.heap.size, 0, none⟩) [v] := fun _ => ⟨w.heap.size, 0, rfl, by omega, fun j hj => by
    obtain rfl : j = 0 := by simpa using hj
    simp⟩
  have E := hid (fun c => impl_enc (some ⟨w.heap.size, 0, none⟩) c (w.heap.size + 1) [v] _ (by simp) hr (by simp))
  go_enter Try.func23, Try.ntmps23
  go_wp2_with fail
  refine (E.out _).mono ?_
  rintro e w1 ⟨rfl, hb⟩
  have HB := hid (((Below.refl w.heap.size w).alloc (Nat.le_refl _) (.cells #[.int .i64 v] 3)).trans (hb.mono (by simp)))
  clear hb
  go_wp2_with fail
  go_ret
  exact ⟨rfl, HB.out⟩
end Go.Proofs.Ytnnhkghdlekanaa.RowEnc
