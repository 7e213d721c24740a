/- The rows of codes (DecodeRow), the program's and the model's. -/
import Derived.Test.YtnnhkghdlekanaaRowDec
namespace Go.Proofs.Ytnnhkghdlekanaa.RowDecs
open Go.RowKit
open Go.Proofs.Ytnnhkghdlekanaa.Num Go.Proofs.Ytnnhkghdlekanaa.IntRow Go.Proofs.Ytnnhkghdlekanaa.IntLaw Go.Proofs.Ytnnhkghdlekanaa.Vals Go.Proofs.Ytnnhkghdlekanaa.RowDec
set_option linter.unusedVariables false

theorem info : (Try.prog.info? 3).map (fun i => (i.zero, i.size, i.bytes)) = some (some (.int .i64 0), 1, 8) := by kernel_rfl

/-- Does the string code a row of so many values; that row, or none. -/
def drOk (s : ByteArray) (n : Int) : Bool := decide ((s.size : Int) = n) && vals (decr s)
def drL (s : ByteArray) (n : Int) : List Int := if drOk s n = true then decr s else []
theorem dr_yes {s : ByteArray} {n : Int} (h : drOk s n = true) : drL s n = decr s := if_pos h
theorem dr_no {s : ByteArray} {n : Int} (h : drOk s n = false) : drL s n = [] := by unfold drL; rw [h]; rfl
theorem drL_len (s : ByteArray) (n : Int) (hs : s.size ≤ 1048576) : (drL s n).length ≤ 1048576 := by
  unfold drL
  split
  · rw [decr_length]; exact hs
  · simp

/-- What both answer. -/
def DrAt (xs : List Int) (ok : Bool) (w : World) (e : Ending) (w' : World) : Prop :=
  ∃ a cap, e = .returned (.tuple #[.slice a xs.length cap, .bool ok]) ∧ Own w' w.heap.size 3 (.slice a xs.length cap) xs ∧ Below w.heap.size w w'
theorem DrAt.none {w w' : World} {e : Ending} (he : e = .returned (.tuple #[.slice none 0 0, .bool false])) (hb : Below w.heap.size w w') : DrAt [] false w e w' :=
  ⟨Option.none, 0, he, Own.nil _ _ _, hb⟩

theorem impl_dr_len (s : ByteArray) (n : Int) (w : World) (hs : s.size ≤ 1048576) (h : (s.size : Int) ≠ n) :
    Calls Try.prog 16 #[.string s, .int .i64 n] w fun e w' => e = .returned (.tuple #[.slice none 0 0, .bool false]) ∧ Below w.heap.size w w' := by
  have h' : ((s.size : Int) != n) = true := by simpa using h
  clear h
  go_enter Try.func16, Try.ntmps16
  go_wp2
  go_ret2
  exact ⟨rfl, Below.refl _ _⟩

theorem impl_dr_bad (s : ByteArray) (w : World) (hs : s.size ≤ 1048576) (hv : vals (decr s) = false) :
    Calls Try.prog 16 #[.string s, .int .i64 (s.size : Nat)] w fun e w' => e = .returned (.tuple #[.slice none 0 0, .bool false]) ∧ Below w.heap.size w w' := by
  obtain ⟨i0, hi, hz0, hz1, hz2⟩ := info_parts info
  have hmk := make_ints (P := Try.prog) w 24 3 i0 Try.underlying24 hi hz0 hz1 hz2 s.size (by omega)
  have hat0 := hid (at_made w 3 s.size (by omega))
  have h' : ((s.size : Int) != (s.size : Int)) = false := by simp
  have HV := hid hv
  have hdl := hid (decr_length s)
  clear hv
  go_enter Try.func16, Try.ntmps16
  go_wp2
  go_loopw [7, 8, 9, 18] (fun _ _ _ i wr => ∃ (k : Nat) (ys : List Int), k ≤ s.size ∧ i = .int .i64 k ∧ Hid (∀ j (h : j < (decr s).length), j < k → okv (decr s)[j] = true) ∧ ys.length = s.size ∧ At wr w.heap.size 3 s.size ys ∧ Below w.heap.size w wr) (fun _ _ _ i _ => s.size - (intOf i).toNat)
  case atStart => exact ⟨0, _, Nat.zero_le _, rfl, hid (fun j _ h => by omega), by simp, hat0.out, (Below.refl _ _).alloc (Nat.le_refl _) _⟩
  case round =>
    obtain ⟨k, ys, hk, rfl, hd, hys, hat, hb⟩ := hrel
    by_cases hlt : k < s.size
    · have hat' := hdl.out
      have hdk : k < (decr s).length := by omega
      have hda := decr_at s k hlt hdk
      cases hok : okv (((s[k].toNat : Nat) : Int) - 1) with
      | false =>
        have D := hid (impl_dv_in s k false 0 wr hs hlt hok rfl)
        have HB := hid hb
        clear hb hat hmk hda hat' hdk hys hok
        go_wp2_with fail
        refine D.out.mono ?_
        rintro e w' ⟨rfl, rfl⟩
        go_wp2_with fail
        go_ret2
        exact ⟨rfl, HB.out⟩
      | true =>
        have D := hid (impl_dv_in s k true _ wr hs hlt hok rfl)
        simp only [cond_true] at D
        have HD := hid (show ∀ j (h : j < (decr s).length), j < k + 1 → okv (decr s)[j] = true from fun j hj hjk => by
          by_cases e : j = k
          · subst e; rw [hda]; exact hok
          · exact hd.out j hj (by omega))
        have HB := hid hb
        obtain ⟨u, c1⟩ : ∃ u, wr.cell? ⟨w.heap.size, k, none⟩ = some u := ⟨_, hat.cell k (by omega)⟩
        have c2 := hat.free k
        have hset := hid (hat.set k (((s[k].toNat : Nat) : Int) - 1))
        have hyl := hid hys
        clear hb hat hmk hda hat' hdk hys hok hd
        go_wp2_with fail
        refine D.out.mono ?_
        rintro e w' ⟨rfl, rfl⟩
        go_wp2_with fail
        go_roundw
        case rel => exact ⟨k + 1, _, by omega, by go_num, HD, by rw [List.length_set]; exact hyl.out, hset.out, HB.out.setCell (Nat.le_refl _) _⟩
        case measure => simp [intOf]; omega
    · have := vals_all (xs := decr s) (fun j hj => hd.out j hj (by rw [hdl.out] at hj; omega))
      rw [HV.out] at this
      cases this

theorem impl_dr_good (s : ByteArray) (w : World) (hs : s.size ≤ 1048576) (hv : vals (decr s) = true) :
    Calls Try.prog 16 #[.string s, .int .i64 (s.size : Nat)] w fun e w' => DrAt (decr s) true w e w' := by
  obtain ⟨i0, hi, hz0, hz1, hz2⟩ := info_parts info
  have hmk := make_ints (P := Try.prog) w 24 3 i0 Try.underlying24 hi hz0 hz1 hz2 s.size (by omega)
  have hat0 := hid (at_made w 3 s.size (by omega))
  have h' : ((s.size : Int) != (s.size : Int)) = false := by simp
  have HV := hid hv
  have hdl := hid (decr_length s)
  clear hv
  go_enter Try.func16, Try.ntmps16
  go_wp2
  go_loopw [7, 8, 9, 18] (fun _ _ _ i wr => ∃ (k : Nat), k ≤ s.size ∧ i = .int .i64 k ∧ At wr w.heap.size 3 s.size (filled (decr s) k) ∧ Below w.heap.size w wr) (fun _ _ _ i _ => s.size - (intOf i).toNat)
  case atStart => exact ⟨0, Nat.zero_le _, rfl, by rw [filled_zero, hdl.out]; exact hat0.out, (Below.refl _ _).alloc (Nat.le_refl _) _⟩
  case round =>
    obtain ⟨k, hk, rfl, hat, hb⟩ := hrel
    by_cases hlt : k < s.size
    · have hdk : k < (decr s).length := by rw [hdl.out]; exact hlt
      have hda := decr_at s k hlt hdk
      have hok := vals_at HV.out k hdk
      have hfl := filled_length (decr s) k (by omega)
      have D := hid (impl_dv_in s k true _ wr hs hlt (by rw [← hda]; exact hok) rfl)
      simp only [cond_true] at D
      have HB := hid hb
      obtain ⟨u, c1⟩ : ∃ u, wr.cell? ⟨w.heap.size, k, none⟩ = some u := ⟨_, hat.cell k (by omega)⟩
      have c2 := hat.free k
      have hset := hat.set k (decr s)[k]
      rw [filled_step (decr s) k hdk, hda] at hset
      have HS := hid hset
      clear hb hat hmk hda hdk hok hset hfl
      go_wp2_with fail
      refine D.out.mono ?_
      rintro e w' ⟨rfl, rfl⟩
      go_wp2_with fail
      go_roundw
      case rel => exact ⟨k + 1, by omega, by go_num, HS.out, HB.out.setCell (Nat.le_refl _) _⟩
      case measure => simp [intOf]; omega
    · have e : k = (decr s).length := by rw [hdl.out]; omega
      have e2 := hdl.out
      rw [e, filled_all] at hat
      have HA := hid hat
      have HB := hid hb
      clear hat hb hmk
      go_wp2
      go_ret2
      refine ⟨some ⟨w.heap.size, 0, none⟩, s.size, ?_, ?_, HB.out⟩
      · rw [e2]; rfl
      · have := HA.out.own (Nat.le_refl _)
        exact this

theorem impl_dr (s : ByteArray) (n : Int) (w : World) (hs : s.size ≤ 1048576) :
    Calls Try.prog 16 #[.string s, .int .i64 n] w fun e w' => DrAt (drL s n) (drOk s n) w e w' := by
  by_cases h : (s.size : Int) = n
  · subst h
    cases hv : vals (decr s) with
    | true =>
      have hk : drOk s (s.size : Nat) = true := by simp [drOk, hv]
      rw [dr_yes hk, hk]
      exact impl_dr_good s w hs hv
    | false =>
      have hk : drOk s (s.size : Nat) = false := by simp [drOk, hv]
      rw [dr_no hk, hk]
      exact (impl_dr_bad s w hs hv).mono fun e w' ⟨he, hb⟩ => DrAt.none he hb
  · have hk : drOk s n = false := by simp [drOk, h]
    rw [dr_no hk, hk]
    exact (impl_dr_len s n w hs h).mono fun e w' ⟨he, hb⟩ => DrAt.none he hb
end Go.Proofs.Ytnnhkghdlekanaa.RowDecs
