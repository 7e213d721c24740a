/- Plain lemmas on rows, their order and their codes (no program in sight). -/
import Derived.Test.YtnnhkghdlekanaaRowCmp
import Derived.Test.YtnnhkghdlekanaaRowEnc
import Derived.Test.YtnnhkghdlekanaaRowDecs
import Derived.Lib.Strings
namespace Go.Proofs.Ytnnhkghdlekanaa.RowPlain
open Go.RowKit
open Go.Proofs.Ytnnhkghdlekanaa.Num Go.Proofs.Ytnnhkghdlekanaa.IntRow Go.Proofs.Ytnnhkghdlekanaa.Vals Go.Proofs.Ytnnhkghdlekanaa.RowCmp Go.Proofs.Ytnnhkghdlekanaa.RowEnc Go.Proofs.Ytnnhkghdlekanaa.RowDec Go.Proofs.Ytnnhkghdlekanaa.RowDecs
set_option linter.unusedVariables false

theorem cmpL_anti : ∀ xs ys : List Int, cmpL ys xs = - cmpL xs ys
  | [], [] => rfl
  | [], _ :: _ => rfl
  | _ :: _, [] => rfl
  | x :: xs, y :: ys => by
    simp only [cmpL]
    by_cases h1 : x < y
    · rw [if_neg (show ¬ y < x by omega), if_pos h1, if_pos h1]; rfl
    · by_cases h2 : y < x
      · rw [if_pos h2, if_neg h1, if_pos h2]
      · rw [if_neg h2, if_neg h1, if_neg h1, if_neg h2]; exact cmpL_anti xs ys
theorem cmpL_three : ∀ xs ys : List Int, cmpL xs ys = -1 ∨ cmpL xs ys = 0 ∨ cmpL xs ys = 1
  | [], [] => .inr (.inl rfl)
  | [], _ :: _ => .inl rfl
  | _ :: _, [] => .inr (.inr rfl)
  | x :: xs, y :: ys => by
    simp only [cmpL]
    by_cases h1 : x < y
    · rw [if_pos h1]; exact .inl rfl
    · rw [if_neg h1]
      by_cases h2 : y < x
      · rw [if_pos h2]; exact .inr (.inr rfl)
      · rw [if_neg h2]; exact cmpL_three xs ys
theorem enc1_lt {x y : Int} (hx : okv x = true) (hy : okv y = true) : enc1 x < enc1 y ↔ x < y := by
  have h1 := enc1_int x hx
  have h2 := enc1_int y hy
  rw [UInt8.lt_iff_toNat_lt]
  omega
theorem enc1_eq {x y : Int} (hx : okv x = true) (hy : okv y = true) : enc1 x = enc1 y ↔ x = y := by
  refine ⟨fun h => ?_, fun h => by rw [h]⟩
  have h1 := enc1_int x hx
  have h2 := enc1_int y hy
  rw [h] at h1
  omega
theorem vals_cons {x : Int} {xs : List Int} : vals (x :: xs) = true ↔ okv x = true ∧ vals xs = true := by simp [vals]
theorem less_enc : ∀ xs ys : List Int, vals xs = true → vals ys = true → Op.bytesLess (encL xs) (encL ys) = decide (cmpL xs ys < 0)
  | [], [], _, _ => rfl
  | [], _ :: _, _, _ => rfl
  | _ :: _, [], _, _ => rfl
  | x :: xs, y :: ys, hx, hy => by
    obtain ⟨x0, hx⟩ := vals_cons.1 hx
    obtain ⟨y0, hy⟩ := vals_cons.1 hy
    have ih := less_enc xs ys hx hy
    show Op.bytesLess (enc1 x :: encL xs) (enc1 y :: encL ys) = _
    simp only [Op.bytesLess, ih]
    by_cases h1 : x < y
    · rw [cmpL_lt x y xs ys h1]; simp [(enc1_lt x0 y0).2 h1]
    · have h1' : ¬ enc1 x < enc1 y := fun h => h1 ((enc1_lt x0 y0).1 h)
      by_cases h2 : y < x
      · have : enc1 x ≠ enc1 y := fun h => by have := (enc1_eq x0 y0).1 h; omega
        rw [cmpL_gt x y xs ys h2]; simp [h1', this]
      · have : enc1 x = enc1 y := (enc1_eq x0 y0).2 (by omega)
        rw [cmpL_eq x y xs ys (by omega)]; simp [this]
theorem same_enc : ∀ xs ys : List Int, vals xs = true → vals ys = true → (encL xs == encL ys) = decide (cmpL xs ys = 0)
  | [], [], _, _ => rfl
  | [], _ :: _, _, _ => rfl
  | _ :: _, [], _, _ => rfl
  | x :: xs, y :: ys, hx, hy => by
    obtain ⟨x0, hx⟩ := vals_cons.1 hx
    obtain ⟨y0, hy⟩ := vals_cons.1 hy
    have ih := same_enc xs ys hx hy
    show (enc1 x :: encL xs == enc1 y :: encL ys) = _
    simp only [List.cons_beq_cons, ih]
    by_cases h1 : x < y
    · have : enc1 x ≠ enc1 y := fun h => by have := (enc1_eq x0 y0).1 h; omega
      rw [cmpL_lt x y xs ys h1]; simp [this]
    · by_cases h2 : y < x
      · have : enc1 x ≠ enc1 y := fun h => by have := (enc1_eq x0 y0).1 h; omega
        rw [cmpL_gt x y xs ys h2]; simp [this]
      · have : enc1 x = enc1 y := (enc1_eq x0 y0).2 (by omega)
        rw [cmpL_eq x y xs ys (by omega)]; simp [this]
theorem encS_list {xs : List Int} (h : vals xs = true) : (encS xs).toList = encL xs := by rw [encS_yes h, Lib.toList_data]
theorem less_str {xs ys : List Int} (hx : vals xs = true) (hy : vals ys = true) : Op.bytesLess (encS xs).toList (encS ys).toList = decide (cmpL xs ys < 0) := by
  rw [encS_list hx, encS_list hy, less_enc xs ys hx hy]
theorem same_str {xs ys : List Int} (hx : vals xs = true) (hy : vals ys = true) : ((encS xs).toList == (encS ys).toList) = decide (cmpL xs ys = 0) := by
  rw [encS_list hx, encS_list hy, same_enc xs ys hx hy]

theorem encS_size {xs : List Int} (h : vals xs = true) : (encS xs).size = xs.length := by
  rw [encS_yes h]
  show (encL xs).toArray.size = _
  simp [encL]
theorem encS_size_le (xs : List Int) : (encS xs).size ≤ xs.length := by
  cases h : vals xs with
  | true => rw [encS_size h]; exact Nat.le_refl _
  | false => rw [encS_no h]; exact Nat.zero_le _
theorem decr_enc {xs : List Int} (h : vals xs = true) : decr (encS xs) = xs := by
  rw [encS_yes h]
  unfold decr encL
  simp only [List.map_map]
  conv => rhs; rw [← List.map_id xs]
  refine List.map_congr_left fun x hx => ?_
  have hok : okv x = true := by
    obtain ⟨j, hj, rfl⟩ := List.getElem_of_mem hx
    exact vals_at h j hj
  have := enc1_int x hok
  show (((enc1 x).toNat : Nat) : Int) - 1 = x
  omega
theorem drOk_enc (xs : List Int) : drOk (encS xs) (xs.length : Nat) = vals xs := by
  cases h : vals xs with
  | true => simp [drOk, encS_size h, decr_enc h, h]
  | false =>
    have h0 : xs.length ≠ 0 := fun e => by rw [List.eq_nil_of_length_eq_zero e] at h; cases h
    have e0 : (encS xs).size = 0 := by rw [encS_no h]; rfl
    have : decide ((((encS xs).size : Nat) : Int) = ((xs.length : Nat) : Int)) = false := by rw [decide_eq_false_iff_not, e0]; omega
    unfold drOk
    rw [this]
    rfl
theorem drL_enc {xs : List Int} (h : vals xs = true) : drL (encS xs) (xs.length : Nat) = xs := by
  rw [dr_yes (by rw [drOk_enc, h]), decr_enc h]
theorem enc1_dec (c : UInt8) : enc1 (((c.toNat : Nat) : Int) - 1) = c := by
  unfold enc1
  have : (((c.toNat : Nat) : Int) - 1 + 1).toNat = c.toNat := by omega
  rw [this]
  simp
theorem encS_decr {s : ByteArray} (h : vals (decr s) = true) : encS (decr s) = s := by
  rw [encS_yes h]
  apply ByteArray.ext
  apply Array.toList_inj.1
  unfold encL decr
  simp only [List.map_map]
  conv => rhs; rw [← List.map_id s.data.toList]
  exact List.map_congr_left fun c _ => enc1_dec c
theorem encS_drL {s : ByteArray} {n : Int} (h : drOk s n = true) : encS (drL s n) = s := by
  rw [dr_yes h]
  simp only [drOk, Bool.and_eq_true] at h
  exact encS_decr h.2
theorem encS_first {z : Int} {xs : List Int} (h : vals (z :: xs) = true) : (encS (z :: xs)).extract 0 1 = encV z := by
  have hz := (vals_cons.1 h).1
  rw [encS_yes h, encV_yes hz]
  apply ByteArray.ext
  simp [encL]
theorem encS_at {z : Int} {xs : List Int} (h : vals (z :: xs) = true) (h0 : 0 < (encS (z :: xs)).size) : (((encS (z :: xs))[0].toNat : Nat) : Int) - 1 = z := by
  have hz := (vals_cons.1 h).1
  have e : ∀ (s : ByteArray) (hs : s = encS (z :: xs)) (h1 : 0 < s.size), s[0] = enc1 z := by
    intro s hs h1
    rw [encS_yes h] at hs
    subst hs
    rfl
  rw [e _ rfl h0]
  have := enc1_int z hz
  omega
end Go.Proofs.Ytnnhkghdlekanaa.RowPlain
