/- Plain lemmas for law FnEncodings: what each decoder makes of its encoder's output and a tail. -/
import Derived.Test.YteaehhidoiiclaaDoorNum
import Derived.Test.YteaehhidoiiclaaDoorVar
import Derived.Test.YteaehhidoiiclaaDoorUnhex
import Derived.Test.YteaehhidoiiclaaDoorParse
namespace Go.Proofs.YteaehhidoiiclaaDoor.EncPlain
open Go.RowKit
open Go.Proofs.YteaehhidoiiclaaDoor.Num Go.Proofs.YteaehhidoiiclaaDoor.Var Go.Proofs.YteaehhidoiiclaaDoor.Unhex Go.Proofs.YteaehhidoiiclaaDoor.Parse
set_option linter.unusedVariables false

/-! varints -/
theorem val_vint (f : Nat) : ∀ m, m < 128 ^ (f + 1) → val (vint f m) = m := by
  induction f with
  | zero =>
    intro m h
    have hm : m < 128 := by simpa using h
    rw [vint_last 0 m hm]
    simp [val, lo7]
    omega
  | succ f ih =>
    intro m h
    by_cases hm : m < 128
    · rw [vint_last _ m hm]
      simp [val, lo7]
      omega
    · rw [vint_more f m hm]
      have h2 : m / 128 < 128 ^ (f + 1) := by
        rw [Nat.div_lt_iff_lt_mul (by omega)]; rw [Nat.pow_succ] at h; exact h
      have := ih _ h2
      simp only [val]
      rw [this]
      have hi := hi7_int m
      have : (hi7 m).toNat = 128 + m % 128 := by omega
      rw [this]
      omega

theorem ans_vint (m : Nat) (hm : m ≤ 562949953421311) (tail : List UInt8) : Ans (vint 6 m ++ tail) m (vint 6 m).length := by
  obtain ⟨l, c, he, hc, hz, ha⟩ := vint_last_small 6 m (by omega)
  have hv := val_vint 6 m (by omega)
  have hl := vint_length 6 m
  rw [he] at hl hv ⊢
  simp only [List.length_append, List.length_cons, List.length_nil] at hl ⊢
  have hk : l.length < ((l ++ [c]) ++ tail).length := by simp
  have hg : ((l ++ [c]) ++ tail)[l.length] = c := by
    simp [List.append_assoc]
  have ht : ((l ++ [c]) ++ tail).take l.length = l := by
    rw [List.append_assoc, List.take_left']
    rfl
  have ht1 : ((l ++ [c]) ++ tail).take (l.length + 1) = l ++ [c] := by
    rw [List.take_left']
    simp
  have hz' : l.length = 0 ∨ ((l ++ [c]) ++ tail)[l.length].toNat ≠ 0 := by
    rw [hg]
    by_cases h1 : 1 ≤ m
    · exact Or.inr (hz h1)
    · left
      have h0 : m = 0 := by omega
      subst h0
      have := congrArg List.length he
      rw [vint_last 6 0 (by omega)] at this
      simp only [List.length_append, List.length_cons, List.length_nil] at this
      omega
  have := ans_some ((l ++ [c]) ++ tail) l.length hk (by omega) (by rw [ht]; exact ha) (by rw [hg]; exact hc) hz'
  rw [ht1, hv] at this
  exact this

theorem sans_vint (m : Nat) (hm : m ≤ 562949953421311) (tail : ByteArray) {x k : Nat} (h : SAns ((⟨(vint 6 m).toArray⟩ : ByteArray) ++ tail) x k) : x = m ∧ k = (vint 6 m).length := by
  have h' : Ans (vint 6 m ++ tail.data.toList) x k := by
    have e : (((⟨(vint 6 m).toArray⟩ : ByteArray) ++ tail).data.toList) = vint 6 m ++ tail.data.toList := by simp
    unfold SAns at h
    rw [e] at h
    exact h
  exact Ans.unique h' (ans_vint m hm _)

theorem vint_ne (m : Nat) : (vint 6 m) ≠ [] := by
  intro e
  by_cases h : m < 128
  · rw [vint_last 6 m h] at e; cases e
  · rw [vint_more 5 m h] at e; cases e

/-- What a decoder's answer says of the bytes that it took. -/
theorem sans_prefix (s : ByteArray) (x k : Nat) (h : SAns s x k) (hk : k ≠ 0) : 1 ≤ k ∧ k ≤ 7 ∧ k ≤ s.size ∧ x ≤ 562949953421311 ∧ vint 6 x = (s.extract 0 k).toList := by
  rcases h with ⟨_, h0, _⟩ | ⟨h1, h7, hs, hh, hx, _⟩
  · exact absurd h0 hk
  · rw [len_eq] at hs
    refine ⟨h1, h7, hs, ?_, ?_⟩
    · have := mval_max s k 0 h7
      unfold mval at this
      rw [List.drop_zero] at this
      omega
    · rw [Lib.extract_toList]
      unfold Hit at hh
      rw [← hx] at hh
      simpa using hh
theorem sans_zero_x (s : ByteArray) (x : Nat) (h : SAns s x 0) : x = 0 := by
  rcases h with ⟨h0, _, _⟩ | ⟨h1, _, _, _, _, _⟩
  · exact h0
  · omega

/-! numbers of a fixed width -/
theorem decB_fix (n : Nat) : ∀ j : Nat, decB (fixB n j) = ((n % 256 ^ j : Nat) : Int) := by
  have key : ∀ (j : Nat) (a : Nat), (fixB n j).foldl (fun a c => a * 256 + (c.toNat : Int)) (a : Int) = ((a * 256 ^ j + n % 256 ^ j : Nat) : Int) := by
    intro j
    induction j with
    | zero => intro a; simp [fixB, Nat.mod_one]
    | succ j ih =>
      intro a
      simp only [fixB, List.foldl_cons]
      have hb := byteAt_int n j (n / 256 ^ j) rfl
      have e : (a : Int) * 256 + (((byteAt n j).toNat : Nat) : Int) = ((a * 256 + n / 256 ^ j % 256 : Nat) : Int) := by rw [hb]; omega
      rw [e, ih]
      congr 1
      have h1 : n % 256 ^ (j + 1) = n % 256 ^ j + 256 ^ j * (n / 256 ^ j % 256) := by rw [Nat.pow_succ, Nat.mod_mul]
      rw [h1, Nat.pow_succ, Nat.add_mul]
      generalize 256 ^ j = p
      generalize n / p % 256 = q
      generalize n % p = r
      rw [Nat.mul_assoc a 256 p, Nat.mul_comm 256 p, Nat.mul_comm q p]
      omega
  intro j
  have := key j 0
  simpa [decB] using this

theorem fix_take (n : Nat) (tail : ByteArray) : (((⟨(fixB n 7).toArray⟩ : ByteArray) ++ tail).data.toList).take 7 = fixB n 7 := by
  have e : (((⟨(fixB n 7).toArray⟩ : ByteArray) ++ tail).data.toList) = fixB n 7 ++ tail.data.toList := by simp
  rw [e, List.take_left']
  exact fixB_length n 7

theorem decB_fix7 (n : Nat) (h : n < 72057594037927936) (tail : ByteArray) : decB ((((⟨(fixB n 7).toArray⟩ : ByteArray) ++ tail).data.toList).take 7) = (n : Int) := by
  rw [fix_take, decB_fix]
  congr 1
  exact Nat.mod_eq_of_lt h

/-! hexadecimal digits -/
theorem pair_hex (b : UInt8) : pair (b.toNat / 16) (b.toNat % 16) = b := by
  apply UInt8.toNat_inj.1
  have h := pair_int (b.toNat / 16) (b.toNat % 16) (by have := b.toNat_lt; omega) (by omega)
  omega
theorem decH_hexL (l : List UInt8) : decH (hexL l) = some l := by
  induction l with
  | nil => rfl
  | cons b l ih =>
    have h1 := unhex_hx (b.toNat / 16) (by have := b.toNat_lt; omega)
    have h2 := unhex_hx (b.toNat % 16) (by omega)
    simp only [hexL]
    unfold decH
    rw [h1, h2, ih]
    simp [pair_hex]

/-! decimal digits -/
theorem digits_inj {u v : Nat} (h : Lib.decDigits u = Lib.decDigits v) : u = v := by
  have h1 := foldP_digits u
  rw [h, foldP_digits v] at h1
  injection h1 with h1 _
  exact h1.symm
theorem itoa_neg (u : Nat) (h : 0 < u) : Lib.itoa (-(u : Int)) = 45 :: Lib.decDigits u := by
  unfold Lib.itoa
  rw [if_pos (by omega)]
  simp
theorem itoa_pos (u : Nat) : Lib.itoa (u : Int) = Lib.decDigits u := by
  unfold Lib.itoa
  rw [if_neg (by omega)]
  simp
theorem digits_head (u : Nat) (l : List UInt8) : Lib.decDigits u ≠ 45 :: l := by
  intro e
  have := (all_digits u 45 (by rw [e]; simp)).1
  exact absurd this (by decide)
theorem itoa_inj {a b : Int} (h : Lib.itoa a = Lib.itoa b) : a = b := by
  by_cases ha : a < 0
  · obtain ⟨u, hu, rfl⟩ : ∃ u : Nat, 0 < u ∧ a = -(u : Int) := ⟨a.natAbs, by omega, by omega⟩
    rw [itoa_neg u hu] at h
    by_cases hb : b < 0
    · obtain ⟨v, hv, rfl⟩ : ∃ v : Nat, 0 < v ∧ b = -(v : Int) := ⟨b.natAbs, by omega, by omega⟩
      rw [itoa_neg v hv] at h
      injection h with _ h
      rw [digits_inj h]
    · obtain ⟨v, rfl⟩ := Int.eq_ofNat_of_zero_le (show 0 ≤ b by omega)
      rw [itoa_pos v] at h
      exact absurd h.symm (digits_head v _)
  · obtain ⟨u, rfl⟩ := Int.eq_ofNat_of_zero_le (show 0 ≤ a by omega)
    rw [itoa_pos u] at h
    by_cases hb : b < 0
    · obtain ⟨v, hv, rfl⟩ : ∃ v : Nat, 0 < v ∧ b = -(v : Int) := ⟨b.natAbs, by omega, by omega⟩
      rw [itoa_neg v hv] at h
      exact absurd h (digits_head u _)
    · obtain ⟨v, rfl⟩ := Int.eq_ofNat_of_zero_le (show 0 ≤ b by omega)
      rw [itoa_pos v] at h
      rw [digits_inj h]
theorem parse_in (v : Int) (h0 : -1000000000 < v) (h1 : v < 1000000000) : implRes (Lib.itoa v) = some v := by
  unfold implRes
  rw [atoi_itoa v (by omega) (by omega)]
  simp only []
  rw [if_pos ⟨by omega, by omega, trivial⟩]
theorem parse_out (v : Int) (h : v ≤ -1000000000 ∨ 1000000000 ≤ v) : implRes (Lib.itoa v) = none := by
  unfold implRes
  cases Lib.atoiAll (Lib.itoa v) with
  | ok x =>
    simp only []
    rw [if_neg]
    rintro ⟨h0, h1, h2⟩
    have := itoa_inj h2
    omega
  | «syntax» => rfl
  | range => rfl

end Go.Proofs.YteaehhidoiiclaaDoor.EncPlain
