/- Plain lemmas: the model's way of reading a decimal number and strconv's: the same numbers of at most nine digits. -/
import Derived.Test.YteaehhidoiiclaaDoorFormat
import Derived.Lib.AtoiAll
import Derived.Lib.Strings
namespace Go.Proofs.YteaehhidoiiclaaDoor.Parse
open Go.Proofs.YteaehhidoiiclaaDoor.Num Go.Proofs.YteaehhidoiiclaaDoor.Format Go.RowKit
set_option linter.unusedVariables false

theorem decDigits_snoc (u : Nat) (h : ¬ u < 10) : Lib.decDigits u = Lib.decDigits (u / 10) ++ [dig u] := by
  rw [Lib.decDigits, dif_neg h]
  rfl
theorem decDigits_one (u : Nat) (h : u < 10) : Lib.decDigits u = [dig u] := by
  rw [Lib.decDigits, dif_pos h]
  unfold dig
  rw [Nat.mod_eq_of_lt h]

theorem dig_nat (u : Nat) : (dig u).toNat = 48 + u % 10 := by
  have := dig_int u
  omega

theorem all_digits (u : Nat) : ∀ d ∈ Lib.decDigits u, 48 ≤ d.toNat ∧ d.toNat ≤ 57 := by
  induction u using Nat.strongRecOn with
  | _ u ih =>
    by_cases h : u < 10
    · rw [decDigits_one u h]
      intro d hd
      simp at hd
      subst hd
      have := dig_nat u
      omega
    · rw [decDigits_snoc u h]
      intro d hd
      rcases List.mem_append.1 hd with hd | hd
      · exact ih (u / 10) (by omega) d hd
      · simp at hd
        subst hd
        have := dig_nat u
        omega

theorem decDigits_ne (u : Nat) : Lib.decDigits u ≠ [] := by
  by_cases h : u < 10
  · rw [decDigits_one u h]; simp
  · rw [decDigits_snoc u h]; simp

theorem decDigits_len (f u : Nat) (h : u < 10 ^ (f + 1)) : (Lib.decDigits u).length ≤ f + 1 := by
  by_cases h0 : u = 0
  · subst h0
    rw [decDigits_one 0 (by omega)]
    simp
  · have := digs_length (f + 1) u h
    unfold digs at this
    rw [if_neg h0] at this
    exact this

/-! strconv's reading -/
theorem parse_snoc (c : UInt8) (d m : Nat) (hc : c.toNat = 48 + d) (hd : d < 10) (hm : m * 10 + d < 1000000000000000000) :
    ∀ (l : List UInt8) (acc : Nat), Lib.parseUint10 acc l = .ok m → Lib.parseUint10 acc (l ++ [c]) = .ok (m * 10 + d)
  | [], acc, h => by
    simp only [Lib.parseUint10] at h
    injection h with h
    subst h
    simp only [List.nil_append, Lib.parseUint10]
    rw [if_pos (by omega), if_neg (by omega), if_neg (by omega)]
    congr 1
    omega
  | b :: l, acc, h => by
    simp only [Lib.parseUint10] at h
    simp only [List.cons_append, Lib.parseUint10]
    split at h
    · rename_i h1
      rw [if_pos h1]
      split at h
      · cases h
      · rename_i h2
        rw [if_neg h2]
        split at h
        · cases h
        · rename_i h3
          rw [if_neg h3]
          exact parse_snoc c d m hc hd hm l _ h
    · cases h

theorem parse_digits (u : Nat) (hu : u < 1000000000000000000) : Lib.parseUint10 0 (Lib.decDigits u) = .ok u := by
  induction u using Nat.strongRecOn with
  | _ u ih =>
    have hd := dig_nat u
    by_cases h : u < 10
    · rw [decDigits_one u h]
      have := parse_snoc (dig u) u 0 (by omega) h (by omega) [] 0 rfl
      simpa using this
    · rw [decDigits_snoc u h]
      have := parse_snoc (dig u) (u % 10) (u / 10) (by omega) (by omega) (by omega) _ 0 (ih (u / 10) (by omega) (by omega))
      rw [this]
      congr 1
      omega

theorem atoi_itoa (v : Int) (h0 : -999999999 ≤ v) (h1 : v ≤ 999999999) : Lib.atoiAll (Lib.itoa v) = .ok v := by
  by_cases hn : v < 0
  · obtain ⟨u, rfl⟩ : ∃ u : Nat, v = -(u : Int) := ⟨v.natAbs, by omega⟩
    have e : Lib.itoa (-(u : Int)) = 45 :: Lib.decDigits u := by
      unfold Lib.itoa
      rw [if_pos hn]
      simp
    rw [e]
    have hp : Lib.parseMag (Lib.decDigits u) = .ok u := by
      unfold Lib.parseMag
      rw [if_neg (decDigits_ne u), parse_digits u (by omega)]
    simp [Lib.atoiAll, hp]
    omega
  · obtain ⟨u, rfl⟩ := Int.eq_ofNat_of_zero_le (show 0 ≤ v by omega)
    have e : Lib.itoa (u : Int) = Lib.decDigits u := by
      unfold Lib.itoa
      rw [if_neg hn]
      simp
    rw [e]
    have hp : Lib.parseMag (Lib.decDigits u) = .ok u := by
      unfold Lib.parseMag
      rw [if_neg (decDigits_ne u), parse_digits u (by omega)]
    have ha := all_digits u
    cases hl : Lib.decDigits u with
    | nil => exact absurd hl (decDigits_ne u)
    | cons c r =>
      have hc := ha c (by rw [hl]; simp)
      rw [hl] at hp
      have n1 : ¬ (c.toNat = 43 ∨ c.toNat = 45) := by omega
      have n2 : ¬ c.toNat = 45 := by omega
      unfold Lib.atoiAll
      simp only []
      rw [if_neg n1, hp]
      simp only []
      rw [if_neg (by omega), if_neg (by omega), if_neg n2]

/-! the model's reading -/
def stepP (a : Nat × Nat) (c : UInt8) : Nat × Nat := if 48 ≤ c.toNat ∧ c.toNat ≤ 57 then (a.1 * 10 + (c.toNat - 48), a.2 + 1) else a
def foldP (l : List UInt8) : Nat × Nat := l.foldl stepP (0, 0)

theorem foldP_snoc (l : List UInt8) (c : UInt8) : foldP (l ++ [c]) = stepP (foldP l) c := by
  simp [foldP, List.foldl_append]

theorem foldP_bound (n : Nat) : ∀ l : List UInt8, l.length = n → (foldP l).1 < 10 ^ (foldP l).2 ∧ (foldP l).2 ≤ l.length := by
  induction n with
  | zero =>
    intro l h
    obtain rfl := List.eq_nil_of_length_eq_zero h
    simp [foldP]
  | succ n ih =>
    intro l h
    obtain ⟨l', c, rfl⟩ : ∃ l' c, l = l' ++ [c] := by
      refine ⟨l.dropLast, l.getLast (by intro e; simp [e] at h), ?_⟩
      exact (List.dropLast_concat_getLast _).symm
    have h' : l'.length = n := by simpa using h
    obtain ⟨h1, h2⟩ := ih l' h'
    rw [foldP_snoc]
    unfold stepP
    split
    · refine ⟨?_, by simp; omega⟩
      simp only [Nat.pow_succ]
      omega
    · exact ⟨h1, by simp; omega⟩

theorem foldP_digits (u : Nat) : foldP (Lib.decDigits u) = (u, (Lib.decDigits u).length) := by
  induction u using Nat.strongRecOn with
  | _ u ih =>
    have hd := dig_nat u
    by_cases h : u < 10
    · rw [decDigits_one u h]
      simp only [foldP, List.foldl_cons, List.foldl_nil, stepP]
      rw [if_pos (by omega)]
      simp
      omega
    · rw [decDigits_snoc u h, foldP_snoc, ih (u / 10) (by omega)]
      unfold stepP
      rw [if_pos (by omega)]
      simp
      omega

theorem foldP_minus (l : List UInt8) : foldP (45 :: l) = foldP l := by
  have : stepP (0, 0) 45 = (0, 0) := by decide
  simp [foldP, this]

/-- What the model reads: the number, the count of its digits. -/
def readP (l : List UInt8) : Nat × Nat := foldP (l.take 11)
def signP (l : List UInt8) (x : Nat) : Int := if l.head? = some 45 then -(x : Int) else x
def specRes (l : List UInt8) : Option Int :=
  if (readP l).2 ≤ 9 ∧ l.length ≤ 10 ∧ Lib.itoa (signP l (readP l).1) = l then some (signP l (readP l).1) else none
def implRes (l : List UInt8) : Option Int :=
  match Lib.atoiAll l with
  | .ok v => if -999999999 ≤ v ∧ v ≤ 999999999 ∧ Lib.itoa v = l then some v else none
  | _ => none

theorem read_itoa (v : Int) (h0 : -999999999 ≤ v) (h1 : v ≤ 999999999) :
    (readP (Lib.itoa v)).2 ≤ 9 ∧ (Lib.itoa v).length ≤ 10 ∧ signP (Lib.itoa v) (readP (Lib.itoa v)).1 = v := by
  by_cases hn : v < 0
  · obtain ⟨u, rfl⟩ : ∃ u : Nat, v = -(u : Int) := ⟨v.natAbs, by omega⟩
    have e : Lib.itoa (-(u : Int)) = 45 :: Lib.decDigits u := by
      unfold Lib.itoa
      rw [if_pos hn]
      simp
    have hl := decDigits_len 8 u (by omega)
    rw [e]
    have ht : (45 :: Lib.decDigits u).take 11 = 45 :: Lib.decDigits u := List.take_of_length_le (by simp; omega)
    unfold readP
    rw [ht, foldP_minus, foldP_digits]
    refine ⟨hl, by simp; omega, ?_⟩
    unfold signP
    rw [if_pos (by rfl)]
  · obtain ⟨u, rfl⟩ := Int.eq_ofNat_of_zero_le (show 0 ≤ v by omega)
    have e : Lib.itoa (u : Int) = Lib.decDigits u := by
      unfold Lib.itoa
      rw [if_neg hn]
      simp
    have hl := decDigits_len 8 u (by omega)
    rw [e]
    have ht : (Lib.decDigits u).take 11 = Lib.decDigits u := List.take_of_length_le (by omega)
    unfold readP
    rw [ht, foldP_digits]
    refine ⟨hl, by omega, ?_⟩
    unfold signP
    rw [if_neg]
    intro hh
    have ha := all_digits u
    cases hl2 : Lib.decDigits u with
    | nil => exact absurd hl2 (decDigits_ne u)
    | cons c r =>
      rw [hl2] at hh
      simp at hh
      have hc := ha c (by rw [hl2]; simp)
      rw [hh] at hc
      exact absurd hc.1 (by decide)

theorem read_bound (l : List UInt8) : (readP l).1 < 10 ^ (readP l).2 ∧ (readP l).2 ≤ 11 := by
  have h := foldP_bound _ (l.take 11) rfl
  refine ⟨h.1, Nat.le_trans h.2 ?_⟩
  simp
  omega

theorem sign_bound (l : List UInt8) (h : (readP l).2 ≤ 9) : -999999999 ≤ signP l (readP l).1 ∧ signP l (readP l).1 ≤ 999999999 := by
  have hb := (read_bound l).1
  have : 10 ^ (readP l).2 ≤ 10 ^ 9 := Nat.pow_le_pow_right (by omega) h
  unfold signP
  split <;> omega

theorem same (l : List UInt8) : specRes l = implRes l := by
  unfold specRes implRes
  by_cases hg : ∃ v : Int, -999999999 ≤ v ∧ v ≤ 999999999 ∧ Lib.itoa v = l
  · obtain ⟨v, h0, h1, rfl⟩ := hg
    obtain ⟨a, b, c⟩ := read_itoa v h0 h1
    rw [c, if_pos ⟨a, b, rfl⟩, atoi_itoa v h0 h1]
    simp only
    rw [if_pos ⟨h0, h1, by trivial⟩]
  · rw [if_neg (fun hh => hg ⟨_, (sign_bound l hh.1).1, (sign_bound l hh.1).2, hh.2.2⟩)]
    cases Lib.atoiAll l with
    | ok v =>
      simp only
      rw [if_neg (fun hh => hg ⟨v, hh⟩)]
    | «syntax» => rfl
    | range => rfl

/-! of a Go string -/
theorem byte_eq (s : ByteArray) (k : Nat) (h : k < s.size) (h' : k < s.data.toList.length) : s.data.toList[k] = s[k] := by
  simp; rfl
def rdx (s : ByteArray) (j : Nat) : Nat := (foldP (s.data.toList.take j)).1
def rdk (s : ByteArray) (j : Nat) : Nat := (foldP (s.data.toList.take j)).2

theorem rd_zero (s : ByteArray) : rdx s 0 = 0 ∧ rdk s 0 = 0 := by simp [rdx, rdk, foldP]
theorem rd_bound (s : ByteArray) (j : Nat) (h : j ≤ 11) : rdx s j < 100000000000 ∧ rdk s j ≤ 11 := by
  have hb := foldP_bound _ (s.data.toList.take j) rfl
  have h2 : (foldP (s.data.toList.take j)).2 ≤ 11 := Nat.le_trans hb.2 (by simp; omega)
  have : 10 ^ (foldP (s.data.toList.take j)).2 ≤ 10 ^ 11 := Nat.pow_le_pow_right (by omega) h2
  unfold rdx rdk
  omega
theorem rd_digit (s : ByteArray) (j : Nat) (h : j < s.size) (h1 : 48 ≤ ((s[j].toNat : Nat) : Int)) (h2 : ((s[j].toNat : Nat) : Int) ≤ 57) :
    ((rdx s (j + 1) : Nat) : Int) = (rdx s j : Int) * 10 + (((s[j].toNat : Nat) : Int) - 48) ∧ ((rdk s (j + 1) : Nat) : Int) = (rdk s j : Int) + 1 := by
  unfold rdx rdk
  rw [take_snoc s j h, foldP_snoc]
  unfold stepP
  rw [if_pos (by omega)]
  simp only
  omega
theorem rd_other (s : ByteArray) (j : Nat) (h : j < s.size) (h1 : ((s[j].toNat : Nat) : Int) < 48 ∨ 57 < ((s[j].toNat : Nat) : Int)) :
    rdx s (j + 1) = rdx s j ∧ rdk s (j + 1) = rdk s j := by
  unfold rdx rdk
  rw [take_snoc s j h, foldP_snoc]
  unfold stepP
  rw [if_neg (by omega)]
  exact ⟨rfl, rfl⟩
theorem rd_end (s : ByteArray) (j : Nat) (hj : j ≤ 11) (h : j = 11 ∨ s.size ≤ j) : (rdx s j, rdk s j) = readP s.data.toList := by
  unfold rdx rdk readP
  have e : s.data.toList.take j = s.data.toList.take 11 := by
    rcases h with rfl | h
    · rfl
    · rw [List.take_of_length_le (by simp; omega), List.take_of_length_le (by simp; omega)]
  rw [e]
theorem sign_minus (s : ByteArray) (x : Nat) (h : 0 < s.size) (hc : (((s[0].toNat : Nat) : Int) == 45) = true) : signP s.data.toList x = -(x : Int) := by
  have h1 : 0 < s.data.toList.length := by simpa using h
  have e : s.data.toList.head? = some s[0] := by
    rw [List.head?_eq_getElem?, List.getElem?_eq_getElem h1, byte_eq s 0 h]
  unfold signP
  rw [e, if_pos]
  have := eq_of_beq hc
  congr 1
  apply UInt8.toNat_inj.1
  show s[0].toNat = 45
  omega
theorem sign_plus (s : ByteArray) (x : Nat) (h : 0 < s.size) (hc : (((s[0].toNat : Nat) : Int) == 45) = false) : signP s.data.toList x = (x : Int) := by
  have h1 : 0 < s.data.toList.length := by simpa using h
  have e : s.data.toList.head? = some s[0] := by
    rw [List.head?_eq_getElem?, List.getElem?_eq_getElem h1, byte_eq s 0 h]
  unfold signP
  rw [e, if_neg]
  intro hh
  injection hh with hh
  rw [hh] at hc
  exact absurd hc (by decide)
theorem sign_none (s : ByteArray) (x : Nat) (h : s.size = 0) : signP s.data.toList x = (x : Int) := by
  have e : s.data.toList = [] := List.eq_nil_of_length_eq_zero (by simpa using h)
  rw [e]
  rfl

theorem str_true {l : List UInt8} {s : ByteArray} (h : l = s.data.toList) : (l == s.toList) = true := by
  rw [Lib.toList_data]
  simpa using h
theorem str_false {l : List UInt8} {s : ByteArray} (h : ¬ l = s.data.toList) : (l == s.toList) = false := by
  rw [Lib.toList_data]
  simpa using h

/-- How ParseInt ends. -/
def parseEnd : Option Int → Ending
  | some v => .returned (.tuple #[.int .i64 v, .bool true])
  | none => .returned (.tuple #[.int .i64 0, .bool false])
def sres (s : ByteArray) : Option Int := specRes s.data.toList
/-- The model has read x by k digits, and its number with the sign is n. -/
def Rd (s : ByteArray) (x k : Nat) (n : Int) : Prop := (x, k) = readP s.data.toList ∧ signP s.data.toList x = n
theorem Rd.many {s : ByteArray} {x k : Nat} {n : Int} (h : Rd s x k n) (hk : 9 < k ∨ 10 < s.size) : sres s = none := by
  obtain ⟨h1, h2⟩ := h
  unfold sres specRes
  rw [← h1, if_neg]
  simp only [Array.length_toList]
  intro hh
  have : s.data.size = s.size := rfl
  omega
theorem Rd.other {s : ByteArray} {x k : Nat} {n : Int} (h : Rd s x k n) (he : Lib.itoa n ≠ s.data.toList) : sres s = none := by
  obtain ⟨h1, h2⟩ := h
  unfold sres specRes
  rw [← h1, if_neg]
  simp only [h2]
  intro hh
  exact he hh.2.2
theorem Rd.yes {s : ByteArray} {x k : Nat} {n : Int} (h : Rd s x k n) (hk : k ≤ 9) (hs : s.size ≤ 10) (he : Lib.itoa n = s.data.toList) : sres s = some n := by
  obtain ⟨h1, h2⟩ := h
  unfold sres specRes
  rw [← h1, if_pos]
  · simp only [h2]
  · simp only [h2]
    refine ⟨hk, ?_, he⟩
    have : s.data.size = s.size := rfl
    simp only [Array.length_toList]
    omega

end Go.Proofs.YteaehhidoiiclaaDoor.Parse
