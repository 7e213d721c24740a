/- Plain lemmas on hexadecimal digits and on the decoding of a list of them. -/
import Derived.Test.YteaehhidoiiclaaDoorNum
namespace Go.Proofs.YteaehhidoiiclaaDoor.Unhex
open Go.Proofs.YteaehhidoiiclaaDoor.Num Go.RowKit
set_option linter.unusedVariables false

def unhex (c : UInt8) : Option Nat :=
  if 48 ≤ c.toNat ∧ c.toNat ≤ 57 then some (c.toNat - 48) else if 97 ≤ c.toNat ∧ c.toNat ≤ 102 then some (c.toNat - 87) else none

theorem unhex_hx (k : Nat) (h : k < 16) : unhex (hx k) = some k := by
  have : ∀ n : Fin 16, unhex (hx n.val) = some n.val := by decide
  exact this ⟨k, h⟩

theorem hx_nat (k : Nat) (h : k < 16) : (hx k).toNat = if k < 10 then k + 48 else k + 87 := by
  have : ∀ n : Fin 16, (hx n.val).toNat = if n.val < 10 then n.val + 48 else n.val + 87 := by decide
  exact this ⟨k, h⟩

theorem unhex_some {c : UInt8} {d : Nat} (h : unhex c = some d) : d < 16 ∧ ((c.toNat = d + 48 ∧ d < 10) ∨ (c.toNat = d + 87 ∧ 10 ≤ d)) := by
  unfold unhex at h
  split at h
  · simp at h; omega
  · split at h
    · simp at h; omega
    · cases h

theorem unhex_none {c : UInt8} (h : unhex c = none) : (c.toNat < 48 ∨ 57 < c.toNat) ∧ (c.toNat < 97 ∨ 102 < c.toNat) := by
  unfold unhex at h
  split at h
  · cases h
  · split at h
    · cases h
    · omega

theorem hx_eq {c : UInt8} {d : Nat} (h : unhex c = some d) : ((((hx d).toNat : Nat) : Int) == ((c.toNat : Nat) : Int)) = true := by
  obtain ⟨h1, h2⟩ := unhex_some h
  have := hx_nat d h1
  simp only [beq_iff_eq]
  split at this <;> omega

theorem hx_ne {c : UInt8} {k : Nat} (hk : k < 16) (h : unhex c ≠ some k) : ((((hx k).toNat : Nat) : Int) == ((c.toNat : Nat) : Int)) = false := by
  simp only [beq_eq_false_iff_ne, ne_eq]
  intro e
  apply h
  have : hx k = c := UInt8.toNat_inj.1 (by omega)
  rw [← this]
  exact unhex_hx k hk

/-- The byte of two digits. -/
def pair (x y : Nat) : UInt8 := UInt8.ofNat (16 * x + y)
theorem pair_int (x y : Nat) (hx : x < 16) (hy : y < 16) : (((pair x y).toNat : Nat) : Int) = 16 * (x : Int) + (y : Int) := by
  have h : (pair x y).toNat = 16 * x + y := by
    unfold pair
    rw [UInt8.toNat_ofNat']
    omega
  omega

/-- What a list of digits decodes to, if each pair is one. -/
def decH : List UInt8 → Option (List UInt8)
  | [] => some []
  | [_] => none
  | a :: b :: l => match unhex a, unhex b, decH l with
    | some x, some y, some r => some (pair x y :: r)
    | _, _, _ => none

theorem decH_odd (n : Nat) : ∀ l : List UInt8, l.length = n → n % 2 = 1 → decH l = none := by
  induction n using Nat.strongRecOn with
  | _ n ih =>
    intro l hl hn
    match l, hl with
    | [], hl => simp at hl; omega
    | [_], _ => rfl
    | a :: b :: l, hl =>
      have := ih (n - 2) (by simp at hl; omega) l (by simp at hl; omega) (by simp at hl; omega)
      unfold decH
      rw [this]
      cases unhex a <;> cases unhex b <;> rfl

/-- The way so far: the pairs before i have given acc. -/
def Way (l : List UInt8) (i : Nat) (acc : List UInt8) : Prop := decH l = (decH (l.drop i)).map (acc ++ ·)

theorem Way.start (l : List UInt8) : Way l 0 [] := by
  unfold Way
  simp

theorem Way.done {l acc : List UInt8} {i : Nat} (h : Way l i acc) (hi : l.length ≤ i) : decH l = some acc := by
  unfold Way at h
  rw [h, List.drop_eq_nil_of_le hi]
  simp [decH]

theorem drop_two (l : List UInt8) (i : Nat) (h : i + 1 < l.length) : l.drop i = l[i] :: l[i + 1] :: l.drop (i + 2) := by
  rw [List.drop_eq_getElem_cons (by omega), List.drop_eq_getElem_cons h]

theorem Way.bad {l acc : List UInt8} {i : Nat} (h : Way l i acc) (hi : i + 1 < l.length) (hb : unhex l[i] = none ∨ unhex l[i + 1] = none) : decH l = none := by
  unfold Way at h
  rw [h, drop_two l i hi]
  unfold decH
  rcases hb with e | e
  · rw [e]; rfl
  · rw [e]; cases unhex l[i] <;> rfl

theorem Way.good {l acc : List UInt8} {i x y : Nat} (h : Way l i acc) (hi : i + 1 < l.length) (hx : unhex l[i] = some x) (hy : unhex l[i + 1] = some y) : Way l (i + 2) (acc ++ [pair x y]) := by
  unfold Way at h ⊢
  rw [h, drop_two l i hi]
  conv => lhs; unfold decH
  rw [hx, hy]
  cases decH (l.drop (i + 2)) <;> simp

theorem byte_eq (s : ByteArray) (k : Nat) (h : k < s.size) (h' : k < s.data.toList.length) : s.data.toList[k] = s[k] := by
  simp; rfl

def SWay (s : ByteArray) (i : Nat) (acc : List UInt8) : Prop := Way s.data.toList i acc
theorem SWay.start (s : ByteArray) : SWay s 0 [] := Way.start _
theorem SWay.done {s : ByteArray} {acc : List UInt8} {i : Nat} (h : SWay s i acc) (hi : s.size ≤ i) : decH s.data.toList = some acc := Way.done h (by simpa using hi)
theorem SWay.bad {s : ByteArray} {acc : List UInt8} {i : Nat} (h : SWay s i acc) (hi : i + 1 < s.size) (hb : unhex s[i] = none ∨ unhex s[i + 1] = none) : decH s.data.toList = none := by
  have h1 : i + 1 < s.data.toList.length := by simpa using hi
  exact Way.bad h h1 (by rw [byte_eq s i (by omega), byte_eq s (i + 1) hi]; exact hb)
theorem SWay.good {s : ByteArray} {acc : List UInt8} {i x y : Nat} (h : SWay s i acc) (hi : i + 1 < s.size) (hx : unhex s[i] = some x) (hy : unhex s[i + 1] = some y) : SWay s (i + 2) (acc ++ [pair x y]) := by
  have h1 : i + 1 < s.data.toList.length := by simpa using hi
  exact Way.good h h1 (by rw [byte_eq s i (by omega)]; exact hx) (by rw [byte_eq s (i + 1) hi]; exact hy)

/-- How a decoder ends. -/
def hexEnd : Option (List UInt8) → Ending
  | some l => .returned (.tuple #[.string ⟨l.toArray⟩, .bool true])
  | none => .returned (.tuple #[.string ⟨#[]⟩, .bool false])

end Go.Proofs.YteaehhidoiiclaaDoor.Unhex
