/- The calls of law FnEncodings, each with what it answers. -/
import Derived.Test.YteaehhidoiiclaaDoorEncDraws
import Derived.Test.YteaehhidoiiclaaDoorEncPlain
import Derived.Test.YteaehhidoiiclaaDoorEncodeFixed
import Derived.Test.YteaehhidoiiclaaDoorDecodeFixed
import Derived.Test.YteaehhidoiiclaaDoorDecodeVarint
import Derived.Test.YteaehhidoiiclaaDoorEncodeHex
import Derived.Test.YteaehhidoiiclaaDoorDecodeHex
import Derived.Test.YteaehhidoiiclaaDoorParseInt
import Derived.WalkKit
import Derived.ProofKit
import Derived.OpenShut
namespace Go.Proofs.YteaehhidoiiclaaDoor.EncCalls
open Go.ChangeShapes Go.WideShapes Go.ChangeAt Go.RowKit
open Go.Proofs.YteaehhidoiiclaaDoor.Num Go.Proofs.YteaehhidoiiclaaDoor.Row Go.Proofs.YteaehhidoiiclaaDoor.Cur Go.Proofs.YteaehhidoiiclaaDoor.EncDraws Go.Proofs.YteaehhidoiiclaaDoor.EncPlain Go.Proofs.YteaehhidoiiclaaDoor.Var Go.Proofs.YteaehhidoiiclaaDoor.Laid Go.Proofs.YteaehhidoiiclaaDoor.Sent
set_option linter.unusedVariables false

theorem big_yes (a : Option Addr) (n cap : Nat) (w : World) (h : 1048576 < n) (h2 : n ≤ 9223372036854775807) :
    Calls Tryd.prog 6 #[.slice a n cap] w fun e w' => e = .returned (.bool true) ∧ w = w' := by
  have h1 : (1048576 : Int) < (n : Int) := by omega
  go_enter Tryd.func6, Tryd.ntmps6
  go_wp2
  go_ret
  exact ⟨rfl, rfl⟩
theorem big_no (a : Option Addr) (n cap : Nat) (w : World) (h : n ≤ 1048576) :
    Calls Tryd.prog 6 #[.slice a n cap] w fun e w' => e = .returned (.bool false) ∧ w = w' := by
  have h1 : ¬ (1048576 : Int) < (n : Int) := by omega
  go_enter Tryd.func6, Tryd.ntmps6
  go_wp2
  go_ret
  exact ⟨rfl, rfl⟩
theorem big_code (sv : Value) (l : List UInt8) (w : World) (c : Nat) (hc : Cur.Code w c sv l) (hl : l.length ≤ 1048576) :
    Calls Tryd.prog 6 #[sv] w fun e w' => e = .returned (.bool false) ∧ w = w' := by
  rcases hc with ⟨rfl, a, cap, rfl⟩ | ⟨b, off, cap, rfl, _, _⟩
  · exact big_no _ 0 _ _ (by omega)
  · exact big_no _ _ _ _ hl

theorem enc (n : Int) (w : World) : Calls Tryd.prog 9 #[.int .i64 n] w fun e w' => e = .returned (.string (encF n)) ∧ Below w.heap.size w w' := by
  unfold encF
  by_cases h : 0 ≤ n ∧ n ≤ 562949953421311
  · rw [if_pos h]
    obtain ⟨m, rfl⟩ := Int.eq_ofNat_of_zero_le h.1
    exact EncodeVarint.impl_yes m w (by omega)
  · rw [if_neg h]
    exact (EncodeVarint.impl_no n w (by omega)).mono fun e w' ⟨h1, h2⟩ => by subst h2; exact ⟨h1, Below.refl _ _⟩

/-- The varint of n and a tail, decoded. -/
theorem dec (n : Int) (tail : ByteArray) (w : World) (h : 0 ≤ n ∧ n ≤ 562949953421311) (ht : tail.size ≤ 40) :
    Calls Tryd.prog 10 #[.string (encF n ++ tail)] w fun e w' => e = .returned (.tuple #[.int .i64 n, .int .i64 ((encF n).size : Nat)]) ∧ Below w.heap.size w w' := by
  have hs := encF_size n
  refine (DecodeVarint.impl_any (encF n ++ tail) w (by rw [ByteArray.size_append]; omega)).mono ?_
  rintro e w' ⟨x, k, ha, rfl, hb⟩
  obtain ⟨m, rfl⟩ := Int.eq_ofNat_of_zero_le h.1
  have he : encF (m : Int) = ⟨(vint 6 m).toArray⟩ := by unfold encF; rw [if_pos h]; simp
  rw [he] at ha ⊢
  obtain ⟨rfl, rfl⟩ := sans_vint m (by omega) tail ha
  exact ⟨rfl, hb⟩
theorem encF_some (n : Int) (h : 0 ≤ n ∧ n ≤ 562949953421311) : (encF n).toList.isEmpty = false := by
  unfold encF
  rw [if_pos h]
  have := vint_ne n.toNat
  have e : (⟨(vint 6 n.toNat).toArray⟩ : ByteArray).toList = vint 6 n.toNat := by rw [Lib.toList_data]
  rw [e]
  simpa using this
theorem encF_none (n : Int) (h : ¬ (0 ≤ n ∧ n ≤ 562949953421311)) : encF n = ⟨#[]⟩ := by
  unfold encF
  rw [if_neg h]

def fixF (n : Int) : ByteArray := if 0 ≤ n then EncodeFixed.fixS n.toNat 7 else ⟨#[]⟩
theorem fix (n : Int) (w : World) (h : n ≤ 9223372036854775807) : Calls Tryd.prog 11 #[.int .i64 n, .int .i64 7] w fun e w' => e = .returned (.string (fixF n)) ∧ Below w.heap.size w w' := by
  unfold fixF
  by_cases h0 : 0 ≤ n
  · rw [if_pos h0]
    obtain ⟨m, rfl⟩ := Int.eq_ofNat_of_zero_le h0
    exact EncodeFixed.impl_yes m 7 w (by omega) (by omega) (by omega)
  · rw [if_neg h0]
    exact (EncodeFixed.impl_no n 7 w (by omega)).mono fun e w' ⟨h1, h2⟩ => by subst h2; exact ⟨h1, Below.refl _ _⟩
theorem fixF_some (n : Int) (h : 0 ≤ n ∧ n < 72057594037927936) : fixF n = ⟨(fixB n.toNat 7).toArray⟩ := by
  unfold fixF EncodeFixed.fixS
  rw [if_pos h.1, if_pos]
  rw [Nat.div_eq_zero_iff]
  omega
theorem fixF_none (n : Int) (h : ¬ (0 ≤ n ∧ n < 72057594037927936)) : fixF n = ⟨#[]⟩ := by
  unfold fixF EncodeFixed.fixS
  by_cases h0 : 0 ≤ n
  · rw [if_pos h0, if_neg]
    rw [Nat.div_eq_zero_iff]
    omega
  · rw [if_neg h0]
theorem fixF_size (n : Int) (h : 0 ≤ n ∧ n < 72057594037927936) : (fixF n).size = 7 := by
  rw [fixF_some n h]
  show (fixB n.toNat 7).toArray.size = 7
  simp [fixB_length]
theorem fixF_ne (n : Int) (h : 0 ≤ n ∧ n < 72057594037927936) : (fixF n).toList.isEmpty = false := by
  rw [fixF_some n h]
  have e : (⟨(fixB n.toNat 7).toArray⟩ : ByteArray).toList = fixB n.toNat 7 := by rw [Lib.toList_data]
  rw [e]
  have := fixB_length n.toNat 7
  cases hh : fixB n.toNat 7 with
  | nil => rw [hh] at this; cases this
  | cons a b => rfl
theorem defix (n : Int) (tail : ByteArray) (w : World) (h : 0 ≤ n ∧ n < 72057594037927936) (ht : tail.size ≤ 40) :
    Calls Tryd.prog 12 #[.string (fixF n ++ tail), .int .i64 7] w fun e w' => e = .returned (.tuple #[.int .i64 n, .bool true]) ∧ w = w' := by
  have h7 := fixF_size n h
  have hsz : (fixF n ++ tail).size = 7 + tail.size := by rw [ByteArray.size_append, h7]
  have := DecodeFixed.impl_yes (fixF n ++ tail) 7 w (by rw [hsz]; unfold maxLen; omega) (by omega) (by omega) (by omega)
  obtain ⟨m, rfl⟩ := Int.eq_ofNat_of_zero_le h.1
  rw [fixF_some _ h] at this ⊢
  rw [Int.toNat_natCast] at this ⊢
  rw [decB_fix7 m (by omega) tail] at this
  exact this
/-- Some answer. -/
def AnyFix (w : World) (e : Ending) (w' : World) : Prop := ∃ (x : Int) (b : Bool), e = .returned (.tuple #[.int .i64 x, .bool b]) ∧ w = w'
theorem defix_any (s : ByteArray) (w : World) (hs : s.size ≤ 1048576) :
    Calls Tryd.prog 12 #[.string s, .int .i64 7] w (AnyFix w) := by
  by_cases h : 7 ≤ s.size
  · exact (DecodeFixed.impl_yes s 7 w (by unfold maxLen; omega) (by omega) (by omega) h).mono fun e w' ⟨h1, h2⟩ => ⟨_, _, h1, h2⟩
  · exact (DecodeFixed.impl_no s 7 w (by unfold maxLen; omega) (by omega)).mono fun e w' ⟨h1, h2⟩ => ⟨_, _, h1, h2⟩

theorem itoa_small (n : Int) (h0 : -9223372036854775808 ≤ n) (h1 : n ≤ 9223372036854775807) : (⟨(Lib.itoa n).toArray⟩ : ByteArray).size ≤ 1048576 := by
  show (Lib.itoa n).toArray.size ≤ 1048576
  rw [List.size_toArray]
  unfold Lib.itoa
  have hd (u : Nat) (h : u ≤ 9223372036854775808) : (Lib.decDigits u).length ≤ 19 := Parse.decDigits_len 18 u (by omega)
  split
  · have := hd n.natAbs (by omega)
    simp only [List.length_cons]
    first | omega | (simp; omega)
  · have := hd n.toNat (by omega)
    omega
theorem parse_yes (n : Int) (w : World) (h0 : -1000000000 < n) (h1 : n < 1000000000) (ht : Pow w) (hv : Sent w) :
    Calls Tryd.prog 13 #[.string ⟨(Lib.itoa n).toArray⟩] w fun e w' => e = .returned (.tuple #[.int .i64 n, .bool true]) ∧ Below w.heap.size w w' := by
  have := ParseInt.impl_any ⟨(Lib.itoa n).toArray⟩ w (itoa_small n (by omega) (by omega)) ht hv
  have e : ParseInt.ires ⟨(Lib.itoa n).toArray⟩ = some n := by
    unfold ParseInt.ires
    exact parse_in n h0 h1
  rw [e] at this
  exact this
theorem parse_no (n : Int) (w : World) (h0 : -9223372036854775808 ≤ n) (h1 : n ≤ 9223372036854775807) (h : n ≤ -1000000000 ∨ 1000000000 ≤ n) (ht : Pow w) (hv : Sent w) :
    Calls Tryd.prog 13 #[.string ⟨(Lib.itoa n).toArray⟩] w fun e w' => e = .returned (.tuple #[.int .i64 0, .bool false]) ∧ Below w.heap.size w w' := by
  have := ParseInt.impl_any ⟨(Lib.itoa n).toArray⟩ w (itoa_small n h0 h1) ht hv
  have e : ParseInt.ires ⟨(Lib.itoa n).toArray⟩ = none := by
    unfold ParseInt.ires
    exact parse_out n h
  rw [e] at this
  exact this

theorem unhexed (tail : ByteArray) (w : World) (ht : tail.size ≤ 40) :
    Calls Tryd.prog 15 #[.string ⟨(hexL tail.data.toList).toArray⟩] w fun e w' => e = .returned (.tuple #[.string tail, .bool true]) ∧ Below w.heap.size w w' := by
  have := DecodeHex.impl_any ⟨(hexL tail.data.toList).toArray⟩ w (by
    show (hexL tail.data.toList).toArray.size ≤ 1048576
    rw [List.size_toArray, hexL_length, len_eq]
    omega)
  have e : Unhex.hexEnd (Unhex.decH ((⟨(hexL tail.data.toList).toArray⟩ : ByteArray).data.toList)) = .returned (.tuple #[.string tail, .bool true]) := by
    show Unhex.hexEnd (Unhex.decH (hexL tail.data.toList)) = _
    rw [decH_hexL]
    rfl
  rw [e] at this
  exact this

end Go.Proofs.YteaehhidoiiclaaDoor.EncCalls
