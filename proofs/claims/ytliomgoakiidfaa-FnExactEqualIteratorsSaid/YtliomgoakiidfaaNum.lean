/- Plain lemmas on numbers and bytes for chapter 1 (no program in sight). -/
import Derived.WalkKit
import Derived.Below
import Derived.IntWalk
namespace Go.Proofs.Ytliomgoakiidfaa.Num

theorem hid {p : Prop} (h : p) : RowKit.Hid p := h

/-- The number that bytes give, most significant byte first. -/
def decB (l : List UInt8) : Int := l.foldl (fun a c => a * 256 + (c.toNat : Int)) 0

theorem decB_snoc (l : List UInt8) (c : UInt8) : decB (l ++ [c]) = decB l * 256 + (c.toNat : Int) := by
  simp [decB, List.foldl_append]

theorem decB_nonneg (l : List UInt8) : 0 ≤ decB l := by
  suffices h : ∀ (l : List UInt8) (a : Int), 0 ≤ a → 0 ≤ l.foldl (fun a c => a * 256 + (c.toNat : Int)) a from h l 0 (by omega)
  intro l
  induction l with
  | nil => intro a h; simpa using h
  | cons c l ih => intro a h; simp only [List.foldl_cons]; exact ih _ (by omega)

theorem decB_lt (l : List UInt8) : decB l < 256 ^ l.length := by
  suffices h : ∀ (n : Nat) (l : List UInt8), l.length = n → decB l < 256 ^ n from h _ l rfl
  intro n
  induction n with
  | zero => intro l h; obtain rfl := List.eq_nil_of_length_eq_zero h; simp [decB]
  | succ n ih =>
    intro l h
    obtain ⟨l', c, rfl⟩ : ∃ l' c, l = l' ++ [c] := by
      refine ⟨l.dropLast, l.getLast (by intro e; simp [e] at h), ?_⟩
      exact (List.dropLast_concat_getLast _).symm
    have h' : l'.length = n := by simpa using h
    have := ih l' h'
    have hc : (c.toNat : Int) < 256 := by have := c.toNat_lt; omega
    rw [decB_snoc, Int.pow_succ]
    omega

theorem decB_small (l : List UInt8) (h : l.length ≤ 6) : decB l < 281474976710656 := by
  have h1 := decB_lt l
  have h2 : (256 : Int) ^ l.length ≤ 281474976710656 := by
    rcases (by omega : l.length = 0 ∨ l.length = 1 ∨ l.length = 2 ∨ l.length = 3 ∨ l.length = 4 ∨ l.length = 5 ∨ l.length = 6) with e | e | e | e | e | e | e <;> rw [e] <;> decide
  omega

theorem take_snoc (s : ByteArray) (k : Nat) (h : k < s.size) : s.data.toList.take (k + 1) = s.data.toList.take k ++ [s[k]] := by
  rw [List.take_succ_eq_append_getElem (by simpa using h)]; rfl

theorem wrap_small (n : Nat) (h : n < 9223372036854775808) : IntKind.i64.wrap (n : Int) = (n : Int) :=
  IntWalk.i64_in _ (by omega)

theorem ofInt_nat (n : Nat) (h : n < 18446744073709551616) : (BitVec.ofInt 64 (n : Int)).toNat = n := by
  simp
  omega

/-- 'x | y' where the bits of x are all above those of y. -/
theorem or_nat (k a b : Nat) (hb : b < 2 ^ k) (h : 2 ^ k * a + b < 9223372036854775808) :
    bits .or .i64 ((2 ^ k * a : Nat) : Int) (b : Int) = ((2 ^ k * a + b : Nat) : Int) := by
  show IntKind.i64.wrap ((BitVec.ofInt 64 ((2 ^ k * a : Nat) : Int) ||| BitVec.ofInt 64 (b : Int)).toNat : Int) = _
  rw [BitVec.toNat_or, ofInt_nat _ (by omega), ofInt_nat b (by omega), ← Nat.two_pow_add_eq_or_of_lt hb]
  exact wrap_small _ h

theorem or_nat' (k a b : Nat) (hb : b < 2 ^ k) (h : 2 ^ k * a + b < 9223372036854775808) :
    bits .or .i64 (b : Int) ((2 ^ k * a : Nat) : Int) = ((2 ^ k * a + b : Nat) : Int) := by
  show IntKind.i64.wrap ((BitVec.ofInt 64 (b : Int) ||| BitVec.ofInt 64 ((2 ^ k * a : Nat) : Int)).toNat : Int) = _
  rw [BitVec.toNat_or, ofInt_nat b (by omega), ofInt_nat (2 ^ k * a) (by omega), Nat.or_comm, ← Nat.two_pow_add_eq_or_of_lt hb]
  exact wrap_small _ h

theorem or256 (x y : Int) (hx : 0 ≤ x) (hy : 0 ≤ y) (hy2 : y < 256) (h : x < 281474976710656) : bits .or .i64 (x * 256) y = x * 256 + y := by
  obtain ⟨a, rfl⟩ := Int.eq_ofNat_of_zero_le hx
  obtain ⟨b, rfl⟩ := Int.eq_ofNat_of_zero_le hy
  have := or_nat 8 a b (by omega) (by omega)
  have e : ((2 ^ 8 * a : Nat) : Int) = (a : Int) * 256 := by omega
  rw [e] at this
  rw [this]
  omega

/-- A byte of a varint that is not the last one; the last one. -/
def hi7 (m : Nat) : UInt8 := UInt8.ofNat (128 + m % 128)
def lo7 (m : Nat) : UInt8 := UInt8.ofNat m

/-- The varint of m, by fuel. -/
def vint : Nat → Nat → List UInt8
  | 0, m => [lo7 m]
  | f + 1, m => if m < 128 then [lo7 m] else hi7 m :: vint f (m / 128)

theorem vint_last (f m : Nat) (h : m < 128) : vint f m = [lo7 m] := by
  cases f with
  | zero => rfl
  | succ f => simp [vint, h]

theorem vint_more (f m : Nat) (h : ¬ m < 128) : vint (f + 1) m = hi7 m :: vint f (m / 128) := by
  simp [vint, h]

theorem vint_length (f m : Nat) : (vint f m).length ≤ f + 1 := by
  induction f generalizing m with
  | zero => simp [vint]
  | succ f ih =>
    by_cases h : m < 128
    · simp [vint, h]
    · rw [vint_more f m h]; have := ih (m / 128); simp; omega

theorem hi7_int (m : Nat) : (((hi7 m).toNat : Nat) : Int) = 128 + (m : Int) % 128 := by
  simp [hi7]; omega

theorem lo7_int (m : Nat) (h : m < 256) : (((lo7 m).toNat : Nat) : Int) = (m : Int) := by
  simp [lo7]; omega

theorem byte_of (n : Nat) (h : n < 256) : (((UInt8.ofNat n).toNat : Nat) : Int) = (n : Int) := by
  simp; omega

/-- Byte j of n from the end; the last j bytes of n. -/
def byteAt (n j : Nat) : UInt8 := UInt8.ofNat (n / 256 ^ j % 256)
def fixB (n : Nat) : Nat → List UInt8
  | 0 => []
  | j + 1 => byteAt n j :: fixB n j

theorem fixB_length (n j : Nat) : (fixB n j).length = j := by
  induction j with
  | zero => rfl
  | succ j ih => simp [fixB, ih]

theorem byteAt_int (n j x : Nat) (h : x = n / 256 ^ j) : (((byteAt n j).toNat : Nat) : Int) = (x : Int) % 256 := by
  subst h
  simp [byteAt]

theorem div_step (n j x : Nat) (h : x = n / 256 ^ j) : x / 256 = n / 256 ^ (j + 1) := by
  subst h
  rw [Nat.div_div_eq_div_mul, Nat.pow_succ]

theorem str_cons (c : UInt8) (l : List UInt8) : (⟨#[c]⟩ : ByteArray) ++ (⟨l.toArray⟩ : ByteArray) = ⟨(c :: l).toArray⟩ := by
  apply ByteArray.ext
  simp

/-- A hexadecimal digit; the digits of bytes. -/
def hx (n : Nat) : UInt8 := [48, 49, 50, 51, 52, 53, 54, 55, 56, 57, 97, 98, 99, 100, 101, 102].getD n 0
def hexL : List UInt8 → List UInt8
  | [] => []
  | b :: l => hx (b.toNat / 16) :: hx (b.toNat % 16) :: hexL l

theorem hx_at (n : Nat) (h : n < 16) : ({ data := #[48, 49, 50, 51, 52, 53, 54, 55, 56, 57, 97, 98, 99, 100, 101, 102] } : ByteArray)[n] = hx n := by
  have : ∀ n : Fin 16, ({ data := #[48, 49, 50, 51, 52, 53, 54, 55, 56, 57, 97, 98, 99, 100, 101, 102] } : ByteArray)[n.val] = hx n.val := by decide
  exact this ⟨n, h⟩

theorem hexL_snoc (l : List UInt8) (b : UInt8) : hexL (l ++ [b]) = hexL l ++ [hx (b.toNat / 16), hx (b.toNat % 16)] := by
  induction l with
  | nil => rfl
  | cons c l ih => simp [hexL, ih]

theorem hexL_length (l : List UInt8) : (hexL l).length = 2 * l.length := by
  induction l with
  | nil => rfl
  | cons c l ih => simp [hexL, ih]; omega

end Go.Proofs.Ytliomgoakiidfaa.Num
