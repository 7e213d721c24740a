/- Plain lemmas on varints: the number that groups of seven bits give, and when its varint is the very string. -/
import Derived.Test.YteaehhidoiiclaaDoorNum
import Derived.Lib.Strings
namespace Go.Proofs.YteaehhidoiiclaaDoor.Var
set_option linter.unusedVariables false
open Go.Proofs.YteaehhidoiiclaaDoor.Num Go.RowKit

/-- The number whose groups of seven bits are those of the bytes, the first one the least. -/
def val : List UInt8 → Nat
  | [] => 0
  | c :: l => c.toNat % 128 + 128 * val l

theorem val_lt (l : List UInt8) : val l < 128 ^ l.length := by
  induction l with
  | nil => simp [val]
  | cons c l ih => simp only [val, List.length_cons, Nat.pow_succ]; omega

theorem val_snoc (l : List UInt8) (c : UInt8) : val (l ++ [c]) = val l + 128 ^ l.length * (c.toNat % 128) := by
  induction l with
  | nil => simp [val]
  | cons d l ih =>
    simp only [List.cons_append, val, ih, List.length_cons, Nat.pow_succ]
    rw [Nat.mul_add, Nat.add_assoc, Nat.mul_comm (128 ^ l.length) 128, Nat.mul_assoc]

/-- The string's first k bytes are the varint of their number. -/
def Hit (l : List UInt8) : Prop := vint 6 (val l) = l

theorem vint_last_small (f : Nat) : ∀ m, m < 128 ^ (f + 1) → ∃ l c, vint f m = l ++ [c] ∧ c.toNat < 128 ∧ (1 ≤ m → c.toNat ≠ 0) ∧ ∀ d ∈ l, 128 ≤ d.toNat := by
  induction f with
  | zero =>
    intro m h
    have hm : m < 128 := by simpa using h
    exact ⟨[], lo7 m, rfl, by simp [lo7]; omega, by simp [lo7]; omega, by simp⟩
  | succ f ih =>
    intro m h
    by_cases hm : m < 128
    · exact ⟨[], lo7 m, by rw [vint_last _ _ hm]; rfl, by simp [lo7]; omega, by simp [lo7]; omega, by simp⟩
    · have h2 : m / 128 < 128 ^ (f + 1) := by
        rw [Nat.div_lt_iff_lt_mul (by omega)]; rw [Nat.pow_succ] at h; exact h
      obtain ⟨l, c, e, h3, h4, h5⟩ := ih _ h2
      refine ⟨hi7 m :: l, c, by rw [vint_more f m hm, e]; rfl, h3, fun _ => h4 (by omega), ?_⟩
      intro d hd
      rcases List.mem_cons.1 hd with rfl | hd
      · have := hi7_int m; omega
      · exact h5 d hd

theorem val_small (l : List UInt8) (h : l.length ≤ 7) : val l < 128 ^ (6 + 1) :=
  Nat.lt_of_lt_of_le (val_lt l) (Nat.pow_le_pow_right (by omega) h)

/-- No byte below 128: no varint. -/
theorem no_end (l : List UInt8) (h : l.length ≤ 7) (ha : ∀ d ∈ l, 128 ≤ d.toNat) : ¬ Hit l := by
  intro hh
  obtain ⟨l', c, e, h3, _, _⟩ := vint_last_small 6 (val l) (val_small l h)
  have := ha c (by rw [← hh, e]; simp)
  omega

/-- A byte below 128 ahead of the last one: no varint. -/
theorem early_end (l m : List UInt8) (c : UInt8) (hm : m ≠ []) (h : (l ++ c :: m).length ≤ 7) (hc : c.toNat < 128) : ¬ Hit (l ++ c :: m) := by
  intro hh
  obtain ⟨l', c', e, h3, _, h5⟩ := vint_last_small 6 (val (l ++ c :: m)) (val_small _ h)
  unfold Hit at hh
  rw [e] at hh
  have h6 : l' = (l ++ c :: m).dropLast := by rw [← hh]; simp
  have h7 : c ∈ l' := by
    rw [h6, List.dropLast_append_of_ne_nil (by simp)]
    rcases m with _ | ⟨d, m⟩
    · exact absurd rfl hm
    · simp
  have := h5 c h7
  omega

/-- A last byte 0 behind others: no varint. -/
theorem zero_end (l : List UInt8) (c : UInt8) (hl : l ≠ []) (h : (l ++ [c]).length ≤ 7) (hc : c.toNat = 0) : ¬ Hit (l ++ [c]) := by
  intro hh
  obtain ⟨l', c', e, h3, h4, _⟩ := vint_last_small 6 (val (l ++ [c])) (val_small _ h)
  unfold Hit at hh
  rw [e] at hh
  have h6 : c' = c := by
    have := congrArg List.getLast? hh
    simpa using this
  subst h6
  by_cases hv : 1 ≤ val (l ++ [c'])
  · exact h4 hv hc
  · have h0 : val (l ++ [c']) = 0 := by omega
    have h7 : vint 6 (val (l ++ [c'])) = [lo7 0] := by rw [h0]; rfl
    rw [h7] at e
    have h8 := congrArg List.length e
    have h9 := congrArg List.length hh
    have : l.length ≠ 0 := fun h => hl (List.eq_nil_of_length_eq_zero h)
    simp only [List.length_append, List.length_cons, List.length_nil] at h8 h9
    omega

/-- Bytes from 128 on, and a last one below 128 that is not 0 or stands alone: a varint. -/
theorem vint_val (f : Nat) : ∀ (l : List UInt8) (c : UInt8), l.length ≤ f → (∀ d ∈ l, 128 ≤ d.toNat) → c.toNat < 128 → (l = [] ∨ c.toNat ≠ 0) → vint f (val (l ++ [c])) = l ++ [c] := by
  induction f with
  | zero =>
    intro l c h ha hc hz
    obtain rfl := List.eq_nil_of_length_eq_zero (show l.length = 0 by omega)
    have : val ([] ++ [c]) = c.toNat := by simp [val]; omega
    rw [this, vint_last _ _ hc]
    simp [lo7]
  | succ f ih =>
    intro l c h ha hc hz
    rcases l with _ | ⟨d, l⟩
    · have : val ([] ++ [c]) = c.toNat := by simp [val]; omega
      rw [this, vint_last _ _ hc]
      simp [lo7]
    · have hc0 : c.toNat ≠ 0 := by
        rcases hz with h | h
        · cases h
        · exact h
      have hd := ha d (by simp)
      have hd2 := d.toNat_lt
      have hv : val (d :: l ++ [c]) = d.toNat % 128 + 128 * val (l ++ [c]) := rfl
      have hpos : 1 ≤ val (l ++ [c]) := by
        rw [val_snoc]
        have h1 : 1 ≤ 128 ^ l.length := Nat.one_le_pow _ _ (by omega)
        have h2 : 1 ≤ c.toNat % 128 := by omega
        have := Nat.mul_le_mul h1 h2
        omega
      have hm : ¬ val (d :: l ++ [c]) < 128 := by omega
      rw [vint_more f _ hm, show val (d :: l ++ [c]) / 128 = val (l ++ [c]) by omega]
      rw [ih l c (by simpa using h) (fun x hx => ha x (by simp [hx])) hc (Or.inr hc0)]
      have e : hi7 (val (d :: l ++ [c])) = d := by
        apply UInt8.toNat_inj.1
        have := hi7_int (val (d :: l ++ [c]))
        omega
      rw [e]
      rfl

theorem good_end (l : List UInt8) (c : UInt8) (h : l.length ≤ 6) (ha : ∀ d ∈ l, 128 ≤ d.toNat) (hc : c.toNat < 128) (hz : l = [] ∨ c.toNat ≠ 0) : Hit (l ++ [c]) :=
  vint_val 6 l c h ha hc hz

/-- What both decoders answer: the first prefix of 1 to 7 bytes that is a varint, or nothing. -/
def Ans (l : List UInt8) (x k : Nat) : Prop :=
  (x = 0 ∧ k = 0 ∧ ∀ j, 1 ≤ j → j ≤ 7 → j ≤ l.length → ¬ Hit (l.take j)) ∨
  (1 ≤ k ∧ k ≤ 7 ∧ k ≤ l.length ∧ Hit (l.take k) ∧ x = val (l.take k) ∧ ∀ j, 1 ≤ j → j < k → ¬ Hit (l.take j))

theorem Ans.unique {l : List UInt8} {x k x' k' : Nat} (h : Ans l x k) (h' : Ans l x' k') : x = x' ∧ k = k' := by
  rcases h with ⟨a1, a2, a3⟩ | ⟨a1, a2, a3, a4, a5, a6⟩ <;> rcases h' with ⟨b1, b2, b3⟩ | ⟨b1, b2, b3, b4, b5, b6⟩
  · omega
  · exact absurd b4 (a3 k' b1 b2 b3)
  · exact absurd a4 (b3 k a1 a2 a3)
  · have hk : k = k' := by
      rcases Nat.lt_trichotomy k k' with h | h | h
      · exact absurd a4 (b6 k a1 h)
      · exact h
      · exact absurd b4 (a6 k' b1 h)
    subst hk
    exact ⟨by rw [a5, b5], rfl⟩

theorem take_last (l : List UInt8) (k : Nat) (h : k < l.length) : l.take (k + 1) = l.take k ++ [l[k]] := by
  rw [List.take_succ_eq_append_getElem h]

theorem all_more (l : List UInt8) (k : Nat) (h : k < l.length) (ha : ∀ d ∈ l.take k, 128 ≤ d.toNat) (hc : 128 ≤ l[k].toNat) : ∀ d ∈ l.take (k + 1), 128 ≤ d.toNat := by
  rw [take_last l k h]
  intro d hd
  rcases List.mem_append.1 hd with hd | hd
  · exact ha d hd
  · simp at hd; subst hd; exact hc

theorem all_take (l : List UInt8) (k j : Nat) (hj : j ≤ k) (ha : ∀ d ∈ l.take k, 128 ≤ d.toNat) : ∀ d ∈ l.take j, 128 ≤ d.toNat := fun d hd =>
  ha d ((List.take_subset_take_left l hj) hd)

theorem no_before (l : List UInt8) (k : Nat) (hk : k ≤ 7) (ha : ∀ d ∈ l.take k, 128 ≤ d.toNat) (j : Nat) (hj : j ≤ k) : ¬ Hit (l.take j) :=
  no_end _ (by simp; omega) (all_take l k j hj ha)

theorem ans_stop (l : List UInt8) (k : Nat) (h : k = 7 ∨ k = l.length) (hk : k ≤ 7) (ha : ∀ d ∈ l.take k, 128 ≤ d.toNat) : Ans l 0 0 :=
  Or.inl ⟨rfl, rfl, fun j _ h2 h3 => no_before l k hk ha j (by omega)⟩

theorem ans_some (l : List UInt8) (k : Nat) (h : k < l.length) (hk : k < 7) (ha : ∀ d ∈ l.take k, 128 ≤ d.toNat) (hc : l[k].toNat < 128) (hz : k = 0 ∨ l[k].toNat ≠ 0) : Ans l (val (l.take (k + 1))) (k + 1) := by
  refine Or.inr ⟨by omega, by omega, by omega, ?_, rfl, fun j _ hj => no_before l k (by omega) ha j (by omega)⟩
  rw [take_last l k h]
  refine good_end _ _ (by simp; omega) ha hc ?_
  rcases hz with rfl | hz
  · exact Or.inl rfl
  · exact Or.inr hz

theorem ans_zero (l : List UInt8) (k : Nat) (h : k < l.length) (hk : k < 7) (ha : ∀ d ∈ l.take k, 128 ≤ d.toNat) (hc : l[k].toNat = 0) (hk0 : 0 < k) : Ans l 0 0 := by
  refine Or.inl ⟨rfl, rfl, fun j h1 h2 h3 => ?_⟩
  by_cases hj : j ≤ k
  · exact no_before l k (by omega) ha j hj
  · by_cases hj1 : j = k + 1
    · subst hj1
      rw [take_last l k h]
      refine zero_end _ _ ?_ (by simp; omega) hc
      intro e
      have := congrArg List.length e
      rw [List.length_take, List.length_nil] at this
      omega
    · have e : l.take j = l.take k ++ l[k] :: (l.drop (k + 1)).take (j - (k + 1)) := by
        have e1 : l.take j = (l.take (k + 1) ++ l.drop (k + 1)).take j := by rw [List.take_append_drop]
        rw [e1, List.take_append, List.take_take, List.length_take, Nat.min_eq_left (by omega : k + 1 ≤ l.length), Nat.min_eq_right (by omega : k + 1 ≤ j), take_last l k h, List.append_assoc]
        rfl
      rw [e]
      refine early_end _ _ _ ?_ ?_ (by omega)
      · intro e2
        have := congrArg List.length e2
        simp at this
        omega
      · rw [← e]; simp; omega

theorem or_group (l : List UInt8) (k g : Nat) (hk : k < 7) (hl : l.length = k) (hg : g < 128) :
    bits .or .i64 ((val l : Nat) : Int) (RowKit.wrap64 ((g : Int) * 2 ^ (7 * k))) = ((val l + 128 ^ k * g : Nat) : Int) := by
  have hv := val_lt l
  rw [hl] at hv
  have hp : (128 : Nat) ^ k = 2 ^ (7 * k) := by rw [Nat.pow_mul]
  have hb : 2 ^ (7 * k) * (g + 1) ≤ 562949953421312 := by
    have h1 : 2 ^ (7 * k) ≤ 2 ^ 42 := Nat.pow_le_pow_right (by omega) (by omega)
    have := Nat.mul_le_mul h1 (show g + 1 ≤ 128 by omega)
    omega
  rw [Nat.mul_add, Nat.mul_one] at hb
  rw [hp] at hv ⊢
  have e1 : (g : Int) * 2 ^ (7 * k) = ((2 ^ (7 * k) * g : Nat) : Int) := by
    rw [Nat.mul_comm (2 ^ (7 * k)) g]
    simp only [Int.natCast_mul, Int.natCast_pow]
    rfl
  rw [e1]
  have e2 : RowKit.wrap64 ((2 ^ (7 * k) * g : Nat) : Int) = ((2 ^ (7 * k) * g : Nat) : Int) := IntWalk.wrap64_in _ (by omega)
  rw [e2, or_nat' (7 * k) g (val l) hv (by omega), Nat.add_comm]

theorem len_eq (s : ByteArray) : s.data.toList.length = s.size := by simp
theorem byte_eq (s : ByteArray) (k : Nat) (_h : k < s.size) (h' : k < s.data.toList.length) : s.data.toList[k] = s[k] := by
  simp; rfl

/-- The bytes of s as a decoder's answer. -/
def SAns (s : ByteArray) (x k : Nat) : Prop := Ans s.data.toList x k
/-- The first k bytes are from 128 on. -/
def High (s : ByteArray) (k : Nat) : Prop := ∀ d ∈ s.data.toList.take k, 128 ≤ d.toNat
def sval (s : ByteArray) (k : Nat) : Nat := val (s.data.toList.take k)

theorem high_zero (s : ByteArray) : High s 0 := by intro d hd; simp at hd
theorem high_more (s : ByteArray) (k : Nat) (h : k < s.size) (ha : High s k) (hc : 128 ≤ ((s[k].toNat : Nat) : Int)) : High s (k + 1) :=
  all_more _ k (by simpa using h) ha (by rw [byte_eq s k h]; omega)
theorem sval_zero (s : ByteArray) : sval s 0 = 0 := by simp [sval, val]
theorem sval_or (s : ByteArray) (k : Nat) (h : k < s.size) (hk : k < 7) :
    bits .or .i64 ((sval s k : Nat) : Int) (RowKit.wrap64 (((s[k].toNat : Nat) : Int) % 128 * 2 ^ (7 * k))) = ((sval s (k + 1) : Nat) : Int) := by
  have h1 : k < s.data.toList.length := by simpa using h
  have := or_group (s.data.toList.take k) k (s[k].toNat % 128) hk (by rw [List.length_take]; omega) (by omega)
  unfold sval
  rw [take_last _ k h1, val_snoc, List.length_take, Nat.min_eq_left (by omega), byte_eq s k h]
  rw [← this]
  rfl
theorem sans_stop (s : ByteArray) (k : Nat) (h : k = 7 ∨ k = s.size) (hk : k ≤ 7) (ha : High s k) : SAns s 0 0 := ans_stop _ k (by rw [len_eq]; exact h) hk ha
theorem sans_some (s : ByteArray) (k : Nat) (h : k < s.size) (hk : k < 7) (ha : High s k) (hc : ((s[k].toNat : Nat) : Int) < 128) (hz : k = 0 ∨ ¬ ((s[k].toNat : Nat) : Int) % 128 = 0) : SAns s (sval s (k + 1)) (k + 1) :=
  ans_some _ k (by simpa using h) hk ha (by rw [byte_eq s k h]; omega) (by rw [byte_eq s k h]; omega)
theorem sans_zero (s : ByteArray) (k : Nat) (h : k < s.size) (hk : k < 7) (ha : High s k) (hc : ((s[k].toNat : Nat) : Int) < 128) (hz : ((s[k].toNat : Nat) : Int) % 128 = 0) (h0 : 0 < k) : SAns s 0 0 :=
  ans_zero _ k (by simpa using h) hk ha (by rw [byte_eq s k h]; omega) h0

/-- The number of bytes m to k of s. -/
def mval (s : ByteArray) (k m : Nat) : Nat := val ((s.data.toList.take k).drop m)
def NoHit (s : ByteArray) (k : Nat) : Prop := ∀ j, 1 ≤ j → j < k → ¬ Hit (s.data.toList.take j)

theorem mval_end (s : ByteArray) (k : Nat) : mval s k k = 0 := by
  unfold mval
  rw [List.drop_eq_nil_of_le (by simp; omega)]
  rfl
theorem mval_step (s : ByteArray) (k m : Nat) (hm : m < k) (hk : k ≤ s.size) (h : m < s.size) : ((mval s k m : Nat) : Int) = ((mval s k (m + 1) : Nat) : Int) * 128 + ((s[m].toNat : Nat) : Int) % 128 := by
  unfold mval
  have h1 : m < (s.data.toList.take k).length := by rw [List.length_take, len_eq]; omega
  rw [List.drop_eq_getElem_cons h1, val]
  have e : (s.data.toList.take k)[m] = s[m] := by
    rw [List.getElem_take, byte_eq s m h]
  rw [e]
  omega
theorem mval_lt (s : ByteArray) (k m : Nat) (hk : k ≤ 7) (hm : 1 ≤ m) : mval s k m < 4398046511104 := by
  have h := val_lt ((s.data.toList.take k).drop m)
  have h2 : ((s.data.toList.take k).drop m).length ≤ 6 := by simp; omega
  have h3 : (128 : Nat) ^ ((s.data.toList.take k).drop m).length ≤ 128 ^ 6 := Nat.pow_le_pow_right (by omega) h2
  unfold mval
  omega
theorem mval_max (s : ByteArray) (k m : Nat) (hk : k ≤ 7) : mval s k m ≤ 562949953421311 := by
  have h := val_lt ((s.data.toList.take k).drop m)
  have h2 : ((s.data.toList.take k).drop m).length ≤ 7 := by simp; omega
  have h3 : (128 : Nat) ^ ((s.data.toList.take k).drop m).length ≤ 128 ^ 7 := Nat.pow_le_pow_right (by omega) h2
  unfold mval
  omega
theorem noHit_one (s : ByteArray) : NoHit s 1 := fun j h1 h2 => by omega
theorem noHit_more (s : ByteArray) (k : Nat) (h : NoHit s k) (hk : ¬ Hit (s.data.toList.take k)) : NoHit s (k + 1) := fun j h1 h2 => by
  by_cases e : j = k
  · subst e; exact hk
  · exact h j h1 (by omega)
theorem sans_hit (s : ByteArray) (k : Nat) (h1 : 1 ≤ k) (h7 : k ≤ 7) (hk : k ≤ s.size) (h : NoHit s k) (hh : Hit (s.data.toList.take k)) : SAns s (mval s k 0) k :=
  Or.inr ⟨h1, h7, by rw [len_eq]; exact hk, hh, by unfold mval; simp, h⟩
theorem sans_none (s : ByteArray) (k : Nat) (hk : 7 < k ∨ s.size < k) (h : NoHit s k) : SAns s 0 0 :=
  Or.inl ⟨rfl, rfl, fun j h1 h2 h3 => h j h1 (by rw [len_eq] at h3; omega)⟩

theorem hit_of (s : ByteArray) (k : Nat) (h : (vint 6 (mval s k 0) == (s.extract 0 k).toList) = true) : Hit (s.data.toList.take k) := by
  have := eq_of_beq h
  rw [Lib.extract_toList] at this
  simpa [mval, Hit] using this
theorem hit_not (s : ByteArray) (k : Nat) (h : (vint 6 (mval s k 0) == (s.extract 0 k).toList) = false) : ¬ Hit (s.data.toList.take k) := by
  intro hh
  have : vint 6 (mval s k 0) = (s.extract 0 k).toList := by
    rw [Lib.extract_toList]
    simpa [mval, Hit] using hh
  rw [this] at h
  simp at h

end Go.Proofs.YteaehhidoiiclaaDoor.Var
