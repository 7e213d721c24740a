/- Plain lemmas: the model's way of reading a rational and strings.Cut's and strconv.Atoi's: both give back what a format wrote. -/
import Derived.Test.YtgpdnleooeekbaaDoorRat
import Derived.Test.YtgpdnleooeekbaaDoorDec
import Derived.Lib.AtoiAll
import Derived.Lib.Strings
import Derived.Lib.IndexMore
namespace Go.Proofs.YtgpdnleooeekbaaDoor.ReadR
open Go.RowKit
open Go.Proofs.YtgpdnleooeekbaaDoor.Num Go.Proofs.YtgpdnleooeekbaaDoor.Rat Go.Proofs.YtgpdnleooeekbaaDoor.Dec
set_option linter.unusedVariables false

theorem dg_nat (u : Nat) : (dg u).toNat = 48 + u % 10 := by
  have := dg_int u
  omega
theorem dd_all (u : Nat) : ∀ d ∈ Lib.decDigits u, 48 ≤ d.toNat ∧ d.toNat ≤ 57 := by
  induction u using Nat.strongRecOn with
  | _ u ih =>
    by_cases h : u < 10
    · rw [dd_small u h]
      intro d hd
      simp at hd
      subst hd
      have := dg_nat u
      omega
    · rw [dd_step u h]
      intro d hd
      rcases List.mem_append.1 hd with hd | hd
      · exact ih (u / 10) (by omega) d hd
      · simp at hd
        subst hd
        have := dg_nat u
        omega
theorem dd_ne (u : Nat) : Lib.decDigits u ≠ [] := by
  by_cases h : u < 10
  · rw [dd_small u h]; simp
  · rw [dd_step u h]; simp

/-! strconv's reading -/
theorem parse_snoc (c : UInt8) (d m : Nat) (hc : c.toNat = 48 + d) (hd : d < 10) (hm : m * 10 + d < 1000000000000000000) :
    ∀ (l : List UInt8) (acc : Nat), Lib.parseUint10 acc l = .ok m → Lib.parseUint10 acc (l ++ [c]) = .ok (m * 10 + d)
  | [], acc, h => by
    simp only [Lib.parseUint10] at h
    injection h with h
    subst h
    simp only [List.nil_append, Lib.parseUint10]
    rw [if_pos (by omega), if_neg (by omega), if_neg (by omega)]
    congr 1
    omega
  | b :: l, acc, h => by
    simp only [Lib.parseUint10] at h
    simp only [List.cons_append, Lib.parseUint10]
    split at h
    · rename_i h1
      rw [if_pos h1]
      split at h
      · cases h
      · rename_i h2
        rw [if_neg h2]
        split at h
        · cases h
        · rename_i h3
          rw [if_neg h3]
          exact parse_snoc c d m hc hd hm l _ h
    · cases h
theorem parse_digits (u : Nat) (hu : u < 1000000000000000000) : Lib.parseUint10 0 (Lib.decDigits u) = .ok u := by
  induction u using Nat.strongRecOn with
  | _ u ih =>
    have hd := dg_nat u
    by_cases h : u < 10
    · rw [dd_small u h]
      have := parse_snoc (dg u) u 0 (by omega) h (by omega) [] 0 rfl
      simpa using this
    · rw [dd_step u h]
      have := parse_snoc (dg u) (u % 10) (u / 10) (by omega) (by omega) (by omega) _ 0 (ih (u / 10) (by omega) (by omega))
      rw [this]
      congr 1
      omega
theorem atoi_itoa (v : Int) (h0 : -1000000000 ≤ v) (h1 : v ≤ 1000000000) : Lib.atoiAll (Lib.itoa v) = .ok v := by
  by_cases hn : v < 0
  · obtain ⟨u, rfl⟩ : ∃ u : Nat, v = -(u : Int) := ⟨v.natAbs, by omega⟩
    rw [itoa_neg' u (by omega)]
    have hp : Lib.parseMag (Lib.decDigits u) = .ok u := by
      unfold Lib.parseMag
      rw [if_neg (dd_ne u), parse_digits u (by omega)]
    simp [Lib.atoiAll, hp]
    omega
  · obtain ⟨u, rfl⟩ := Int.eq_ofNat_of_zero_le (show 0 ≤ v by omega)
    rw [itoa_nat]
    have hp : Lib.parseMag (Lib.decDigits u) = .ok u := by
      unfold Lib.parseMag
      rw [if_neg (dd_ne u), parse_digits u (by omega)]
    have ha := dd_all u
    cases hl : Lib.decDigits u with
    | nil => exact absurd hl (dd_ne u)
    | cons c r =>
      have hc := ha c (by rw [hl]; simp)
      rw [hl] at hp
      have n1 : ¬ (c.toNat = 43 ∨ c.toNat = 45) := by omega
      have n2 : ¬ c.toNat = 45 := by omega
      unfold Lib.atoiAll
      simp only []
      rw [if_neg n1, hp]
      simp only []
      rw [if_neg (by omega), if_neg (by omega), if_neg n2]

/-! the model's reading of a number -/
def val (l : List UInt8) : Nat := l.foldl (fun a c => a * 10 + (c.toNat - 48)) 0
def isD (c : UInt8) : Bool := decide (48 ≤ c.toNat) && decide (c.toNat ≤ 57)
theorem isD_true {c : UInt8} (h : isD c = true) : 48 ≤ c.toNat ∧ c.toNat ≤ 57 := by
  simpa [isD] using h
theorem isD_mk {c : UInt8} (h0 : 48 ≤ c.toNat) (h1 : c.toNat ≤ 57) : isD c = true := by
  simp [isD, h0, h1]
theorem val_snoc (l : List UInt8) (c : UInt8) : val (l ++ [c]) = val l * 10 + (c.toNat - 48) := by
  simp [val, List.foldl_append]
theorem val_digits (u : Nat) : val (Lib.decDigits u) = u := by
  induction u using Nat.strongRecOn with
  | _ u ih =>
    have hd := dg_nat u
    by_cases h : u < 10
    · rw [dd_small u h]
      simp only [val, List.foldl_cons, List.foldl_nil]
      omega
    · rw [dd_step u h, val_snoc, ih (u / 10) (by omega)]
      omega
theorem val_lt (n : Nat) : ∀ l : List UInt8, l.length = n → l.all isD = true → val l < 10 ^ n := by
  induction n with
  | zero =>
    intro l h _
    obtain rfl := List.eq_nil_of_length_eq_zero h
    simp [val]
  | succ n ih =>
    intro l h ha
    obtain ⟨l', c, rfl⟩ : ∃ l' c, l = l' ++ [c] := by
      refine ⟨l.dropLast, l.getLast (by intro e; simp [e] at h), ?_⟩
      exact (List.dropLast_concat_getLast _).symm
    have h' : l'.length = n := by simpa using h
    rw [List.all_append, Bool.and_eq_true] at ha
    have hc : isD c = true := by simpa using ha.2
    have hc' := isD_true hc
    have hv := ih l' h' ha.1
    rw [val_snoc, Nat.pow_succ]
    omega
/-- What the model makes of the digits: 0 where there are too many, or where one of them is none. -/
def mag (t : List UInt8) : Nat := if t.length < 12 ∧ t.all isD = true then val t else 0
def l2 (l : List UInt8) : Int := if l.head? = some 45 then -((mag l.tail : Nat) : Int) else ((mag l : Nat) : Int)
theorem mag_lt (t : List UInt8) : mag t < 100000000000 := by
  unfold mag
  split
  · rename_i h
    have := val_lt _ t rfl h.2
    have : 10 ^ t.length ≤ 10 ^ 11 := Nat.pow_le_pow_right (by omega) (by omega)
    omega
  · omega
theorem l2_bd (l : List UInt8) : -100000000000 < l2 l ∧ l2 l < 100000000000 := by
  unfold l2
  have h1 := mag_lt l
  have h2 := mag_lt l.tail
  split <;> omega
theorem mag_digits (u : Nat) (h : u < 10000000000) : mag (Lib.decDigits u) = u := by
  have hl := dd_length 9 u (by omega)
  unfold mag
  rw [if_pos, val_digits]
  refine ⟨by omega, ?_⟩
  rw [List.all_eq_true]
  intro d hd
  obtain ⟨a, b⟩ := dd_all u d hd
  exact isD_mk a b
theorem l2_itoa (v : Int) (h0 : -1000000000 ≤ v) (h1 : v ≤ 1000000000) : l2 (Lib.itoa v) = v := by
  by_cases hn : v < 0
  · obtain ⟨u, rfl⟩ : ∃ u : Nat, v = -(u : Int) := ⟨v.natAbs, by omega⟩
    rw [itoa_neg' u (by omega)]
    unfold l2
    rw [if_pos (by rfl), List.tail_cons, mag_digits u (by omega)]
  · obtain ⟨u, rfl⟩ := Int.eq_ofNat_of_zero_le (show 0 ≤ v by omega)
    rw [itoa_nat]
    unfold l2
    rw [if_neg, mag_digits u (by omega)]
    intro hh
    have ha := dd_all u
    cases hl2 : Lib.decDigits u with
    | nil => exact absurd hl2 (dd_ne u)
    | cons c r =>
      rw [hl2] at hh
      simp at hh
      have hc := ha c (by rw [hl2]; simp)
      rw [hh] at hc
      exact absurd hc.1 (by decide)

/-! the cut at the first '/' -/
/-- How far the model's index goes. -/
def at47 : List UInt8 → Nat
  | [] => 0
  | c :: r => if c = 47 then 0 else at47 r + 1
theorem at47_le : ∀ l : List UInt8, at47 l ≤ l.length
  | [] => Nat.le_refl _
  | c :: r => by
    unfold at47
    split
    · simp
    · have := at47_le r
      simp; omega
theorem at47_no : ∀ l : List UInt8, (∀ c ∈ l, c ≠ 47) → at47 l = l.length
  | [], _ => rfl
  | c :: r, h => by
    unfold at47
    rw [if_neg (h c (by simp)), at47_no r (fun d hd => h d (by simp [hd]))]
    rfl
theorem at47_app : ∀ (l r : List UInt8), (∀ c ∈ l, c ≠ 47) → at47 (l ++ 47 :: r) = l.length
  | [], r, _ => by simp [at47]
  | c :: l, r, h => by
    rw [List.cons_append]
    unfold at47
    rw [if_neg (h c (by simp)), at47_app l r (fun d hd => h d (by simp [hd]))]
    rfl
theorem index47 : ∀ l : List UInt8, Lib.index l [47] = if at47 l < l.length then ((at47 l : Nat) : Int) else -1
  | [] => by simp [Lib.index, at47]
  | c :: r => by
    unfold Lib.index at47
    by_cases hc : c = 47
    · subst hc
      simp
    · have h1 : ([47] : List UInt8).isPrefixOf (c :: r) = false := by simp [List.isPrefixOf]; exact fun e => hc e.symm
      rw [h1, if_neg hc, index47 r]
      simp only [Bool.false_eq_true, if_false]
      by_cases h2 : at47 r < r.length
      · have h3 : at47 r + 1 < (c :: r).length := by simp; omega
        have h4 : (((at47 r : Nat) : Int) == -1) = false := by rw [beq_eq_false_iff_ne]; omega
        rw [if_pos h2, if_pos h3, h4]
        simp
      · have h3 : ¬ at47 r + 1 < (c :: r).length := by simp; omega
        rw [if_neg h2, if_neg h3]
        rfl
theorem cut47 (l : List UInt8) : Lib.cut l [47] = if at47 l < l.length then (l.take (at47 l), l.drop (at47 l + 1), true) else (l, [], false) := by
  unfold Lib.cut
  rw [index47 l]
  by_cases h : at47 l < l.length
  · rw [if_pos h, if_pos (by omega), if_pos h]
    simp
  · rw [if_neg h, if_neg (by omega), if_neg h]

/-! the formats' text -/
def fmtL (x y : Int) : List UInt8 := if vr x y = true then (if y = 1 then Lib.itoa x else Lib.itoa x ++ 47 :: Lib.itoa y) else []
/-- The model's reading. -/
def mr (l : List UInt8) : Int × Int := (l2 (l.take (at47 l)), if at47 l < l.length then l2 (l.drop (at47 l + 1)) else 1)
theorem itoa_no47 (v : Int) : ∀ c ∈ Lib.itoa v, c ≠ 47 := by
  by_cases hn : v < 0
  · obtain ⟨u, rfl⟩ : ∃ u : Nat, v = -(u : Int) := ⟨v.natAbs, by omega⟩
    rw [itoa_neg' u (by omega)]
    intro c hc e
    subst e
    rcases List.mem_cons.1 hc with h | h
    · exact absurd h (by decide)
    · exact absurd (dd_all u _ h).1 (by decide)
  · obtain ⟨u, rfl⟩ := Int.eq_ofNat_of_zero_le (show 0 ≤ v by omega)
    rw [itoa_nat]
    intro c hc e
    subst e
    exact absurd (dd_all u _ hc).1 (by decide)
theorem mr_fmt (x y : Int) (h : vr x y = true) : mr (fmtL x y) = (x, y) := by
  obtain ⟨a0, a1, a2, a3, _⟩ := vr_true h
  unfold fmtL
  rw [if_pos h]
  by_cases h1 : y = 1
  · rw [if_pos h1]
    unfold mr
    rw [at47_no _ (itoa_no47 x), if_neg (by omega), List.take_length, l2_itoa x (by omega) (by omega), h1]
  · rw [if_neg h1]
    unfold mr
    rw [at47_app _ _ (itoa_no47 x), if_pos (by simp), List.take_left', l2_itoa x (by omega) (by omega)]
    · have : (Lib.itoa x ++ 47 :: Lib.itoa y).drop ((Lib.itoa x).length + 1) = Lib.itoa y := by
        rw [List.drop_append]; simp
      rw [this, l2_itoa y (by omega) (by omega)]
    · rfl
/-- The program's reading: what lies on the two sides of the cut, '1' where there is none. -/
def sides (l : List UInt8) : List UInt8 × List UInt8 := if at47 l < l.length then (l.take (at47 l), l.drop (at47 l + 1)) else (l, [49])
theorem sides_fmt (x y : Int) (h : vr x y = true) : Lib.atoiAll (sides (fmtL x y)).1 = .ok x ∧ Lib.atoiAll (sides (fmtL x y)).2 = .ok y := by
  obtain ⟨a0, a1, a2, a3, _⟩ := vr_true h
  unfold fmtL
  rw [if_pos h]
  by_cases h1 : y = 1
  · rw [if_pos h1]
    unfold sides
    rw [at47_no _ (itoa_no47 x), if_neg (by omega), h1]
    exact ⟨atoi_itoa x (by omega) (by omega), show Lib.atoiAll [49] = .ok 1 by decide⟩
  · rw [if_neg h1]
    unfold sides
    rw [at47_app _ _ (itoa_no47 x), if_pos (by simp)]
    have e1 : (Lib.itoa x ++ 47 :: Lib.itoa y).take (Lib.itoa x).length = Lib.itoa x := by simp
    have e2 : (Lib.itoa x ++ 47 :: Lib.itoa y).drop ((Lib.itoa x).length + 1) = Lib.itoa y := by
      rw [List.drop_append]; simp
    exact ⟨by rw [e1]; exact atoi_itoa x (by omega) (by omega), by rw [e2]; exact atoi_itoa y (by omega) (by omega)⟩

/-- The rational whose text this is, if there is one. -/
def good (l : List UInt8) : Option (Int × Int) := if l ≠ [] ∧ fmtL (mr l).1 (mr l).2 = l then some (mr l) else none
theorem good_none {l : List UInt8} (h : good l = none) (x y : Int) (hl : l ≠ []) : fmtL x y ≠ l := by
  intro e
  have hv : vr x y = true := by
    cases h' : vr x y
    · unfold fmtL at e
      rw [h'] at e
      exact absurd e.symm hl
    · rfl
  have hm := mr_fmt x y hv
  rw [e] at hm
  unfold good at h
  rw [if_pos ⟨hl, by rw [hm]; exact e⟩] at h
  cases h
theorem good_some {l : List UInt8} {x y : Int} (h : good l = some (x, y)) : l ≠ [] ∧ fmtL x y = l ∧ vr x y = true ∧ mr l = (x, y) ∧ Lib.atoiAll (sides l).1 = .ok x ∧ Lib.atoiAll (sides l).2 = .ok y := by
  unfold good at h
  split at h
  · rename_i h1
    obtain ⟨h1, h2⟩ := h1
    have hm : mr l = (x, y) := Option.some.inj h
    rw [hm] at h2
    have hv : vr x y = true := by
      cases h' : vr x y
      · unfold fmtL at h2
        rw [h'] at h2
        exact absurd h2.symm h1
      · rfl
    have hs := sides_fmt x y hv
    rw [show fmtL x y = l from h2] at hs
    exact ⟨h1, h2, hv, hm, hs.1, hs.2⟩
  · cases h
theorem good_nil : good [] = none := by
  unfold good
  rw [if_neg (fun h => h.1 rfl)]

/-! of a Go string -/
theorem byte_eq (s : ByteArray) (k : Nat) (h : k < s.size) (h' : k < s.data.toList.length) : s.data.toList[k] = s[k] := by
  simp; rfl
def rv (t : ByteArray) (j : Nat) : Nat := val (t.data.toList.take j)
def PD (t : ByteArray) (j : Nat) : Prop := (t.data.toList.take j).all isD = true
theorem rv_zero (t : ByteArray) : rv t 0 = 0 := rfl
theorem pd_zero (t : ByteArray) : PD t 0 := rfl
theorem rv_bound (t : ByteArray) (j : Nat) (hj : j ≤ 11) (h : PD t j) : rv t j < 100000000000 := by
  have := val_lt _ _ rfl h
  have h2 : (t.data.toList.take j).length ≤ 11 := by simp; omega
  have : 10 ^ (t.data.toList.take j).length ≤ 10 ^ 11 := Nat.pow_le_pow_right (by omega) h2
  unfold rv
  omega
theorem rv_step (t : ByteArray) (j : Nat) (h : j < t.size) (hP : PD t j) (h1 : 48 ≤ ((t[j].toNat : Nat) : Int)) (h2 : ((t[j].toNat : Nat) : Int) ≤ 57) :
    ((rv t (j + 1) : Nat) : Int) = (rv t j : Int) * 10 + ((t[j].toNat : Nat) : Int) - 48 ∧ PD t (j + 1) := by
  unfold rv PD
  rw [take_snoc t j h, val_snoc, List.all_append]
  refine ⟨by omega, ?_⟩
  unfold PD at hP
  rw [hP, Bool.true_and]
  simp only [List.all_cons, List.all_nil, Bool.and_true]
  exact isD_mk (by omega) (by omega)
theorem mag_bad (t : ByteArray) (j : Nat) (h : j < t.size) (h1 : ((t[j].toNat : Nat) : Int) < 48 ∨ 57 < ((t[j].toNat : Nat) : Int)) : mag t.data.toList = 0 := by
  unfold mag
  rw [if_neg]
  intro hh
  have h3 := List.all_eq_true.1 hh.2 t[j] (by rw [← byte_eq t j h (by simpa using h)]; exact List.getElem_mem _)
  have := isD_true h3
  omega
theorem mag_end (t : ByteArray) (j : Nat) (hj : j = t.size) (h : t.size < 12) (hP : PD t j) : mag t.data.toList = rv t j := by
  have e : t.data.toList.take j = t.data.toList := List.take_of_length_le (by rw [hj]; exact Nat.le_of_eq (by simp))
  unfold PD at hP
  rw [e] at hP
  unfold mag rv
  rw [e, if_pos ⟨by have : t.data.toList.length = t.size := (by simp); omega, hP⟩]
theorem mag_long (t : ByteArray) (h : ¬ t.size < 12) : mag t.data.toList = 0 := by
  unfold mag
  rw [if_neg]
  have : t.data.toList.length = t.size := (by simp)
  omega
theorem head_of (s : ByteArray) (h : 0 < s.size) : s.data.toList.head? = some s[0] := by
  have h1 : 0 < s.data.toList.length := by simpa using h
  rw [List.head?_eq_getElem?, List.getElem?_eq_getElem h1, byte_eq s 0 h]
theorem l2_minus (s : ByteArray) (h : 0 < s.size) (hc : (((s[0].toNat : Nat) : Int) == 45) = true) : l2 s.data.toList = -((mag s.data.toList.tail : Nat) : Int) := by
  unfold l2
  rw [if_pos]
  rw [head_of s h]
  have := eq_of_beq hc
  congr 1
  apply UInt8.toNat_inj.1
  show s[0].toNat = 45
  omega
theorem l2_plus (s : ByteArray) (h : 0 < s.size) (hc : (((s[0].toNat : Nat) : Int) == 45) = false) : l2 s.data.toList = ((mag s.data.toList : Nat) : Int) := by
  unfold l2
  rw [if_neg]
  rw [head_of s h]
  intro hh
  injection hh with hh
  rw [hh] at hc
  exact absurd hc (by decide)
theorem l2_none (s : ByteArray) (h : s.size = 0) : l2 s.data.toList = 0 := by
  have e : s.data.toList = [] := List.eq_nil_of_length_eq_zero (by simpa using h)
  rw [e]
  decide
theorem tail_of (s : ByteArray) : (s.extract 1 s.size).data.toList = s.data.toList.tail := by
  have : s.data.toList.length = s.size := (by simp)
  simp
  rw [List.take_of_length_le (by simp)]

/-! the walk of the index, and the text's two parts -/
theorem at47_step : ∀ (l : List UInt8) (j : Nat) (h : j < l.length), j ≤ at47 l → l[j] ≠ 47 → j + 1 ≤ at47 l
  | c :: r, 0, h, _, hn => by
    unfold at47
    rw [if_neg (by simpa using hn)]
    omega
  | c :: r, j + 1, h, hle, hn => by
    by_cases hc : c = 47
    · unfold at47 at hle
      rw [if_pos hc] at hle
      omega
    · unfold at47 at hle ⊢
      rw [if_neg hc] at hle ⊢
      have := at47_step r j (by simpa using h) (by omega) (by simpa using hn)
      omega
theorem at47_stop : ∀ (l : List UInt8) (j : Nat) (h : j < l.length), j ≤ at47 l → l[j] = 47 → at47 l = j
  | c :: r, 0, h, _, hn => by
    unfold at47
    rw [if_pos (by simpa using hn)]
  | c :: r, j + 1, h, hle, hn => by
    by_cases hc : c = 47
    · unfold at47 at hle
      rw [if_pos hc] at hle
      omega
    · unfold at47 at hle ⊢
      rw [if_neg hc] at hle ⊢
      rw [at47_stop r j (by simpa using h) (by omega) (by simpa using hn)]
def ix (s : ByteArray) : Nat := at47 s.data.toList
theorem size_of (s : ByteArray) : s.data.toList.length = s.size := by simp
theorem ix_le (s : ByteArray) : ix s ≤ s.size := by rw [← size_of]; exact at47_le _
theorem ix_step (s : ByteArray) (j : Nat) (h : j < s.size) (hle : j ≤ ix s) (hc : (((s[j].toNat : Nat) : Int) == 47) = false) : j + 1 ≤ ix s := by
  refine at47_step _ j (by rw [size_of]; exact h) hle ?_
  rw [byte_eq s j h]
  intro e
  rw [e] at hc
  exact absurd hc (by decide)
theorem ix_stop (s : ByteArray) (j : Nat) (h : j < s.size) (hle : j ≤ ix s) (hc : (((s[j].toNat : Nat) : Int) == 47) = true) : ix s = j := by
  refine at47_stop _ j (by rw [size_of]; exact h) hle ?_
  rw [byte_eq s j h]
  have := eq_of_beq hc
  apply UInt8.toNat_inj.1
  show s[j].toNat = 47
  omega
theorem head_part (s : ByteArray) (k : Nat) : (s.extract 0 k).data.toList = s.data.toList.take k := by
  simp
theorem tail_part (s : ByteArray) (k : Nat) : (s.extract k s.size).data.toList = s.data.toList.drop k := by
  simp
  rw [List.take_of_length_le (by simp)]
theorem mr_some (s : ByteArray) (h : ix s < s.size) : mr s.data.toList = (l2 (s.extract 0 (ix s)).data.toList, l2 (s.extract (ix s + 1) s.size).data.toList) := by
  unfold mr
  rw [if_pos (by rw [size_of]; exact h), head_part, tail_part]
  rfl
theorem mr_none (s : ByteArray) (h : ix s = s.size) : mr s.data.toList = (l2 (s.extract 0 s.size).data.toList, 1) := by
  unfold mr
  rw [if_neg (by rw [size_of]; exact fun hh => absurd h (Nat.ne_of_lt hh)), head_part]
  have : at47 s.data.toList = s.size := h
  rw [this]
theorem str_true {l : List UInt8} {s : ByteArray} (h : l = s.data.toList) : (l == s.toList) = true := by
  rw [Lib.toList_data]
  simpa using h
theorem str_false {l : List UInt8} {s : ByteArray} (h : ¬ l = s.data.toList) : (l == s.toList) = false := by
  rw [Lib.toList_data]
  simpa using h
theorem good_mk {l : List UInt8} (h0 : l ≠ []) (h : fmtL (mr l).1 (mr l).2 = l) : good l = some (mr l) := by
  unfold good
  rw [if_pos ⟨h0, h⟩]
theorem good_not {l : List UInt8} (h : fmtL (mr l).1 (mr l).2 ≠ l ∨ l = []) : good l = none := by
  unfold good
  rw [if_neg]
  intro hh
  rcases h with h | h
  · exact h hh.2
  · exact hh.1 h
theorem sides_ne {l : List UInt8} {v : Int} (h : Lib.atoiAll (sides l).1 = .ok v) : l ≠ [] := by
  intro e
  subst e
  exact absurd h (by show Lib.atoiAll [] ≠ .ok v; simp [Lib.atoiAll])
theorem good_of {l : List UInt8} {x y : Int} (hl : l ≠ []) (e : fmtL x y = l) : good l = some (x, y) := by
  have hv : vr x y = true := by
    cases h' : vr x y
    · unfold fmtL at e
      rw [h'] at e
      exact absurd e.symm hl
    · rfl
  have hm := mr_fmt x y hv
  rw [e] at hm
  rw [good_mk hl (by rw [hm]; exact e), hm]
theorem good_yes {l : List UInt8} {x y : Int} (hA : Lib.atoiAll (sides l).1 = .ok x) (he : fmtL x y = l) : good l = some (x, y) :=
  good_of (sides_ne hA) he
theorem good_no2 {l : List UInt8} {x y : Int} (hA : Lib.atoiAll (sides l).1 = .ok x) (hB : Lib.atoiAll (sides l).2 = .ok y) (he : ¬ fmtL x y = l) : good l = none := by
  cases h : good l with
  | none => rfl
  | some v =>
    obtain ⟨x', y'⟩ := v
    obtain ⟨_, h1, _, _, h2, h3⟩ := good_some h
    rw [hA] at h2
    rw [hB] at h3
    injection h2 with h2
    injection h3 with h3
    subst h2 h3
    exact absurd h1 he
theorem good_no {l : List UInt8} (h : (∀ v, Lib.atoiAll (sides l).1 ≠ .ok v) ∨ (∀ v, Lib.atoiAll (sides l).2 ≠ .ok v)) : good l = none := by
  cases h' : good l with
  | none => rfl
  | some v =>
    obtain ⟨x', y'⟩ := v
    obtain ⟨_, _, _, _, h2, h3⟩ := good_some h'
    rcases h with h | h
    · exact absurd h2 (h _)
    · exact absurd h3 (h _)
/-- How both programs end. -/
def endR : Option (Int × Int) → Ending
  | some (x, y) => .returned (.tuple #[.agg #[.int .i64 x, .int .i64 y], .bool true])
  | none => .returned (.tuple #[.agg #[.int .i64 0, .int .i64 0], .bool false])
end Go.Proofs.YtgpdnleooeekbaaDoor.ReadR
