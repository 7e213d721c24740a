/- Tables found by name: the order of names, cmp.Compare at strings, slices.BinarySearchFunc at tables, impl.findTable. -/
import Derived.Test.YtpeojpdgknamgaaDbP
import Derived.Test.YtpeojpdgknamgaaHasL
import Derived.Test.YtpeojpdgknamgaaLawKit
import Derived.Laws.Cover1
namespace Go.Proofs.Ytpeojpdgknamgaa.TabFind
open Go.RowKit
open Go.Proofs.Ytpeojpdgknamgaa.Num Go.Proofs.Ytpeojpdgknamgaa.IntRow Go.Proofs.Ytpeojpdgknamgaa.Rdr Go.Proofs.Ytpeojpdgknamgaa.Dat Go.Proofs.Ytpeojpdgknamgaa.HasL Go.Proofs.Ytpeojpdgknamgaa.QryP Go.Proofs.Ytpeojpdgknamgaa.DbP
set_option linter.unusedVariables false

theorem less_eq : ∀ (x y : List UInt8), Op.bytesLess x y = decide (x < y)
  | [], [] => by simp [Op.bytesLess]
  | _ :: _, [] => by simp [Op.bytesLess]
  | [], _ :: _ => by simp [Op.bytesLess]
  | a :: x, b :: y => by
    rw [Op.bytesLess, less_eq x y]
    simp only [List.cons_lt_cons_iff]
    by_cases h1 : a < b <;> by_cases h2 : a = b <;> by_cases h3 : x < y <;> simp [h1, h2, h3]
theorem lt_of_not {a b : List UInt8} (h : ¬ a < b) (k : a ≠ b) : b < a :=
  Decidable.byContradiction fun h2 => k (List.le_antisymm (List.not_lt.1 h2) (List.not_lt.1 h))
def cmpN (a b : List UInt8) : Int := if a < b then -1 else if a = b then 0 else 1
theorem cmpN_neg {a b : List UInt8} : cmpN a b < 0 ↔ a < b := by
  unfold cmpN
  by_cases h : a < b
  · simp [h]
  · by_cases k : a = b
    · subst k; simp [List.lt_irrefl]
    · simp [h, k]
theorem cmpN_zero {a b : List UInt8} : cmpN a b = 0 ↔ a = b := by
  unfold cmpN
  by_cases k : a = b
  · subst k; simp [List.lt_irrefl]
  · by_cases h : a < b <;> simp [h, k]
/-- The names ascend. -/
def AscN (ts : List TableD) : Prop := ∀ i j (h1 : i < ts.length) (h2 : j < ts.length), i < j → ts[i].1.toList < ts[j].1.toList
theorem asc_of {ts : List TableD} (h : vDb ts = true) : AscN ts := by
  have hs : ∀ k (h1 : k + 1 < ts.length), ts[k].1.toList < ts[k + 1].1.toList := fun k h1 => by
    simp only [vDb, Bool.and_eq_true] at h
    have := range_at h.2 (k + 1) h1
    simp only [fitT, Nat.add_sub_cancel, getD_at ts (k + 1) h1, getD_at ts k (by omega), Bool.and_eq_true, Bool.or_eq_true] at this
    rcases this.2 with e | e
    · simp at e
    · simpa [lessN, less_eq] using e
  intro i j h1 h2 hij
  induction j with
  | zero => omega
  | succ j ih =>
    by_cases e : i = j
    · subst e; exact hs i h2
    · exact List.lt_trans (ih (by omega) (by omega)) (hs j h2)
structure WayN (ts : List TableD) (s : List UInt8) (lo hi : Nat) : Prop where
  left : ∀ j (h : j < ts.length), j < lo → ts[j].1.toList < s
  right : ∀ j (h : j < ts.length), hi ≤ j → ¬ ts[j].1.toList < s
theorem WayN.start (ts : List TableD) (s : List UInt8) : WayN ts s 0 ts.length := ⟨fun j _ h => by omega, fun j h k => by omega⟩
theorem WayN.goRight {ts : List TableD} {s : List UInt8} {lo hi m : Nat} (h : WayN ts s lo hi) (ha : AscN ts) (hm : m < ts.length) (e : ts[m].1.toList < s) : WayN ts s (m + 1) hi := ⟨fun j hj hjm => by
  by_cases q : j = m
  · subst q; exact e
  · exact List.lt_trans (ha j m hj hm (by omega)) e, h.right⟩
theorem WayN.goLeft {ts : List TableD} {s : List UInt8} {lo hi m : Nat} (h : WayN ts s lo hi) (ha : AscN ts) (hm : m < ts.length) (e : ¬ ts[m].1.toList < s) : WayN ts s lo m := ⟨h.left, fun j hj hmj => by
  by_cases q : j = m
  · subst q; exact e
  · exact fun k => e (List.lt_trans (ha m j hm hj (by omega)) k)⟩
/-- What the search finds. -/
structure FndN (ts : List TableD) (s : List UInt8) (p : Nat) (b : Bool) : Prop where
  le : p ≤ ts.length
  yes : b = true → ∃ h : p < ts.length, ts[p].1.toList = s
  no : b = false → ∀ j (h : j < ts.length), ts[j].1.toList ≠ s
theorem fnd_at {ts : List TableD} {s : List UInt8} {p : Nat} (h : WayN ts s p p) (ha : AscN ts) (hp : p < ts.length) : FndN ts s p (decide (ts[p].1.toList = s)) :=
  ⟨by omega, fun e => ⟨hp, by simpa using e⟩, fun e j hj q => by
    have hne : ts[p].1.toList ≠ s := by simpa using e
    rcases Nat.lt_trichotomy j p with h1 | h1 | h1
    · have := h.left j hj h1
      rw [q] at this
      exact List.lt_irrefl s this
    · subst h1; exact hne q
    · have h2 := lt_of_not (h.right p hp (Nat.le_refl _)) hne
      have h3 := List.lt_trans h2 (ha p j hp hj h1)
      rw [q] at h3
      exact List.lt_irrefl s h3⟩
theorem fnd_end {ts : List TableD} {s : List UInt8} {p : Nat} (h : WayN ts s p p) (hp : p = ts.length) : FndN ts s p false :=
  ⟨by omega, (fun e => by cases e), fun _ j hj q => by
    have := h.left j hj (by omega)
    rw [q] at this
    exact List.lt_irrefl s this⟩

theorem cmp_str (x y : ByteArray) (c : Int) (w : World) (hc : cmpN x.toList y.toList = c) : Calls Try.prog 95 #[.string x, .string y] w fun e w' => e = .returned (.int .i64 c) ∧ w = w' := by
  have HX : (x.toList == x.toList) = true := by simp
  have HY : (y.toList == y.toList) = true := by simp
  have hl := less_eq x.toList y.toList
  unfold cmpN at hc
  by_cases h : x.toList < y.toList
  · have h1 : Op.bytesLess x.toList y.toList = true := by rw [hl]; simpa using h
    rw [if_pos h] at hc
    subst hc
    clear hl h
    go_enter Try.func95, Try.ntmps95
    go_wp2
    go_ret
    exact ⟨rfl, rfl⟩
  · have h1 : Op.bytesLess x.toList y.toList = false := by rw [hl]; simpa using h
    rw [if_neg h] at hc
    by_cases k : x.toList = y.toList
    · have k1 : (x.toList == y.toList) = true := by simp [k]
      rw [if_pos k] at hc
      subst hc
      clear hl h k
      go_enter Try.func95, Try.ntmps95
      go_wp2
      go_ret
      exact ⟨rfl, rfl⟩
    · have k1 : (x.toList == y.toList) = false := by simp [k]
      rw [if_neg k] at hc
      subst hc
      clear hl h k
      go_enter Try.func95, Try.ntmps95
      go_wp2
      go_ret
      exact ⟨rfl, rfl⟩
theorem cmp_table (cs : List Value) (x : TableD) (s : ByteArray) (c : Int) (lo hi : Nat) (w : World) (hc : cmpN x.1.toList s.toList = c) (h : rTable w lo hi cs x) :
    Calls Try.prog 76 #[.agg cs.toArray, .string s] w fun e w' => e = .returned (.int .i64 c) ∧ Below w.heap.size w w' := by
  obtain ⟨a, cap, rfl, _, _, _⟩ := table_open h
  have B1 := hid ((Below.refl w.heap.size w).alloc (Nat.le_refl _) (.cells #[.string x.1, .int .i64 x.2.1, .slice a x.2.2.length cap] 73))
  have C := hid (fun W => cmp_str x.1 s c W hc)
  clear h hc
  go_enter Try.func76, Try.ntmps76
  go_wp2_with fail
  refine (C.out _).mono ?_
  rintro e w1 ⟨rfl, rfl⟩
  go_wp2
  go_ret
  exact ⟨rfl, B1.out⟩

def FoundN (ts : List TableD) (s : List UInt8) (w : World) (e : Ending) (w' : World) : Prop := ∃ (p : Nat) (b : Bool), e = .returned (.tuple #[.int .i64 (p : Nat), .bool b]) ∧ FndN ts s p b ∧ Below w.heap.size w w'
set_option maxRecDepth 100000 in
theorem lib_searchT (a : Option Addr) (cap : Nat) (ts : List TableD) (s : ByteArray) (lo0 hi0 : Nat) (w : World) (hn : ts.length ≤ 1048576) (ha : AscN ts) (h : Els 3 rTable w lo0 hi0 a ts) (hh : hi0 ≤ w.heap.size) :
    Calls Try.prog 75 #[.slice a ts.length cap, .string s, .func (.func 76) #[] #[]] w (FoundN ts s.toList w) := by
  have HG := hid h
  have HA := hid ha
  clear h ha
  go_enter Try.func75, Try.ntmps75
  go_wp2
  go_loopw [9, 10, 11] (fun l q _ wr => ∃ lo hi : Nat, l = .int .i64 lo ∧ q = .int .i64 hi ∧ lo ≤ hi ∧ hi ≤ ts.length ∧ Hid (WayN ts s.toList lo hi) ∧ Hid (Below w.heap.size w wr)) (fun l q _ _ => (intOf q).toNat - (intOf l).toNat)
  case atStart => exact ⟨0, ts.length, rfl, rfl, Nat.zero_le _, Nat.le_refl _, hid (WayN.start _ _), hid (Below.refl _ _)⟩
  case round =>
    obtain ⟨lo, hi, rfl, rfl, hlh, hhl, hway, hb⟩ := hrel
    have hsz := hb.out.size
    by_cases hlt : lo < hi
    · obtain ⟨m, hm⟩ : ∃ m, m = (lo + hi) / 2 := ⟨_, rfl⟩
      have hm1 : lo ≤ m := by omega
      have hm2 : m < hi := by omega
      have hmx : m < ts.length := by omega
      obtain ⟨b, off, aj, capj, rfl, _, hbB, c0, c1, c2, rx⟩ := tables_at (HG.out.grow good_table hb.out hh) m hmx
      obtain ⟨c, hcc⟩ : ∃ c, cmpN ts[m].1.toList s.toList = c := ⟨_, rfl⟩
      have E := hid (cmp_table _ ts[m] s c lo0 hi0 wr hcc rx)
      have HC := hid hcc
      have e1 : ((lo : Int) + (hi : Int)) / 2 = (m : Int) := by omega
      have hlt' : (lo : Int) < (hi : Int) := by omega
      have hm0 : (0 : Int) ≤ (m : Int) := by omega
      have hml : (m : Int) < (ts.length : Int) := by omega
      clear hcc rx hm
      by_cases hneg : c < 0
      · have HW := hid (hway.out.goRight HA.out hmx (cmpN_neg.1 (by rw [HC.out]; exact hneg)))
        go_wp2_with fail
        refine E.out.mono ?_
        rintro e w2 ⟨rfl, hb2⟩
        have HB := hid (hb.out.trans (hb2.mono hsz))
        clear hb2
        go_wp2
        go_roundw
        case rel => exact ⟨m + 1, hi, by go_num, rfl, by omega, by omega, HW, HB⟩
        case measure => simp [intOf]; omega
      · have HW := hid (hway.out.goLeft HA.out hmx (fun q => hneg (by rw [← HC.out]; exact cmpN_neg.2 q)))
        go_wp2_with fail
        refine E.out.mono ?_
        rintro e w2 ⟨rfl, hb2⟩
        have HB := hid (hb.out.trans (hb2.mono hsz))
        clear hb2
        go_wp2
        go_roundw
        case rel => exact ⟨lo, m, rfl, by go_num, by omega, by omega, HW, HB⟩
        case measure => simp [intOf]; omega
    · have e : hi = lo := by omega
      subst e
      by_cases hpl : hi < ts.length
      · obtain ⟨b, off, aj, capj, rfl, _, hbB, c0, c1, c2, rx⟩ := tables_at (HG.out.grow good_table hb.out hh) hi hpl
        obtain ⟨c, hcc⟩ : ∃ c, cmpN ts[hi].1.toList s.toList = c := ⟨_, rfl⟩
        have E := hid (cmp_table _ ts[hi] s c lo0 hi0 wr hcc rx)
        have HF := hid (show FndN ts s.toList hi (c == 0) by
          have := fnd_at hway.out HA.out hpl
          have e2 : decide (ts[hi].1.toList = s.toList) = (c == 0) := by
            rw [Bool.eq_iff_iff]
            simp only [decide_eq_true_eq, beq_iff_eq]
            rw [← hcc]
            exact cmpN_zero.symm
          rw [e2] at this
          exact this)
        have hpl' : (hi : Int) < (ts.length : Int) := by omega
        have hm0 : (0 : Int) ≤ (hi : Int) := by omega
        clear hcc rx
        go_wp2_with fail
        refine E.out.mono ?_
        rintro e w2 ⟨rfl, hb2⟩
        have HB := hid (hb.out.trans (hb2.mono hsz))
        clear hb2
        go_wp2
        go_ret2
        exact ⟨hi, c == 0, rfl, HF.out, HB.out⟩
      · have HF := hid (fnd_end hway.out (by omega))
        have hpl' : ¬ (hi : Int) < (ts.length : Int) := by omega
        go_wp2
        go_ret2
        exact ⟨hi, false, rfl, HF.out, hb.out⟩

theorem impl_findT (cs : List Value) (ts : List TableD) (s : ByteArray) (lo hi : Nat) (w : World) (hn : ts.length ≤ 1048576) (ha : AscN ts) (h : rDb w lo hi cs ts) (hh : hi ≤ w.heap.size) :
    Calls Try.prog 48 #[.agg cs.toArray, .string s] w (FoundN ts s.toList w) := by
  obtain ⟨a, cap, rfl, _, hels⟩ := db_open h
  have B1 := hid ((Below.refl w.heap.size w).alloc (Nat.le_refl _) (.cells #[.slice a ts.length cap] 44))
  have S := hid (lib_searchT a cap ts s lo hi _ hn ha (hels.keep good_table (sm_below B1.out hh)) (by simp; omega))
  clear h hels ha
  go_enter Try.func48, Try.ntmps48
  go_wp2_with fail
  refine S.out.mono ?_
  rintro e w2 ⟨p, b, rfl, hf, hb⟩
  have HF := hid hf
  have HB := hid (B1.out.trans (hb.mono (by simp)))
  clear hf hb
  go_wp2
  go_ret2
  exact ⟨p, b, rfl, HF.out, HB.out⟩
end Go.Proofs.Ytpeojpdgknamgaa.TabFind
