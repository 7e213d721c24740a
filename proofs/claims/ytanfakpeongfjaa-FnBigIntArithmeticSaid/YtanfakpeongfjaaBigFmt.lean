/- The format of big integers: plain lemmas, and the contracts of both functions. -/
import Derived.Test.YtanfakpeongfjaaBigMulS
import Derived.Test.YtanfakpeongfjaaRow
import Derived.Test.YtanfakpeongfjaaDec
import Derived.Laws.Concat
namespace Go.Proofs.Ytanfakpeongfjaa.BigFmt
open Go.RowKit
open Go.Proofs.Ytanfakpeongfjaa.Num Go.Proofs.Ytanfakpeongfjaa.IntRow Go.Proofs.Ytanfakpeongfjaa.IntLaw Go.Proofs.Ytanfakpeongfjaa.Dig Go.Proofs.Ytanfakpeongfjaa.BigValid Go.Proofs.Ytanfakpeongfjaa.BigMulS Go.Proofs.Ytanfakpeongfjaa.Row
set_option linter.unusedVariables false

/-- Digits, the most significant one first; the format. -/
def fd (l : List Nat) : List UInt8 := l.reverse.map Dec.dg
def fm (l : List Nat) : List UInt8 := if l = [] then [48] else fd l
theorem fd_length (l : List Nat) : (fd l).length = l.length := by simp [fd]
theorem fd_cons (d : Nat) (l : List Nat) : fd (d :: l) = fd l ++ [Dec.dg d] := by simp [fd]
theorem fd_snoc (d : Nat) (l : List Nat) : fd (l ++ [d]) = Dec.dg d :: fd l := by simp [fd]
theorem byteInfo : (Try.prog.info? 5).map (fun i => (i.zero, i.size, i.bytes)) = some (some (.int .u8 0), 1, 1) := by kernel_rfl

theorem impl_valid_yes (a : Option Addr) (n cap B : Nat) (xs : List Nat) (w : World) (hx : Norm xs) (hn : xs.length = n) (hl : n ≤ 60) (h : Rd w B a (ci xs)) (hB : B ≤ w.heap.size) :
    Calls Try.prog 41 #[.agg #[.slice a n cap]] w fun e w' => e = .returned (.bool true) ∧ Below w.heap.size w w' := by
  have h := impl_valid a cap B (ci xs) w (by rw [ci_length]; omega) h hB
  rw [ci_length, hn] at h
  have e : vb (ci xs) = true := vb_mk hx (by omega)
  simpa only [e] using h

theorem impl_fmt_no (a : Option Addr) (cap B : Nat) (xs : List Int) (w : World) (hn : xs.length ≤ 1048576) (h : Rd w B a xs) (hB : B ≤ w.heap.size) (hv : vb xs = false) :
    Calls Try.prog 30 #[.agg #[.slice a xs.length cap]] w fun e w' => e = .returned (.string ⟨#[]⟩) ∧ Below w.heap.size w w' := by
  have V := hid fun W (h : Rd W B a xs) (hB : B ≤ W.heap.size) => impl_valid a cap B xs W hn h hB
  rw [hv] at V
  clear hv
  go_enter Try.func30, Try.ntmps30
  go_wp2_with fail
  refine (V.out _ (h.alloc hB _) (by simp; omega)).mono ?_
  rintro e w1 ⟨rfl, hb⟩
  go_wp2
  go_ret
  exact ⟨rfl, ((Below.refl _ _).alloc (Nat.le_refl _) _).trans (hb.mono (by simp))⟩
theorem spec_fmt_no (a : Option Addr) (cap B : Nat) (xs : List Int) (w : World) (hn : xs.length ≤ 1048576) (h : Rd w B a xs) (hB : B ≤ w.heap.size) (hv : vb xs = false) :
    Calls Try.prog 31 #[.agg #[.slice a xs.length cap]] w fun e w' => e = .returned (.string ⟨#[]⟩) ∧ Below w.heap.size w w' := by
  have V := hid fun W (h : Rd W B a xs) (hB : B ≤ W.heap.size) => spec_valid a cap B xs W hn h hB
  rw [hv] at V
  clear hv
  go_enter Try.func31, Try.ntmps31
  go_wp2_with fail
  refine (V.out _ (h.alloc hB _) (by simp; omega)).mono ?_
  rintro e w1 ⟨rfl, hb⟩
  go_wp2
  go_ret
  exact ⟨rfl, ((Below.refl _ _).alloc (Nat.le_refl _) _).trans (hb.mono (by simp))⟩

theorem dec_digit (d : Nat) (w : World) (h : d < 10) : Calls Try.prog 59 #[.int .i64 d] w fun e w' => e = .returned (.string ⟨[Dec.dg d].toArray⟩) ∧ Below w.heap.size w w' := by
  have := Dec.dec_small d w h
  rw [Dec.dd_small d h] at this
  exact this

theorem spec_fmt_yes (a : Option Addr) (n cap B : Nat) (xs : List Nat) (w : World) (hx : Norm xs) (hn : xs.length = n) (hl : n ≤ 60) (h : Rd w B a (ci xs)) (hB : B ≤ w.heap.size) :
    Calls Try.prog 31 #[.agg #[.slice a n cap]] w fun e w' => e = .returned (.string ⟨(fm xs).toArray⟩) ∧ Below w.heap.size w w' := by
  have V := hid fun W (h : Rd W B a (ci xs)) (hB : B ≤ W.heap.size) => valid_yes a n cap B xs W hx hn hl h hB
  have N1 := hid hn
  have HX := hid hx
  clear hx hn
  have K1 := hid (one_new w (.slice a n cap) 34)
  go_enter Try.func31, Try.ntmps31
  go_wp2_with fail
  refine (V.out _ (h.alloc hB _) (by simp; omega)).mono ?_
  rintro e w1 ⟨rfl, hb⟩
  have o1 := hid (K1.out.below' hb)
  have b1 := hid (((Below.refl w.heap.size w).alloc (Nat.le_refl _) _).trans (hb.mono (by simp)))
  have r1 := hid (h.below (b1.out.mono hB))
  clear h hb K1 V
  go_wp2
  have hz : w.heap.size + 1 ≤ w1.heap.size := by have := o1.out.2.2; omega
  go_loopw [3, 4] (fun sv iv wr => ∃ k : Nat, k ≤ n ∧ iv = .int .i64 k ∧ sv = .string ⟨(fd (xs.take k)).toArray⟩ ∧ Below w1.heap.size w1 wr) (fun _ iv _ => n - (intOf iv).toNat)
  case atStart => exact ⟨0, Nat.zero_le _, rfl, rfl, Below.refl _ _⟩
  case round =>
    obtain ⟨k, hk, rfl, rfl, hbr⟩ := hrel
    obtain ⟨c1, _, z1⟩ := o1.out.below' hbr
    by_cases hlt : k < n
    · have hx1 : k < xs.length := by rw [N1.out]; exact hlt
      obtain ⟨b, off, rfl, hbB, hcell⟩ := (r1.out.below (hbr.mono (by omega))) (by rw [ci_length]; omega)
      have g1 := hcell k (by rw [ci_length]; exact hx1)
      rw [ci_at] at g1
      obtain ⟨x, hxe⟩ : ∃ x : Nat, Hid (xs[k] = x) := ⟨_, hid rfl⟩
      rw [hxe.out] at g1
      have hx10 : x < 10 := by rw [← hxe.out]; exact HX.out.1 _ (List.getElem_mem hx1)
      have hsn := hid (show fd (xs.take (k + 1)) = Dec.dg x :: fd (xs.take k) by rw [List.take_succ_eq_append_getElem hx1, fd_snoc, hxe.out])
      have hs1 := fun (W : World) => run_string_add_lists (P := Try.prog) W [Dec.dg x] (fd (xs.take k)) (by simp) (by rw [fd_length]; simp; omega)
      obtain ⟨r, hre⟩ : ∃ r, Hid (r = fd (xs.take k)) := ⟨_, hid rfl⟩
      rw [← hre.out] at hs1 hsn ⊢
      clear hcell
      go_wp2_with fail
      refine (dec_digit x _ hx10).mono ?_
      rintro e w3 ⟨rfl, hb3⟩
      have hbr2 := hid (hbr.trans (hb3.mono hbr.size))
      clear hbr hb3 g1 c1 z1
      go_wp2
      go_roundw
      case rel => exact ⟨k + 1, by omega, by go_num, by rw [hsn.out], hbr2.out⟩
      case measure => simp [intOf]; omega
    · have hk2 : k = n := by omega
      have htk := hid (show xs.take k = xs by rw [List.take_of_length_le (by rw [N1.out]; omega)])
      have hbf := hid (b1.out.trans (hbr.mono (show w.heap.size ≤ w1.heap.size by omega)))
      rw [htk.out]
      by_cases h0 : n = 0
      · have hnil := hid (show xs = [] from List.eq_nil_of_length_eq_zero (by rw [N1.out]; exact h0))
        rw [hnil.out]
        have e1 : fd ([] : List Nat) = [] := rfl
        rw [e1]
        subst h0
        have hk3 : ¬ k < 0 := by omega
        go_wp2
        go_ret
        exact ⟨by rw [hnil.out]; rfl, hbf.out⟩
      · have hne := hid (show xs ≠ [] from fun e => h0 (by rw [← N1.out, e]; rfl))
        have hfm := hid (show fm xs = fd xs from if_neg hne.out)
        have hpos : 0 < (fd xs).length := by rw [fd_length, N1.out]; omega
        obtain ⟨c, r, hcr⟩ : ∃ c r', fd xs = c :: r' := by
          rcases h : fd xs with _ | ⟨c, r⟩
          · rw [h] at hpos; simp at hpos
          · exact ⟨c, r, rfl⟩
        rw [hcr]
        have HCR := hid hcr
        clear hcr hpos
        go_wp2
        go_ret
        exact ⟨by rw [hfm.out, HCR.out]; rfl, hbf.out⟩

theorem impl_fmt_yes (a : Option Addr) (n cap B : Nat) (xs : List Nat) (w : World) (hx : Norm xs) (hn : xs.length = n) (hl : n ≤ 60) (h : Rd w B a (ci xs)) (hB : B ≤ w.heap.size) :
    Calls Try.prog 30 #[.agg #[.slice a n cap]] w fun e w' => e = .returned (.string ⟨(fm xs).toArray⟩) ∧ Below w.heap.size w w' := by
  obtain ⟨i0, hi, hz0, hz1, hz2⟩ := info_parts byteInfo
  have V := hid fun W (h : Rd W B a (ci xs)) (hB : B ≤ W.heap.size) => impl_valid_yes a n cap B xs W hx hn hl h hB
  have N1 := hid hn
  have HX := hid hx
  clear hx hn
  have K1 := hid (one_new w (.slice a n cap) 34)
  by_cases h0 : n = 0
  · have hnil := hid (show xs = [] from List.eq_nil_of_length_eq_zero (by rw [N1.out]; exact h0))
    subst h0
    go_enter Try.func30, Try.ntmps30
    go_wp2_with fail
    refine (V.out _ (h.alloc hB _) (by simp; omega)).mono ?_
    rintro e w1 ⟨rfl, hb⟩
    obtain ⟨c1, _, z1⟩ := K1.out.below' hb
    go_wp2
    go_ret
    exact ⟨by rw [hnil.out]; rfl, ((Below.refl _ _).alloc (Nat.le_refl _) _).trans (hb.mono (by simp))⟩
  · have hne := hid (show xs ≠ [] from fun e => h0 (by rw [← N1.out, e]; rfl))
    have hfm := hid (show fm xs = fd xs from if_neg hne.out)
    have t0 : ((n : Int) == 0) = false := by rw [beq_eq_false_iff_ne]; omega
    go_enter Try.func30, Try.ntmps30
    go_wp2_with fail
    refine (V.out _ (h.alloc hB _) (by simp; omega)).mono ?_
    rintro e w1 ⟨rfl, hb⟩
    have o1 := hid (K1.out.below' hb)
    have b1 := hid (((Below.refl w.heap.size w).alloc (Nat.le_refl _) _).trans (hb.mono (by simp)))
    have r1 := hid (h.below (b1.out.mono hB))
    have hz : w.heap.size + 1 ≤ w1.heap.size := by have := o1.out.2.2; omega
    have hmk := make_bytes (P := Try.prog) w1 22 5 i0 Try.underlying22 hi hz0 hz1 hz2 0 n (by omega) (by omega) (by omega)
    obtain ⟨c1, _, z1⟩ := o1.out
    clear h hb K1 V
    go_wp2
    clear hmk c1
    go_loopw [3, 4] (fun v iv wr => ∃ k : Nat, iv = .int .i64 ((k : Int) - 1) ∧ k ≤ n ∧ Owns wr w1.heap.size 5 v (fd (xs.drop k)) ∧ Below w1.heap.size w1 wr ∧ w1.heap.size ≤ wr.heap.size) (fun _ iv _ => (intOf iv + 1).toNat)
    case atStart => exact ⟨n, rfl, Nat.le_refl _, by rw [List.drop_of_length_le (by rw [N1.out]; omega)]; exact Owns.made w1 _ _ _ _ (Nat.le_refl _) (by unfold maxLen; omega) (by simp), (Below.refl _ _).alloc (Nat.le_refl _) _, by simp⟩
    case round =>
      obtain ⟨k, rfl, hk, hown, hbr, hsz⟩ := hrel
      obtain ⟨c1, _, z1⟩ := o1.out.below' hbr
      by_cases hk0 : 0 < k
      · obtain ⟨k, rfl⟩ : ∃ j, k = j + 1 := ⟨k - 1, by omega⟩
        have hx1 : k < xs.length := by rw [N1.out]; omega
        obtain ⟨b, off, rfl, hbB, hcell⟩ := (r1.out.below (hbr.mono (by omega))) (by rw [ci_length]; omega)
        have g1 := hcell k (by rw [ci_length]; exact hx1)
        rw [ci_at] at g1
        obtain ⟨x, hxe⟩ : ∃ x : Nat, Hid (xs[k] = x) := ⟨_, hid rfl⟩
        rw [hxe.out] at g1
        have hx10 : x < 10 := by rw [← hxe.out]; exact HX.out.1 _ (List.getElem_mem hx1)
        have hsn := hid (show fd (xs.drop k) = fd (xs.drop (k + 1)) ++ [Dec.dg x] by rw [List.drop_eq_getElem_cons hx1, fd_cons, hxe.out])
        have hlen : (fd (xs.drop (k + 1))).length ≤ 60 := by rw [fd_length, List.length_drop, N1.out]; omega
        rw [show ((k + 1 : Nat) : Int) - 1 = (k : Int) by omega]
        have t1 : (0 : Int) ≤ (k : Int) := by omega
        have t2 : (k : Int) < (n : Int) := by omega
        have t3 : (k : Int) ≤ 60 := by omega
        have t4 : IntKind.u8.wrap (x : Int) = (x : Int) := by rw [IntKind.wrap_u8]; omega
        have t5 : IntKind.u8.wrap (48 + (x : Int)) = 48 + (x : Int) := by rw [IntKind.wrap_u8]; omega
        have hdg := hid (Dec.dg_int x)
        generalize fd (xs.drop (k + 1)) = l at hown hsn hlen
        clear hcell
        go_wp2_with (at_builtin; refine append_byte rfl _ _ 22 rfl w1.heap.size 5 i0 Try.underlying22 hi hz0 hz1 hz2 w1 wr _ l (Dec.dg x) hown (by rfl) hbr hsz _ ?c1 (by rfl) (by omega) ?_)
        case c1 => rw [hdg.out, Nat.mod_eq_of_lt hx10]
        intro v1 w2 hown1 hbr1 hsz1
        clear hown hbr hsz c1 z1 g1 t4 t5
        go_wp2
        go_roundw
        case rel => exact ⟨k, by go_num, by omega, by rw [hsn.out]; exact hown1, hbr1, hsz1⟩
        case measure => simp [intOf]
      · have e : k = 0 := by omega
        subst e
        rw [List.drop_zero] at hown
        have hcv := convert_own (P := Try.prog) wr 22 5 9 Try.underlying22 Try.underlying5 Try.underlying9 _ u3 _ hown
        go_wp2
        go_ret
        exact ⟨by rw [hfm.out]; rfl, b1.out.trans (hbr.mono (by omega))⟩
end Go.Proofs.Ytanfakpeongfjaa.BigFmt
