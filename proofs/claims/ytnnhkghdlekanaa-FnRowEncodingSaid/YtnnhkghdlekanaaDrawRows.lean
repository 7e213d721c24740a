/- The draws of the law on rows (spec.DrawCompareRows, DrawEncodeRow, DrawDecodeRow). -/
import Derived.Test.YtnnhkghdlekanaaDrawRow
import Derived.Test.YtnnhkghdlekanaaRowPlain
namespace Go.Proofs.Ytnnhkghdlekanaa.DrawRows
open Go.RowKit
open Go.Proofs.Ytnnhkghdlekanaa.Num Go.Proofs.Ytnnhkghdlekanaa.IntRow Go.Proofs.Ytnnhkghdlekanaa.Cur Go.Proofs.Ytnnhkghdlekanaa.Draw Go.Proofs.Ytnnhkghdlekanaa.Vals Go.Proofs.Ytnnhkghdlekanaa.RowEnc Go.Proofs.Ytnnhkghdlekanaa.RowPlain Go.Proofs.Ytnnhkghdlekanaa.DrawRow
set_option linter.unusedVariables false

/-- Two short rows of values. -/
def TwoRows (w : World) (e : Ending) (w' : World) : Prop :=
  ∃ (xs ys : List Int) (a1 a2 : Option Addr) (cap1 cap2 : Nat), e = .returned (.tuple #[.slice a1 xs.length cap1, .slice a2 ys.length cap2]) ∧ xs.length ≤ 4 ∧ ys.length ≤ 4 ∧ vals xs = true ∧ vals ys = true ∧ Rd w' w'.heap.size a1 xs ∧ Rd w' w'.heap.size a2 ys ∧ Below w.heap.size w w'
/-- A short row of any ints. -/
def AnyRow (w : World) (e : Ending) (w' : World) : Prop :=
  ∃ (xs : List Int) (a : Option Addr) (cap : Nat), e = .returned (.slice a xs.length cap) ∧ xs.length ≤ 4 ∧ Rd w' w'.heap.size a xs ∧ Below w.heap.size w w'
/-- A short string and a small int. -/
def AnyCode (w : World) (e : Ending) (w' : World) : Prop :=
  ∃ (s : ByteArray) (n : Int), e = .returned (.tuple #[.string s, .int .i64 n]) ∧ s.size ≤ 4 ∧ (-1 ≤ n ∧ n ≤ 4) ∧ Below w.heap.size w w'

theorem vals_small {xs : List Int} (h : ∀ x ∈ xs, 0 ≤ x ∧ x < 3) : vals xs = true :=
  vals_all fun j hj => by
    have := h _ (List.getElem_mem hj)
    rw [okv_iff]
    omega
theorem gr_bel {w w' : World} {c B : Nat} (h : w.grownBy w' (some c)) (hB : B ≤ w.heap.size) (hc : B ≤ c) : Below B w w' := grown_below h hB hc

theorem draw_two (w : World) (sv : Value) (l : List UInt8) (hl : l.length ≤ 1048576) (hc : Cur.Code w w.heap.size sv l) :
    Calls Try.prog 11 #[sv] w (TwoRows w) := by
  have HN := hid (new_any w sv l hl hc)
  clear hc
  go_enter Try.func11, Try.ntmps11
  go_wp2_with fail
  refine HN.out.mono ?_
  rintro e w1 ⟨c, rfl, hcw, hc1, hb1⟩
  have B1 := hid hb1
  generalize ((0 : Nat), numH l (min 4000 l.length)) = s1 at hc1
  have HB := hid (below_any c 4 sv l s1 w1 hc1 (by omega))
  have hbd := belowF_bounds l 4 s1 (by omega)
  generalize belowF l 4 s1 = r1 at HB hbd
  obtain ⟨n1, s2⟩ := r1
  simp only at *
  obtain ⟨n, rfl⟩ := Int.eq_ofNat_of_zero_le hbd.1
  have hn : n ≤ 3 := by omega
  clear hc1 hb1 HN hbd
  go_wp2_with fail
  refine HB.out.mono ?_
  rintro e w2 ⟨rfl, hc2, hg2⟩
  have B2 := hid (B1.out.trans (gr_bel hg2 B1.out.size hcw))
  have HR := hid (row_any c sv l s2 w2 n (by omega) 3 (by omega) (by omega) hc2)
  have hlt2 := hc2.lt
  clear hc2 hg2 HB
  go_wp2_with fail
  refine HR.out.mono ?_
  rintro e w3 ⟨xs, a1, cap1, s3, rfl, hl1, hv1, hown1, hc3, hg3⟩
  subst hl1
  have B3 := hid (B2.out.trans (gr_bel hg3 B2.out.size hcw))
  have V1 := hid (vals_small hv1)
  have O1 := hid hown1
  have hs23 := hg3.size
  have HB := hid (below_any c 4 sv l s3 w3 hc3 (by omega))
  have hbd := belowF_bounds l 4 s3 (by omega)
  generalize belowF l 4 s3 = r2 at HB hbd
  obtain ⟨m1, s4⟩ := r2
  simp only at *
  obtain ⟨m, rfl⟩ := Int.eq_ofNat_of_zero_le hbd.1
  have hm : m ≤ 3 := by omega
  clear hc3 hg3 HR hbd hown1 hv1
  go_wp2_with fail
  refine HB.out.mono ?_
  rintro e w4 ⟨rfl, hc4, hg4⟩
  have B4 := hid (B3.out.trans (gr_bel hg4 B3.out.size hcw))
  have O2 := hid (own_moved O1.out hg4 hlt2)
  have HR := hid (row_any c sv l s4 w4 m (by omega) 3 (by omega) (by omega) hc4)
  clear hc4 hg4 HB O1
  go_wp2_with fail
  refine HR.out.mono ?_
  rintro e w5 ⟨ys, a2, cap2, s5, rfl, hl2, hv2, hown2, hc5, hg5⟩
  subst hl2
  have B5 := hid (B4.out.trans (gr_bel hg5 B4.out.size hcw))
  have V2 := hid (vals_small hv2)
  have O3 := hid (own_moved O2.out hg5 hlt2)
  have O4 := hid hown2
  clear hown2 hv2 hc5 hg5 HR O2
  go_wp2_with fail
  go_ret2
  exact ⟨xs, ys, a1, a2, cap1, cap2, rfl, by omega, by omega, V1.out, V2.out, own_rd O3.out, own_rd O4.out, B5.out⟩

theorem draw_any (w : World) (sv : Value) (l : List UInt8) (hl : l.length ≤ 1048576) (hc : Cur.Code w w.heap.size sv l) :
    Calls Try.prog 15 #[sv] w (AnyRow w) := by
  have HN := hid (new_any w sv l hl hc)
  clear hc
  go_enter Try.func15, Try.ntmps15
  go_wp2_with fail
  refine HN.out.mono ?_
  rintro e w1 ⟨c, rfl, hcw, hc1, hb1⟩
  have B1 := hid hb1
  generalize ((0 : Nat), numH l (min 4000 l.length)) = s1 at hc1
  have HR := hid (any_row c sv l s1 w1 hc1)
  clear hc1 hb1 HN
  go_wp2_with fail
  refine HR.out.mono ?_
  rintro e w2 ⟨xs, a, cap, s2, rfl, hl2, hown, hc2, hg2⟩
  have B2 := hid (B1.out.trans (gr_bel hg2 B1.out.size hcw))
  have O2 := hid hown
  clear hown hc2 hg2
  go_wp2_with fail
  go_ret
  exact ⟨xs, a, cap, rfl, hl2, own_rd O2.out, B2.out⟩

theorem draw_code (w : World) (sv : Value) (l : List UInt8) (hl : l.length ≤ 1048576) (hc : Cur.Code w w.heap.size sv l) :
    Calls Try.prog 17 #[sv] w (AnyCode w) := by
  have HN := hid (new_any w sv l hl hc)
  clear hc
  go_enter Try.func17, Try.ntmps17
  go_wp2_with fail
  refine HN.out.mono ?_
  rintro e w1 ⟨c, rfl, hcw, hc1, hb1⟩
  have B1 := hid hb1
  generalize ((0 : Nat), numH l (min 4000 l.length)) = s1 at hc1
  have HR := hid (any_row c sv l s1 w1 hc1)
  clear hc1 hb1 HN
  go_wp2_with fail
  refine HR.out.mono ?_
  rintro e w2 ⟨xs, a, cap, s2, rfl, hl2, hown, hc2, hg2⟩
  have B2 := hid (B1.out.trans (gr_bel hg2 B1.out.size hcw))
  have hsz := encS_size_le xs
  have E := hid (spec_enc a cap w2.heap.size xs w2 (by omega) (own_rd hown) (Nat.le_refl _))
  have C2 := hid hc2
  have hlt2 := hc2.lt
  clear hown hc2 hg2 HR
  go_wp2_with fail
  refine E.out.mono ?_
  rintro e w3 ⟨rfl, hb3⟩
  have B3 := hid (B2.out.trans (hb3.mono B2.out.size))
  have C3 := C2.out.below hb3 hlt2
  obtain ⟨t, ht⟩ : ∃ t, encS xs = t := ⟨_, rfl⟩
  rw [ht] at hsz ⊢
  have hts : t.size ≤ 4 := by omega
  have HO := hid (once_any c 4 sv l s2 w3 C3 (by omega))
  generalize belowF l 4 s2 = r3 at HO
  obtain ⟨z3, s3⟩ := r3
  simp only at *
  obtain ⟨b3, hb3'⟩ : ∃ b3 : Bool, (z3 == 0) = b3 := ⟨_, rfl⟩
  rw [hb3'] at HO
  clear hb3 C2 C3 hb3' ht E hsz
  go_wp2_with fail
  refine HO.out.mono ?_
  rintro e w4 ⟨rfl, hc4, hg4⟩
  have B4 := hid (B3.out.trans (gr_bel hg4 B3.out.size hcw))
  have C4 := hid hc4
  clear hc4 hg4 HO
  cases b3 with
  | false =>
    have HP := hid (once_any c 5 sv l s3 w4 C4.out (by omega))
    generalize belowF l 5 s3 = r5 at HP
    obtain ⟨z5, s5⟩ := r5
    simp only at *
    obtain ⟨b5, hb5'⟩ : ∃ b5 : Bool, (z5 == 0) = b5 := ⟨_, rfl⟩
    rw [hb5'] at HP
    clear hb5' C4
    go_wp2_with fail
    refine HP.out.mono ?_
    rintro e w5 ⟨rfl, hc5, hg5⟩
    have B5 := hid (B4.out.trans (gr_bel hg5 B4.out.size hcw))
    have C5 := hid hc5
    clear hc5 hg5 HP
    cases b5 with
    | false =>
      go_wp2_with fail
      go_ret2
      exact ⟨t, _, rfl, hts, by omega, B5.out⟩
    | true =>
      have HB := hid (below_any c 5 sv l s5 w5 C5.out (by omega))
      have hbd := belowF_bounds l 5 s5 (by omega)
      generalize belowF l 5 s5 = r6 at HB hbd
      obtain ⟨n6, s6⟩ := r6
      simp only at *
      obtain ⟨n60, n61⟩ := hbd
      go_wp2_with fail
      refine HB.out.mono ?_
      rintro e w6 ⟨rfl, hc6, hg6⟩
      have B6 := hid (B5.out.trans (gr_bel hg6 B5.out.size hcw))
      clear hc6 hg6 HB
      go_wp2_with fail
      go_ret2
      exact ⟨t, _, rfl, hts, by omega, B6.out⟩
  | true =>
    have HT := hid (TextDraw.text_any c sv l s3 w4 4 (by omega) C4.out)
    have htl := TextDraw.textF_length l 4 s3
    generalize TextDraw.textF l 4 s3 = r4 at HT htl
    obtain ⟨tx, s4⟩ := r4
    simp only at *
    clear C4 hts
    go_wp2_with fail
    refine HT.out.mono ?_
    rintro e w4b ⟨rfl, hc4b, hg4b⟩
    have B4b := hid (B4.out.trans (gr_bel hg4b B4.out.size hcw))
    have hts : (⟨tx.toArray⟩ : ByteArray).size ≤ 4 := by show tx.toArray.size ≤ 4; simpa using htl
    generalize (⟨tx.toArray⟩ : ByteArray) = u at hts
    have HP := hid (once_any c 5 sv l s4 w4b hc4b (by omega))
    generalize belowF l 5 s4 = r5 at HP
    obtain ⟨z5, s5⟩ := r5
    simp only at *
    obtain ⟨b5, hb5'⟩ : ∃ b5 : Bool, (z5 == 0) = b5 := ⟨_, rfl⟩
    rw [hb5'] at HP
    clear hb5' hc4b hg4b HT htl
    go_wp2_with fail
    refine HP.out.mono ?_
    rintro e w5 ⟨rfl, hc5, hg5⟩
    have B5 := hid (B4b.out.trans (gr_bel hg5 B4b.out.size hcw))
    have C5 := hid hc5
    clear hc5 hg5 HP
    cases b5 with
    | false =>
      go_wp2_with fail
      go_ret2
      exact ⟨u, _, rfl, hts, by omega, B5.out⟩
    | true =>
      have HB := hid (below_any c 5 sv l s5 w5 C5.out (by omega))
      have hbd := belowF_bounds l 5 s5 (by omega)
      generalize belowF l 5 s5 = r6 at HB hbd
      obtain ⟨n6, s6⟩ := r6
      simp only at *
      obtain ⟨n60, n61⟩ := hbd
      go_wp2_with fail
      refine HB.out.mono ?_
      rintro e w6 ⟨rfl, hc6, hg6⟩
      have B6 := hid (B5.out.trans (gr_bel hg6 B5.out.size hcw))
      clear hc6 hg6 HB
      go_wp2_with fail
      go_ret2
      exact ⟨u, _, rfl, hts, by omega, B6.out⟩
end Go.Proofs.Ytnnhkghdlekanaa.DrawRows
