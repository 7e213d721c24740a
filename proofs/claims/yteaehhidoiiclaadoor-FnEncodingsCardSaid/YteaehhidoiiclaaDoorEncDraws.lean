/- The draws of law FnEncodings: spec.DrawEncodeVarint, spec.DrawEncodeHex, spec.DrawDecodeVarint: functions of the code's bytes alone. -/
import Derived.Test.YteaehhidoiiclaaDoorSpoilAll
import Derived.Test.YteaehhidoiiclaaDoorEncodeVarint
import Derived.WalkKit
import Derived.ProofKit
import Derived.OpenShut
namespace Go.Proofs.YteaehhidoiiclaaDoor.EncDraws
open Go.ChangeShapes Go.WideShapes Go.ChangeAt Go.RowKit
open Go.Proofs.YteaehhidoiiclaaDoor.Num Go.Proofs.YteaehhidoiiclaaDoor.Row Go.Proofs.YteaehhidoiiclaaDoor.Cur Go.Proofs.YteaehhidoiiclaaDoor.Draw Go.Proofs.YteaehhidoiiclaaDoor.NumDraw Go.Proofs.YteaehhidoiiclaaDoor.TextDraw Go.Proofs.YteaehhidoiiclaaDoor.Spoil
set_option linter.unusedVariables false

/-- A cursor's first state. -/
def first (l : List UInt8) : St := (0, numH l (min 4000 l.length))
def numD (l : List UInt8) : Int := (numF l (first l)).1
def tailD (l : List UInt8) : ByteArray := ⟨(textF l 40 (first l)).1.toArray⟩

theorem draw_num (w : World) (sv : Value) (l : List UInt8) (hl : l.length ≤ 1048576) (hc : Cur.Code w w.heap.size sv l) :
    Calls Tryd.prog 7 #[sv] w fun e w' => e = .returned (.int .i64 (numD l)) ∧ Below w.heap.size w w' := by
  have HN := hid (new_any w sv l hl hc)
  clear hc
  go_enter Tryd.func7, Tryd.ntmps7
  go_wp2_with fail
  refine HN.out.mono ?_
  rintro e w1 ⟨c, rfl, hcw, hc1, hb1⟩
  have HB := hid hb1
  have hsz := hb1.size
  have HM := hid (num_any c sv l _ w1 hc1)
  clear hc1 hb1
  go_wp2_with fail
  refine HM.out.mono ?_
  rintro e w2 ⟨rfl, hc2, hg2⟩
  have HG := hid (grown_below hg2 hsz hcw)
  clear hc2 hg2
  go_wp2_with fail
  go_ret
  exact ⟨rfl, HB.out.trans HG.out⟩

theorem draw_tail (w : World) (sv : Value) (l : List UInt8) (hl : l.length ≤ 1048576) (hc : Cur.Code w w.heap.size sv l) :
    Calls Tryd.prog 8 #[sv] w fun e w' => e = .returned (.string (tailD l)) ∧ Below w.heap.size w w' := by
  have HN := hid (new_any w sv l hl hc)
  clear hc
  go_enter Tryd.func8, Tryd.ntmps8
  go_wp2_with fail
  refine HN.out.mono ?_
  rintro e w1 ⟨c, rfl, hcw, hc1, hb1⟩
  have HB := hid hb1
  have hsz := hb1.size
  have HM := hid (text_any c sv l _ w1 40 (by omega) hc1)
  clear hc1 hb1
  go_wp2_with fail
  refine HM.out.mono ?_
  rintro e w2 ⟨rfl, hc2, hg2⟩
  have HG := hid (grown_below hg2 hsz hcw)
  clear hc2 hg2
  go_wp2_with fail
  go_ret
  exact ⟨rfl, HB.out.trans HG.out⟩

/-- The model's varint of n, or nothing. -/
def encF (n : Int) : ByteArray := if 0 ≤ n ∧ n ≤ 562949953421311 then ⟨(vint 6 n.toNat).toArray⟩ else ⟨#[]⟩
theorem encF_size (n : Int) : (encF n).size ≤ 7 := by
  unfold encF
  split
  · show (vint 6 n.toNat).toArray.size ≤ 7
    simp
    exact vint_length 6 _
  · exact Nat.zero_le _
theorem enc_any (n : Int) (w : World) : Calls Tryd.prog 27 #[.int .i64 n] w fun e w' => e = .returned (.string (encF n)) ∧ Below w.heap.size w w' := by
  unfold encF
  by_cases h : 0 ≤ n ∧ n ≤ 562949953421311
  · rw [if_pos h]
    obtain ⟨m, rfl⟩ := Int.eq_ofNat_of_zero_le h.1
    exact EncodeVarint.spec_yes m w (by omega)
  · rw [if_neg h]
    exact (EncodeVarint.spec_no n w (by omega)).mono fun e w' ⟨h1, h2⟩ => by subst h2; exact ⟨h1, Below.refl _ _⟩

def baseD (l : List UInt8) : ByteArray := encF (numF l (first l)).1 ++ ⟨(textF l 4 (numF l (first l)).2).1.toArray⟩
def decD (l : List UInt8) : ByteArray :=
  if (belowF l 4 (textF l 4 (numF l (first l)).2).2).1 = 0 then (spoilF l (baseD l) (belowF l 4 (textF l 4 (numF l (first l)).2).2).2).1 else baseD l
theorem baseD_size (l : List UInt8) : (baseD l).size ≤ 11 := by
  unfold baseD
  rw [ByteArray.size_append]
  have h1 := encF_size (numF l (first l)).1
  have h2 := textF_length l 4 (numF l (first l)).2
  have h3 : (⟨(textF l 4 (numF l (first l)).2).1.toArray⟩ : ByteArray).size = (textF l 4 (numF l (first l)).2).1.length := by
    show Array.size _ = _
    simp
  rw [h3]
  have : ((4 : Nat) : Int) = 4 := rfl
  rw [this] at h2
  omega
theorem decD_size (l : List UInt8) : (decD l).size ≤ 202 := by
  unfold decD
  have := baseD_size l
  split
  · exact spoilF_size l _ _ (by omega)
  · omega

set_option maxHeartbeats 800000 in
theorem draw_dec (w : World) (sv : Value) (l : List UInt8) (hl : l.length ≤ 1048576) (hc : Cur.Code w w.heap.size sv l) :
    Calls Tryd.prog 17 #[sv] w fun e w' => e = .returned (.string (decD l)) ∧ Below w.heap.size w w' := by
  have HN := hid (new_any w sv l hl hc)
  have hbs := baseD_size l
  unfold decD
  have hbe : baseD l = encF (numF l (first l)).1 ++ ⟨(textF l 4 (numF l (first l)).2).1.toArray⟩ := rfl
  have HM := fun c w h => num_any c sv l (first l) w h
  have he := encF_size (numF l (first l)).1
  have HE := hid fun w => enc_any (numF l (first l)).1 w
  generalize numF l (first l) = r1 at hbe HM he HE ⊢
  obtain ⟨v, s1⟩ := r1
  simp only at *
  have HT := fun c w h => text_any c sv l s1 w 4 (by omega) h
  have htx := textF_length l 4 s1
  generalize textF l ((4 : Nat) : Int) s1 = r2 at HT htx hbe ⊢
  obtain ⟨tx, s2⟩ := r2
  simp only at *
  have HO := fun c w h => once_any c 4 sv l s2 w h (by omega)
  generalize belowF l 4 s2 = r3 at HO ⊢
  obtain ⟨o, s3⟩ := r3
  simp only at *
  generalize baseD l = bl at hbs hbe ⊢
  subst hbe
  have HS := hid fun c w h => spoil_any c sv l s3 w (encF v ++ ⟨tx.toArray⟩) (by omega) h
  generalize spoilF l (encF v ++ ⟨tx.toArray⟩) s3 = r4 at HS ⊢
  obtain ⟨str, s4⟩ := r4
  simp only at *
  have HM1 := hid HM
  have HT1 := hid HT
  have HO1 := hid HO
  have htx4 : tx.length ≤ 4 := by omega
  clear HM HT HO hc htx
  generalize encF v = eb at he HE HS hbs ⊢
  by_cases ho : o = 0
  · rw [if_pos ho]
    have eo : (o == 0) = true := by simpa using ho
    clear ho
    go_enter Tryd.func17, Tryd.ntmps17
    go_wp2_with fail
    refine HN.out.mono ?_
    rintro e w1 ⟨c, rfl, hcw, hc1, hb1⟩
    have hsz1 := hb1.size
    have HB := hid hb1
    have C1 := hid hc1
    clear hc1 hb1
    go_wp2_with fail
    refine (HM1.out c w1 C1.out).mono ?_
    rintro e w2 ⟨rfl, hc2, hg2⟩
    have hsz2 := hg2.size
    have B2 := hid (grown_below hg2 hsz1 hcw)
    have hcl2 := hc2.lt
    have C2 := hid hc2
    clear hc2 hg2
    go_wp2_with fail
    refine (HE.out w2).mono ?_
    rintro e w3 ⟨rfl, hb3⟩
    have hsz3 := hb3.size
    have B3 := hid (hb3.mono (show w.heap.size ≤ w2.heap.size by omega))
    have C3 := hid (C2.out.below hb3 hcl2)
    clear hb3
    go_wp2_with fail
    refine (HT1.out c w3 C3.out).mono ?_
    rintro e w4 ⟨rfl, hc4, hg4⟩
    have hsz4 := hg4.size
    have B4 := hid (grown_below hg4 (show w.heap.size ≤ w3.heap.size by omega) hcw)
    have C4 := hid hc4
    clear hc4 hg4
    go_wp2_with fail
    refine (HO1.out c w4 C4.out).mono ?_
    rintro e w5 ⟨rfl, hc5, hg5⟩
    have hsz5 := hg5.size
    have B5 := hid (grown_below hg5 (show w.heap.size ≤ w4.heap.size by omega) hcw)
    have C5 := hid hc5
    clear hc5 hg5
    go_wp2_with fail
    refine (HS.out c w5 C5.out).mono ?_
    rintro e w6 ⟨rfl, hc6, hg6⟩
    have G6 := hid (grown_below hg6 (by omega) hcw)
    clear hc6 hg6
    go_wp2_with fail
    go_ret
    exact ⟨rfl, (((((HB.out.trans B2.out).trans B3.out).trans B4.out).trans B5.out).trans G6.out)⟩
  · rw [if_neg ho]
    have eo : (o == 0) = false := by simpa using ho
    clear ho
    go_enter Tryd.func17, Tryd.ntmps17
    go_wp2_with fail
    refine HN.out.mono ?_
    rintro e w1 ⟨c, rfl, hcw, hc1, hb1⟩
    have hsz1 := hb1.size
    have HB := hid hb1
    have C1 := hid hc1
    clear hc1 hb1
    go_wp2_with fail
    refine (HM1.out c w1 C1.out).mono ?_
    rintro e w2 ⟨rfl, hc2, hg2⟩
    have hsz2 := hg2.size
    have B2 := hid (grown_below hg2 hsz1 hcw)
    have hcl2 := hc2.lt
    have C2 := hid hc2
    clear hc2 hg2
    go_wp2_with fail
    refine (HE.out w2).mono ?_
    rintro e w3 ⟨rfl, hb3⟩
    have hsz3 := hb3.size
    have B3 := hid (hb3.mono (show w.heap.size ≤ w2.heap.size by omega))
    have C3 := hid (C2.out.below hb3 hcl2)
    clear hb3
    go_wp2_with fail
    refine (HT1.out c w3 C3.out).mono ?_
    rintro e w4 ⟨rfl, hc4, hg4⟩
    have hsz4 := hg4.size
    have B4 := hid (grown_below hg4 (show w.heap.size ≤ w3.heap.size by omega) hcw)
    have C4 := hid hc4
    clear hc4 hg4
    go_wp2_with fail
    refine (HO1.out c w4 C4.out).mono ?_
    rintro e w5 ⟨rfl, hc5, hg5⟩
    have hsz5 := hg5.size
    have B5 := hid (grown_below hg5 (show w.heap.size ≤ w4.heap.size by omega) hcw)
    have C5 := hid hc5
    clear hc5 hg5
    go_wp2_with fail
    go_ret
    refine ⟨?_, (((HB.out.trans B2.out).trans B3.out).trans B4.out).trans B5.out⟩
    rfl

end Go.Proofs.YteaehhidoiiclaaDoor.EncDraws
