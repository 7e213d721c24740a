/-
  Each decoder returns the encoded value whatever bytes follow, and accepts nothing else: law FnEncodings is true; the tied card.
  Condition: the listed tables and sentinel errors of strconv and math/bits hold what the program's text lays (tied by the card).
-/
import Derived.Test.YteaehhidoiiclaaDoorEncCalls
import Derived.Test.YteaehhidoiiclaaDoorCodeArg
import Derived.Test.YteaehhidoiiclaaDoorStep
import Derived.Test.YteaehhidoiiclaaDoorCards
import Derived.Test.YteaehhidoiiclaaDoorTie
import Derived.WalkKit
import Derived.ProofKit
import Derived.OpenShut
import Derived.IntWalk
import Derived.BigQuiet
import Derived.Deep.RegionWith
import Derived.Deep.DrawnRows
import Derived.Deep.DeepHandedRow
namespace Go.Proofs.YteaehhidoiiclaaDoor.Encodings
open Go.ChangeShapes Go.WideShapes Go.ChangeAt Go.RowKit
open Go.Proofs.YteaehhidoiiclaaDoor.Num Go.Proofs.YteaehhidoiiclaaDoor.Row Go.Proofs.YteaehhidoiiclaaDoor.Cur Go.Proofs.YteaehhidoiiclaaDoor.EncDraws Go.Proofs.YteaehhidoiiclaaDoor.EncPlain Go.Proofs.YteaehhidoiiclaaDoor.EncCalls Go.Proofs.YteaehhidoiiclaaDoor.Laid Go.Proofs.YteaehhidoiiclaaDoor.Sent Go.Proofs.YteaehhidoiiclaaDoor.Var
attribute [local go_sem ↓] Go.wp_at_zero Go.wp_at_succ
set_option linter.unusedVariables false

structure Facts (B : Nat) (sv : Value) (l : List UInt8) (w : World) : Prop where
  pow : Pow w
  sent : Sent w
  code : Cur.Code w B sv l
theorem Facts.below {w w' : World} {sv : Value} {l : List UInt8} {B : Nat} (h : Facts B sv l w) (hB : B ≤ w.heap.size) (hb : Below w.heap.size w w') : Facts B sv l w' :=
  ⟨h.pow.below hb, h.sent.below hb, h.code.below hb hB⟩

set_option maxRecDepth 100000 in
set_option maxHeartbeats 1600000 in
theorem core_pos (w : World) (sv : Value) (l : List UInt8) (hl : l.length ≤ 1048576) (hf : Facts w.heap.size sv l w) (hcase : 0 ≤ (numD l) ∧ (numD l) < 1000000000) :
    Calls Tryd.prog 3 #[sv] w fun e w' => e = .returned (.bool true) ∧ Below w.heap.size w w' := by
  have HN := hid fun (W : World) (h : Cur.Code W W.heap.size sv l) => draw_num W sv l hl h
  have HT := hid fun (W : World) (h : Cur.Code W W.heap.size sv l) => draw_tail W sv l hl h
  have HD := hid fun (W : World) (h : Cur.Code W W.heap.size sv l) => draw_dec W sv l hl h
  have hn := NumDraw.numF_bounds l (first l)
  have ht : (tailD l).size ≤ 40 := by
    have := TextDraw.textF_length l 40 (first l)
    show (TextDraw.textF l 40 (first l)).1.toArray.size ≤ 40
    rw [List.size_toArray]
    exact this
  have hd := decD_size l
  have hn' : numD l = (NumDraw.numF l (first l)).1 := rfl
  rw [← hn'] at hn
  clear hn'
  generalize numD l = n at HN hn hcase
  generalize tailD l = tail at HT ht
  generalize decD l = d at HD hd
  obtain ⟨hn0, hn1⟩ := hn
  have HF := hid hf
  have HBig := hid (big_code sv l w _ hf.code hl)
  clear hf hl
  have h1 : 0 ≤ n := by omega
  have h2 : n < 1000000000 := by omega
  have h3 : n ≤ 562949953421311 := by omega
  have h4 : n < 72057594037927936 := by omega
  have h5 : -1000000000 < n := by omega
  clear hcase
  have HE := hid fun W => enc n W
  have HE2 := hid fun W => dec n tail W ⟨by omega, by omega⟩ ht
  have he := encF_some n ⟨by omega, by omega⟩
  have hes := encF_size n
  generalize encF n = s at HE HE2 he hes
  have HX := hid fun W => fix n W hn1
  have HX2 := hid fun W => defix n tail W ⟨by omega, by omega⟩ ht
  have hx := fixF_ne n ⟨by omega, by omega⟩
  have hxs := hid (fixF_size n ⟨by omega, by omega⟩)
  have hxb : (fixF n).size ≤ 7 := by rw [hxs.out]; omega
  generalize fixF n = t at HX HX2 hx hxs hxb
  have hx7 : (t.size : Int) = 7 := by rw [hxs.out]; rfl
  go_enter Tryd.func3, Tryd.ntmps3
  go_wp2_with fail
  refine HBig.out.mono ?_
  rintro e w0 ⟨rfl, rfl⟩
  go_wp2_with fail
  refine (HN.out _ HF.out.code).mono ?_
  rintro e w1 ⟨rfl, hb1⟩
  have z1 := hb1.size
  have F1 := hid (HF.out.below (Nat.le_refl _) hb1)
  have B1 := hid hb1
  clear hb1
  go_wp2_with fail
  refine (HT.out _ (F1.out.code.higher z1)).mono ?_
  rintro e w2 ⟨rfl, hb2⟩
  have z2 := Nat.le_trans z1 hb2.size
  have F2 := hid (F1.out.below z1 hb2)
  have B2 := hid (B1.out.trans (hb2.mono z1))
  clear hb2
  go_wp2_with fail
  refine (HE.out _).mono ?_
  rintro e w3 ⟨rfl, hb3⟩
  have z3 := Nat.le_trans z2 hb3.size
  have F3 := hid (F2.out.below z2 hb3)
  have B3 := hid (B2.out.trans (hb3.mono z2))
  clear hb3
  go_wp2_with fail
  refine (HE2.out _).mono ?_
  rintro e w4 ⟨rfl, hb4⟩
  have z4 := Nat.le_trans z3 hb4.size
  have F4 := hid (F3.out.below z3 hb4)
  have B4 := hid (B3.out.trans (hb4.mono z3))
  clear hb4
  go_wp2_with fail
  refine (HX.out _).mono ?_
  rintro e w5 ⟨rfl, hb5⟩
  have z5 := Nat.le_trans z4 hb5.size
  have F5 := hid (F4.out.below z4 hb5)
  have B5 := hid (B4.out.trans (hb5.mono z4))
  clear hb5
  go_wp2_with fail
  refine (HX2.out _).mono ?_
  rintro e w9 ⟨rfl, rfl⟩
  go_wp2_with fail
  refine (impl_format n _ hn0 hn1 F5.out.pow).mono ?_
  rintro e w6 ⟨rfl, hb6⟩
  have z6 := Nat.le_trans z5 hb6.size
  have F6 := hid (F5.out.below z5 hb6)
  have B6 := hid (B5.out.trans (hb6.mono z5))
  clear hb6
  go_wp2_with fail
  refine (parse_yes n _ h5 h2 F6.out.pow F6.out.sent).mono ?_
  rintro e w7 ⟨rfl, hb7⟩
  have z7 := Nat.le_trans z6 hb7.size
  have F7 := hid (F6.out.below z6 hb7)
  have B7 := hid (B6.out.trans (hb7.mono z6))
  clear hb7
  go_wp2_with fail
  refine (EncodeHex.impl_any tail _ (by omega)).mono ?_
  rintro e w8 ⟨rfl, hb8⟩
  have z8 := Nat.le_trans z7 hb8.size
  have F8 := hid (F7.out.below z7 hb8)
  have B8 := hid (B7.out.trans (hb8.mono z7))
  clear hb8
  go_wp2_with fail
  refine (unhexed tail _ ht).mono ?_
  rintro e w9 ⟨rfl, hb9⟩
  have z9 := Nat.le_trans z8 hb9.size
  have F9 := hid (F8.out.below z8 hb9)
  have B9 := hid (B8.out.trans (hb9.mono z8))
  clear hb9
  go_wp2_with fail
  refine (HD.out _ (F9.out.code.higher z9)).mono ?_
  rintro e w10 ⟨rfl, hb10⟩
  have z10 := Nat.le_trans z9 hb10.size
  have F10 := hid (F9.out.below z9 hb10)
  have B10 := hid (B9.out.trans (hb10.mono z9))
  clear hb10
  go_wp2_with fail
  refine (DecodeVarint.impl_any d _ (by omega)).mono ?_
  rintro e w11 ⟨x, k, hA, rfl, hb11⟩
  have z11 := Nat.le_trans z10 hb11.size
  have F11 := hid (F10.out.below z10 hb11)
  have B11 := hid (B10.out.trans (hb11.mono z10))
  clear hb11
  by_cases hk : k = 0
  · subst hk
    clear hA
    go_wp2_with fail
    go_ret
    exact ⟨rfl, B11.out⟩
  · obtain ⟨k1, k7, ks, kx, kv⟩ := sans_prefix d x k hA hk
    have HK := hid kv
    have k0 : (0 : Int) < (k : Int) := by omega
    have ks1 : (k : Int) ≤ (d.size : Int) := by omega
    clear hA kv
    go_wp2_with fail
    refine (HD.out _ (F11.out.code.higher z11)).mono ?_
    rintro e w12 ⟨rfl, hb12⟩
    have z12 := Nat.le_trans z11 hb12.size
    have F12 := hid (F11.out.below z11 hb12)
    have B12 := hid (B11.out.trans (hb12.mono z11))
    clear hb12
    go_wp2_with fail
    refine (HD.out _ (F12.out.code.higher z12)).mono ?_
    rintro e w13 ⟨rfl, hb13⟩
    have z13 := Nat.le_trans z12 hb13.size
    have F13 := hid (F12.out.below z12 hb13)
    have B13 := hid (B12.out.trans (hb13.mono z12))
    clear hb13
    go_wp2_with fail
    refine (EncodeVarint.impl_yes x _ kx).mono ?_
    rintro e w14 ⟨rfl, hb14⟩
    have z14 := Nat.le_trans z13 hb14.size
    have F14 := hid (F13.out.below z13 hb14)
    have B14 := hid (B13.out.trans (hb14.mono z13))
    clear hb14
    go_wp2_with fail
    refine (HD.out _ (F14.out.code.higher z14)).mono ?_
    rintro e w15 ⟨rfl, hb15⟩
    have z15 := Nat.le_trans z14 hb15.size
    have B15 := hid (B14.out.trans (hb15.mono z14))
    clear hb15
    go_wp2_with fail
    go_ret
    exact ⟨by rw [HK.out]; simp, B15.out⟩

set_option maxRecDepth 100000 in
set_option maxHeartbeats 1600000 in
theorem core_big (w : World) (sv : Value) (l : List UInt8) (hl : l.length ≤ 1048576) (hf : Facts w.heap.size sv l w) (hcase : 1000000000 ≤ (numD l) ∧ (numD l) ≤ 562949953421311) :
    Calls Tryd.prog 3 #[sv] w fun e w' => e = .returned (.bool true) ∧ Below w.heap.size w w' := by
  have HN := hid fun (W : World) (h : Cur.Code W W.heap.size sv l) => draw_num W sv l hl h
  have HT := hid fun (W : World) (h : Cur.Code W W.heap.size sv l) => draw_tail W sv l hl h
  have HD := hid fun (W : World) (h : Cur.Code W W.heap.size sv l) => draw_dec W sv l hl h
  have hn := NumDraw.numF_bounds l (first l)
  have ht : (tailD l).size ≤ 40 := by
    have := TextDraw.textF_length l 40 (first l)
    show (TextDraw.textF l 40 (first l)).1.toArray.size ≤ 40
    rw [List.size_toArray]
    exact this
  have hd := decD_size l
  have hn' : numD l = (NumDraw.numF l (first l)).1 := rfl
  rw [← hn'] at hn
  clear hn'
  generalize numD l = n at HN hn hcase
  generalize tailD l = tail at HT ht
  generalize decD l = d at HD hd
  obtain ⟨hn0, hn1⟩ := hn
  have HF := hid hf
  have HBig := hid (big_code sv l w _ hf.code hl)
  clear hf hl
  have h1 : 0 ≤ n := by omega
  have h2 : 1000000000 ≤ n := by omega
  have h3 : n ≤ 562949953421311 := by omega
  have h4 : n < 72057594037927936 := by omega
  have h5 : -1000000000 < n := by omega
  clear hcase
  have HE := hid fun W => enc n W
  have HE2 := hid fun W => dec n tail W ⟨by omega, by omega⟩ ht
  have he := encF_some n ⟨by omega, by omega⟩
  have hes := encF_size n
  generalize encF n = s at HE HE2 he hes
  have HX := hid fun W => fix n W hn1
  have HX2 := hid fun W => defix n tail W ⟨by omega, by omega⟩ ht
  have hx := fixF_ne n ⟨by omega, by omega⟩
  have hxs := hid (fixF_size n ⟨by omega, by omega⟩)
  have hxb : (fixF n).size ≤ 7 := by rw [hxs.out]; omega
  generalize fixF n = t at HX HX2 hx hxs hxb
  have hx7 : (t.size : Int) = 7 := by rw [hxs.out]; rfl
  go_enter Tryd.func3, Tryd.ntmps3
  go_wp2_with fail
  refine HBig.out.mono ?_
  rintro e w0 ⟨rfl, rfl⟩
  go_wp2_with fail
  refine (HN.out _ HF.out.code).mono ?_
  rintro e w1 ⟨rfl, hb1⟩
  have z1 := hb1.size
  have F1 := hid (HF.out.below (Nat.le_refl _) hb1)
  have B1 := hid hb1
  clear hb1
  go_wp2_with fail
  refine (HT.out _ (F1.out.code.higher z1)).mono ?_
  rintro e w2 ⟨rfl, hb2⟩
  have z2 := Nat.le_trans z1 hb2.size
  have F2 := hid (F1.out.below z1 hb2)
  have B2 := hid (B1.out.trans (hb2.mono z1))
  clear hb2
  go_wp2_with fail
  refine (HE.out _).mono ?_
  rintro e w3 ⟨rfl, hb3⟩
  have z3 := Nat.le_trans z2 hb3.size
  have F3 := hid (F2.out.below z2 hb3)
  have B3 := hid (B2.out.trans (hb3.mono z2))
  clear hb3
  go_wp2_with fail
  refine (HE2.out _).mono ?_
  rintro e w4 ⟨rfl, hb4⟩
  have z4 := Nat.le_trans z3 hb4.size
  have F4 := hid (F3.out.below z3 hb4)
  have B4 := hid (B3.out.trans (hb4.mono z3))
  clear hb4
  go_wp2_with fail
  refine (HX.out _).mono ?_
  rintro e w5 ⟨rfl, hb5⟩
  have z5 := Nat.le_trans z4 hb5.size
  have F5 := hid (F4.out.below z4 hb5)
  have B5 := hid (B4.out.trans (hb5.mono z4))
  clear hb5
  go_wp2_with fail
  refine (HX2.out _).mono ?_
  rintro e w9 ⟨rfl, rfl⟩
  go_wp2_with fail
  refine (impl_format n _ hn0 hn1 F5.out.pow).mono ?_
  rintro e w6 ⟨rfl, hb6⟩
  have z6 := Nat.le_trans z5 hb6.size
  have F6 := hid (F5.out.below z5 hb6)
  have B6 := hid (B5.out.trans (hb6.mono z5))
  clear hb6
  go_wp2_with fail
  refine (parse_no n _ hn0 hn1 (by omega) F6.out.pow F6.out.sent).mono ?_
  rintro e w7 ⟨rfl, hb7⟩
  have z7 := Nat.le_trans z6 hb7.size
  have F7 := hid (F6.out.below z6 hb7)
  have B7 := hid (B6.out.trans (hb7.mono z6))
  clear hb7
  go_wp2_with fail
  refine (EncodeHex.impl_any tail _ (by omega)).mono ?_
  rintro e w8 ⟨rfl, hb8⟩
  have z8 := Nat.le_trans z7 hb8.size
  have F8 := hid (F7.out.below z7 hb8)
  have B8 := hid (B7.out.trans (hb8.mono z7))
  clear hb8
  go_wp2_with fail
  refine (unhexed tail _ ht).mono ?_
  rintro e w9 ⟨rfl, hb9⟩
  have z9 := Nat.le_trans z8 hb9.size
  have F9 := hid (F8.out.below z8 hb9)
  have B9 := hid (B8.out.trans (hb9.mono z8))
  clear hb9
  go_wp2_with fail
  refine (HD.out _ (F9.out.code.higher z9)).mono ?_
  rintro e w10 ⟨rfl, hb10⟩
  have z10 := Nat.le_trans z9 hb10.size
  have F10 := hid (F9.out.below z9 hb10)
  have B10 := hid (B9.out.trans (hb10.mono z9))
  clear hb10
  go_wp2_with fail
  refine (DecodeVarint.impl_any d _ (by omega)).mono ?_
  rintro e w11 ⟨x, k, hA, rfl, hb11⟩
  have z11 := Nat.le_trans z10 hb11.size
  have F11 := hid (F10.out.below z10 hb11)
  have B11 := hid (B10.out.trans (hb11.mono z10))
  clear hb11
  by_cases hk : k = 0
  · subst hk
    clear hA
    go_wp2_with fail
    go_ret
    exact ⟨rfl, B11.out⟩
  · obtain ⟨k1, k7, ks, kx, kv⟩ := sans_prefix d x k hA hk
    have HK := hid kv
    have k0 : (0 : Int) < (k : Int) := by omega
    have ks1 : (k : Int) ≤ (d.size : Int) := by omega
    clear hA kv
    go_wp2_with fail
    refine (HD.out _ (F11.out.code.higher z11)).mono ?_
    rintro e w12 ⟨rfl, hb12⟩
    have z12 := Nat.le_trans z11 hb12.size
    have F12 := hid (F11.out.below z11 hb12)
    have B12 := hid (B11.out.trans (hb12.mono z11))
    clear hb12
    go_wp2_with fail
    refine (HD.out _ (F12.out.code.higher z12)).mono ?_
    rintro e w13 ⟨rfl, hb13⟩
    have z13 := Nat.le_trans z12 hb13.size
    have F13 := hid (F12.out.below z12 hb13)
    have B13 := hid (B12.out.trans (hb13.mono z12))
    clear hb13
    go_wp2_with fail
    refine (EncodeVarint.impl_yes x _ kx).mono ?_
    rintro e w14 ⟨rfl, hb14⟩
    have z14 := Nat.le_trans z13 hb14.size
    have F14 := hid (F13.out.below z13 hb14)
    have B14 := hid (B13.out.trans (hb14.mono z13))
    clear hb14
    go_wp2_with fail
    refine (HD.out _ (F14.out.code.higher z14)).mono ?_
    rintro e w15 ⟨rfl, hb15⟩
    have z15 := Nat.le_trans z14 hb15.size
    have B15 := hid (B14.out.trans (hb15.mono z14))
    clear hb15
    go_wp2_with fail
    go_ret
    exact ⟨by rw [HK.out]; simp, B15.out⟩

set_option maxRecDepth 100000 in
set_option maxHeartbeats 1600000 in
theorem core_wide (w : World) (sv : Value) (l : List UInt8) (hl : l.length ≤ 1048576) (hf : Facts w.heap.size sv l w) (hcase : 562949953421311 < (numD l) ∧ (numD l) < 72057594037927936) :
    Calls Tryd.prog 3 #[sv] w fun e w' => e = .returned (.bool true) ∧ Below w.heap.size w w' := by
  have HN := hid fun (W : World) (h : Cur.Code W W.heap.size sv l) => draw_num W sv l hl h
  have HT := hid fun (W : World) (h : Cur.Code W W.heap.size sv l) => draw_tail W sv l hl h
  have HD := hid fun (W : World) (h : Cur.Code W W.heap.size sv l) => draw_dec W sv l hl h
  have hn := NumDraw.numF_bounds l (first l)
  have ht : (tailD l).size ≤ 40 := by
    have := TextDraw.textF_length l 40 (first l)
    show (TextDraw.textF l 40 (first l)).1.toArray.size ≤ 40
    rw [List.size_toArray]
    exact this
  have hd := decD_size l
  have hn' : numD l = (NumDraw.numF l (first l)).1 := rfl
  rw [← hn'] at hn
  clear hn'
  generalize numD l = n at HN hn hcase
  generalize tailD l = tail at HT ht
  generalize decD l = d at HD hd
  obtain ⟨hn0, hn1⟩ := hn
  have HF := hid hf
  have HBig := hid (big_code sv l w _ hf.code hl)
  clear hf hl
  have h1 : 0 ≤ n := by omega
  have h2 : 1000000000 ≤ n := by omega
  have h3 : 562949953421311 < n := by omega
  have h4 : n < 72057594037927936 := by omega
  have h5 : -1000000000 < n := by omega
  clear hcase
  have HE := hid fun W => enc n W
  rw [encF_none n (by omega)] at HE
  have HX := hid fun W => fix n W hn1
  have HX2 := hid fun W => defix n tail W ⟨by omega, by omega⟩ ht
  have hx := fixF_ne n ⟨by omega, by omega⟩
  have hxs := hid (fixF_size n ⟨by omega, by omega⟩)
  have hxb : (fixF n).size ≤ 7 := by rw [hxs.out]; omega
  generalize fixF n = t at HX HX2 hx hxs hxb
  have hx7 : (t.size : Int) = 7 := by rw [hxs.out]; rfl
  go_enter Tryd.func3, Tryd.ntmps3
  go_wp2_with fail
  refine HBig.out.mono ?_
  rintro e w0 ⟨rfl, rfl⟩
  go_wp2_with fail
  refine (HN.out _ HF.out.code).mono ?_
  rintro e w1 ⟨rfl, hb1⟩
  have z1 := hb1.size
  have F1 := hid (HF.out.below (Nat.le_refl _) hb1)
  have B1 := hid hb1
  clear hb1
  go_wp2_with fail
  refine (HT.out _ (F1.out.code.higher z1)).mono ?_
  rintro e w2 ⟨rfl, hb2⟩
  have z2 := Nat.le_trans z1 hb2.size
  have F2 := hid (F1.out.below z1 hb2)
  have B2 := hid (B1.out.trans (hb2.mono z1))
  clear hb2
  go_wp2_with fail
  refine (HE.out _).mono ?_
  rintro e w3 ⟨rfl, hb3⟩
  have z3 := Nat.le_trans z2 hb3.size
  have F3 := hid (F2.out.below z2 hb3)
  have B3 := hid (B2.out.trans (hb3.mono z2))
  clear hb3
  go_wp2_with fail
  refine (DecodeVarint.impl_any tail _ (by omega)).mono ?_
  rintro e w4 ⟨x0, k0, hA0, rfl, hb4⟩
  clear hA0
  have z4 := Nat.le_trans z3 hb4.size
  have F4 := hid (F3.out.below z3 hb4)
  have B4 := hid (B3.out.trans (hb4.mono z3))
  clear hb4
  go_wp2_with fail
  refine (HX.out _).mono ?_
  rintro e w5 ⟨rfl, hb5⟩
  have z5 := Nat.le_trans z4 hb5.size
  have F5 := hid (F4.out.below z4 hb5)
  have B5 := hid (B4.out.trans (hb5.mono z4))
  clear hb5
  go_wp2_with fail
  refine (HX2.out _).mono ?_
  rintro e w9 ⟨rfl, rfl⟩
  go_wp2_with fail
  refine (impl_format n _ hn0 hn1 F5.out.pow).mono ?_
  rintro e w6 ⟨rfl, hb6⟩
  have z6 := Nat.le_trans z5 hb6.size
  have F6 := hid (F5.out.below z5 hb6)
  have B6 := hid (B5.out.trans (hb6.mono z5))
  clear hb6
  go_wp2_with fail
  refine (parse_no n _ hn0 hn1 (by omega) F6.out.pow F6.out.sent).mono ?_
  rintro e w7 ⟨rfl, hb7⟩
  have z7 := Nat.le_trans z6 hb7.size
  have F7 := hid (F6.out.below z6 hb7)
  have B7 := hid (B6.out.trans (hb7.mono z6))
  clear hb7
  go_wp2_with fail
  refine (EncodeHex.impl_any tail _ (by omega)).mono ?_
  rintro e w8 ⟨rfl, hb8⟩
  have z8 := Nat.le_trans z7 hb8.size
  have F8 := hid (F7.out.below z7 hb8)
  have B8 := hid (B7.out.trans (hb8.mono z7))
  clear hb8
  go_wp2_with fail
  refine (unhexed tail _ ht).mono ?_
  rintro e w9 ⟨rfl, hb9⟩
  have z9 := Nat.le_trans z8 hb9.size
  have F9 := hid (F8.out.below z8 hb9)
  have B9 := hid (B8.out.trans (hb9.mono z8))
  clear hb9
  go_wp2_with fail
  refine (HD.out _ (F9.out.code.higher z9)).mono ?_
  rintro e w10 ⟨rfl, hb10⟩
  have z10 := Nat.le_trans z9 hb10.size
  have F10 := hid (F9.out.below z9 hb10)
  have B10 := hid (B9.out.trans (hb10.mono z9))
  clear hb10
  go_wp2_with fail
  refine (DecodeVarint.impl_any d _ (by omega)).mono ?_
  rintro e w11 ⟨x, k, hA, rfl, hb11⟩
  have z11 := Nat.le_trans z10 hb11.size
  have F11 := hid (F10.out.below z10 hb11)
  have B11 := hid (B10.out.trans (hb11.mono z10))
  clear hb11
  by_cases hk : k = 0
  · subst hk
    clear hA
    go_wp2_with fail
    go_ret
    exact ⟨rfl, B11.out⟩
  · obtain ⟨k1, k7, ks, kx, kv⟩ := sans_prefix d x k hA hk
    have HK := hid kv
    have k0 : (0 : Int) < (k : Int) := by omega
    have ks1 : (k : Int) ≤ (d.size : Int) := by omega
    clear hA kv
    go_wp2_with fail
    refine (HD.out _ (F11.out.code.higher z11)).mono ?_
    rintro e w12 ⟨rfl, hb12⟩
    have z12 := Nat.le_trans z11 hb12.size
    have F12 := hid (F11.out.below z11 hb12)
    have B12 := hid (B11.out.trans (hb12.mono z11))
    clear hb12
    go_wp2_with fail
    refine (HD.out _ (F12.out.code.higher z12)).mono ?_
    rintro e w13 ⟨rfl, hb13⟩
    have z13 := Nat.le_trans z12 hb13.size
    have F13 := hid (F12.out.below z12 hb13)
    have B13 := hid (B12.out.trans (hb13.mono z12))
    clear hb13
    go_wp2_with fail
    refine (EncodeVarint.impl_yes x _ kx).mono ?_
    rintro e w14 ⟨rfl, hb14⟩
    have z14 := Nat.le_trans z13 hb14.size
    have F14 := hid (F13.out.below z13 hb14)
    have B14 := hid (B13.out.trans (hb14.mono z13))
    clear hb14
    go_wp2_with fail
    refine (HD.out _ (F14.out.code.higher z14)).mono ?_
    rintro e w15 ⟨rfl, hb15⟩
    have z15 := Nat.le_trans z14 hb15.size
    have B15 := hid (B14.out.trans (hb15.mono z14))
    clear hb15
    go_wp2_with fail
    go_ret
    exact ⟨by rw [HK.out]; simp, B15.out⟩

set_option maxRecDepth 100000 in
set_option maxHeartbeats 1600000 in
theorem core_huge (w : World) (sv : Value) (l : List UInt8) (hl : l.length ≤ 1048576) (hf : Facts w.heap.size sv l w) (hcase : 72057594037927936 ≤ (numD l) ∧ True) :
    Calls Tryd.prog 3 #[sv] w fun e w' => e = .returned (.bool true) ∧ Below w.heap.size w w' := by
  have HN := hid fun (W : World) (h : Cur.Code W W.heap.size sv l) => draw_num W sv l hl h
  have HT := hid fun (W : World) (h : Cur.Code W W.heap.size sv l) => draw_tail W sv l hl h
  have HD := hid fun (W : World) (h : Cur.Code W W.heap.size sv l) => draw_dec W sv l hl h
  have hn := NumDraw.numF_bounds l (first l)
  have ht : (tailD l).size ≤ 40 := by
    have := TextDraw.textF_length l 40 (first l)
    show (TextDraw.textF l 40 (first l)).1.toArray.size ≤ 40
    rw [List.size_toArray]
    exact this
  have hd := decD_size l
  have hn' : numD l = (NumDraw.numF l (first l)).1 := rfl
  rw [← hn'] at hn
  clear hn'
  generalize numD l = n at HN hn hcase
  generalize tailD l = tail at HT ht
  generalize decD l = d at HD hd
  obtain ⟨hn0, hn1⟩ := hn
  have HF := hid hf
  have HBig := hid (big_code sv l w _ hf.code hl)
  clear hf hl
  have h1 : 0 ≤ n := by omega
  have h2 : 1000000000 ≤ n := by omega
  have h3 : 562949953421311 < n := by omega
  have h4 : 72057594037927936 ≤ n := by omega
  have h5 : -1000000000 < n := by omega
  clear hcase
  have HE := hid fun W => enc n W
  rw [encF_none n (by omega)] at HE
  have HX := hid fun W => fix n W hn1
  rw [fixF_none n (by omega)] at HX
  go_enter Tryd.func3, Tryd.ntmps3
  go_wp2_with fail
  refine HBig.out.mono ?_
  rintro e w0 ⟨rfl, rfl⟩
  go_wp2_with fail
  refine (HN.out _ HF.out.code).mono ?_
  rintro e w1 ⟨rfl, hb1⟩
  have z1 := hb1.size
  have F1 := hid (HF.out.below (Nat.le_refl _) hb1)
  have B1 := hid hb1
  clear hb1
  go_wp2_with fail
  refine (HT.out _ (F1.out.code.higher z1)).mono ?_
  rintro e w2 ⟨rfl, hb2⟩
  have z2 := Nat.le_trans z1 hb2.size
  have F2 := hid (F1.out.below z1 hb2)
  have B2 := hid (B1.out.trans (hb2.mono z1))
  clear hb2
  go_wp2_with fail
  refine (HE.out _).mono ?_
  rintro e w3 ⟨rfl, hb3⟩
  have z3 := Nat.le_trans z2 hb3.size
  have F3 := hid (F2.out.below z2 hb3)
  have B3 := hid (B2.out.trans (hb3.mono z2))
  clear hb3
  go_wp2_with fail
  refine (DecodeVarint.impl_any tail _ (by omega)).mono ?_
  rintro e w4 ⟨x0, k0, hA0, rfl, hb4⟩
  clear hA0
  have z4 := Nat.le_trans z3 hb4.size
  have F4 := hid (F3.out.below z3 hb4)
  have B4 := hid (B3.out.trans (hb4.mono z3))
  clear hb4
  go_wp2_with fail
  refine (HX.out _).mono ?_
  rintro e w5 ⟨rfl, hb5⟩
  have z5 := Nat.le_trans z4 hb5.size
  have F5 := hid (F4.out.below z4 hb5)
  have B5 := hid (B4.out.trans (hb5.mono z4))
  clear hb5
  go_wp2_with fail
  refine (defix_any tail _ (by omega)).mono ?_
  rintro e w9 ⟨y0, i0, rfl, rfl⟩
  go_wp2_with fail
  refine (impl_format n _ hn0 hn1 F5.out.pow).mono ?_
  rintro e w6 ⟨rfl, hb6⟩
  have z6 := Nat.le_trans z5 hb6.size
  have F6 := hid (F5.out.below z5 hb6)
  have B6 := hid (B5.out.trans (hb6.mono z5))
  clear hb6
  go_wp2_with fail
  refine (parse_no n _ hn0 hn1 (by omega) F6.out.pow F6.out.sent).mono ?_
  rintro e w7 ⟨rfl, hb7⟩
  have z7 := Nat.le_trans z6 hb7.size
  have F7 := hid (F6.out.below z6 hb7)
  have B7 := hid (B6.out.trans (hb7.mono z6))
  clear hb7
  go_wp2_with fail
  refine (EncodeHex.impl_any tail _ (by omega)).mono ?_
  rintro e w8 ⟨rfl, hb8⟩
  have z8 := Nat.le_trans z7 hb8.size
  have F8 := hid (F7.out.below z7 hb8)
  have B8 := hid (B7.out.trans (hb8.mono z7))
  clear hb8
  go_wp2_with fail
  refine (unhexed tail _ ht).mono ?_
  rintro e w9 ⟨rfl, hb9⟩
  have z9 := Nat.le_trans z8 hb9.size
  have F9 := hid (F8.out.below z8 hb9)
  have B9 := hid (B8.out.trans (hb9.mono z8))
  clear hb9
  go_wp2_with fail
  refine (HD.out _ (F9.out.code.higher z9)).mono ?_
  rintro e w10 ⟨rfl, hb10⟩
  have z10 := Nat.le_trans z9 hb10.size
  have F10 := hid (F9.out.below z9 hb10)
  have B10 := hid (B9.out.trans (hb10.mono z9))
  clear hb10
  go_wp2_with fail
  refine (DecodeVarint.impl_any d _ (by omega)).mono ?_
  rintro e w11 ⟨x, k, hA, rfl, hb11⟩
  have z11 := Nat.le_trans z10 hb11.size
  have F11 := hid (F10.out.below z10 hb11)
  have B11 := hid (B10.out.trans (hb11.mono z10))
  clear hb11
  by_cases hk : k = 0
  · subst hk
    clear hA
    go_wp2_with fail
    go_ret
    exact ⟨rfl, B11.out⟩
  · obtain ⟨k1, k7, ks, kx, kv⟩ := sans_prefix d x k hA hk
    have HK := hid kv
    have k0 : (0 : Int) < (k : Int) := by omega
    have ks1 : (k : Int) ≤ (d.size : Int) := by omega
    clear hA kv
    go_wp2_with fail
    refine (HD.out _ (F11.out.code.higher z11)).mono ?_
    rintro e w12 ⟨rfl, hb12⟩
    have z12 := Nat.le_trans z11 hb12.size
    have F12 := hid (F11.out.below z11 hb12)
    have B12 := hid (B11.out.trans (hb12.mono z11))
    clear hb12
    go_wp2_with fail
    refine (HD.out _ (F12.out.code.higher z12)).mono ?_
    rintro e w13 ⟨rfl, hb13⟩
    have z13 := Nat.le_trans z12 hb13.size
    have F13 := hid (F12.out.below z12 hb13)
    have B13 := hid (B12.out.trans (hb13.mono z12))
    clear hb13
    go_wp2_with fail
    refine (EncodeVarint.impl_yes x _ kx).mono ?_
    rintro e w14 ⟨rfl, hb14⟩
    have z14 := Nat.le_trans z13 hb14.size
    have F14 := hid (F13.out.below z13 hb14)
    have B14 := hid (B13.out.trans (hb14.mono z13))
    clear hb14
    go_wp2_with fail
    refine (HD.out _ (F14.out.code.higher z14)).mono ?_
    rintro e w15 ⟨rfl, hb15⟩
    have z15 := Nat.le_trans z14 hb15.size
    have B15 := hid (B14.out.trans (hb15.mono z14))
    clear hb15
    go_wp2_with fail
    go_ret
    exact ⟨by rw [HK.out]; simp, B15.out⟩

set_option maxRecDepth 100000 in
set_option maxHeartbeats 1600000 in
theorem core_neg (w : World) (sv : Value) (l : List UInt8) (hl : l.length ≤ 1048576) (hf : Facts w.heap.size sv l w) (hcase : -1000000000 < (numD l) ∧ (numD l) < 0) :
    Calls Tryd.prog 3 #[sv] w fun e w' => e = .returned (.bool true) ∧ Below w.heap.size w w' := by
  have HN := hid fun (W : World) (h : Cur.Code W W.heap.size sv l) => draw_num W sv l hl h
  have HT := hid fun (W : World) (h : Cur.Code W W.heap.size sv l) => draw_tail W sv l hl h
  have HD := hid fun (W : World) (h : Cur.Code W W.heap.size sv l) => draw_dec W sv l hl h
  have hn := NumDraw.numF_bounds l (first l)
  have ht : (tailD l).size ≤ 40 := by
    have := TextDraw.textF_length l 40 (first l)
    show (TextDraw.textF l 40 (first l)).1.toArray.size ≤ 40
    rw [List.size_toArray]
    exact this
  have hd := decD_size l
  have hn' : numD l = (NumDraw.numF l (first l)).1 := rfl
  rw [← hn'] at hn
  clear hn'
  generalize numD l = n at HN hn hcase
  generalize tailD l = tail at HT ht
  generalize decD l = d at HD hd
  obtain ⟨hn0, hn1⟩ := hn
  have HF := hid hf
  have HBig := hid (big_code sv l w _ hf.code hl)
  clear hf hl
  have h1 : n < 0 := by omega
  have h2 : n < 1000000000 := by omega
  have h3 : n ≤ 562949953421311 := by omega
  have h4 : n < 72057594037927936 := by omega
  have h5 : -1000000000 < n := by omega
  clear hcase
  have HE := hid fun W => enc n W
  rw [encF_none n (by omega)] at HE
  have HX := hid fun W => fix n W hn1
  rw [fixF_none n (by omega)] at HX
  go_enter Tryd.func3, Tryd.ntmps3
  go_wp2_with fail
  refine HBig.out.mono ?_
  rintro e w0 ⟨rfl, rfl⟩
  go_wp2_with fail
  refine (HN.out _ HF.out.code).mono ?_
  rintro e w1 ⟨rfl, hb1⟩
  have z1 := hb1.size
  have F1 := hid (HF.out.below (Nat.le_refl _) hb1)
  have B1 := hid hb1
  clear hb1
  go_wp2_with fail
  refine (HT.out _ (F1.out.code.higher z1)).mono ?_
  rintro e w2 ⟨rfl, hb2⟩
  have z2 := Nat.le_trans z1 hb2.size
  have F2 := hid (F1.out.below z1 hb2)
  have B2 := hid (B1.out.trans (hb2.mono z1))
  clear hb2
  go_wp2_with fail
  refine (HE.out _).mono ?_
  rintro e w3 ⟨rfl, hb3⟩
  have z3 := Nat.le_trans z2 hb3.size
  have F3 := hid (F2.out.below z2 hb3)
  have B3 := hid (B2.out.trans (hb3.mono z2))
  clear hb3
  go_wp2_with fail
  refine (DecodeVarint.impl_any tail _ (by omega)).mono ?_
  rintro e w4 ⟨x0, k0, hA0, rfl, hb4⟩
  clear hA0
  have z4 := Nat.le_trans z3 hb4.size
  have F4 := hid (F3.out.below z3 hb4)
  have B4 := hid (B3.out.trans (hb4.mono z3))
  clear hb4
  go_wp2_with fail
  refine (HX.out _).mono ?_
  rintro e w5 ⟨rfl, hb5⟩
  have z5 := Nat.le_trans z4 hb5.size
  have F5 := hid (F4.out.below z4 hb5)
  have B5 := hid (B4.out.trans (hb5.mono z4))
  clear hb5
  go_wp2_with fail
  refine (defix_any tail _ (by omega)).mono ?_
  rintro e w9 ⟨y0, i0, rfl, rfl⟩
  go_wp2_with fail
  refine (impl_format n _ hn0 hn1 F5.out.pow).mono ?_
  rintro e w6 ⟨rfl, hb6⟩
  have z6 := Nat.le_trans z5 hb6.size
  have F6 := hid (F5.out.below z5 hb6)
  have B6 := hid (B5.out.trans (hb6.mono z5))
  clear hb6
  go_wp2_with fail
  refine (parse_yes n _ h5 h2 F6.out.pow F6.out.sent).mono ?_
  rintro e w7 ⟨rfl, hb7⟩
  have z7 := Nat.le_trans z6 hb7.size
  have F7 := hid (F6.out.below z6 hb7)
  have B7 := hid (B6.out.trans (hb7.mono z6))
  clear hb7
  go_wp2_with fail
  refine (EncodeHex.impl_any tail _ (by omega)).mono ?_
  rintro e w8 ⟨rfl, hb8⟩
  have z8 := Nat.le_trans z7 hb8.size
  have F8 := hid (F7.out.below z7 hb8)
  have B8 := hid (B7.out.trans (hb8.mono z7))
  clear hb8
  go_wp2_with fail
  refine (unhexed tail _ ht).mono ?_
  rintro e w9 ⟨rfl, hb9⟩
  have z9 := Nat.le_trans z8 hb9.size
  have F9 := hid (F8.out.below z8 hb9)
  have B9 := hid (B8.out.trans (hb9.mono z8))
  clear hb9
  go_wp2_with fail
  refine (HD.out _ (F9.out.code.higher z9)).mono ?_
  rintro e w10 ⟨rfl, hb10⟩
  have z10 := Nat.le_trans z9 hb10.size
  have F10 := hid (F9.out.below z9 hb10)
  have B10 := hid (B9.out.trans (hb10.mono z9))
  clear hb10
  go_wp2_with fail
  refine (DecodeVarint.impl_any d _ (by omega)).mono ?_
  rintro e w11 ⟨x, k, hA, rfl, hb11⟩
  have z11 := Nat.le_trans z10 hb11.size
  have F11 := hid (F10.out.below z10 hb11)
  have B11 := hid (B10.out.trans (hb11.mono z10))
  clear hb11
  by_cases hk : k = 0
  · subst hk
    clear hA
    go_wp2_with fail
    go_ret
    exact ⟨rfl, B11.out⟩
  · obtain ⟨k1, k7, ks, kx, kv⟩ := sans_prefix d x k hA hk
    have HK := hid kv
    have k0 : (0 : Int) < (k : Int) := by omega
    have ks1 : (k : Int) ≤ (d.size : Int) := by omega
    clear hA kv
    go_wp2_with fail
    refine (HD.out _ (F11.out.code.higher z11)).mono ?_
    rintro e w12 ⟨rfl, hb12⟩
    have z12 := Nat.le_trans z11 hb12.size
    have F12 := hid (F11.out.below z11 hb12)
    have B12 := hid (B11.out.trans (hb12.mono z11))
    clear hb12
    go_wp2_with fail
    refine (HD.out _ (F12.out.code.higher z12)).mono ?_
    rintro e w13 ⟨rfl, hb13⟩
    have z13 := Nat.le_trans z12 hb13.size
    have F13 := hid (F12.out.below z12 hb13)
    have B13 := hid (B12.out.trans (hb13.mono z12))
    clear hb13
    go_wp2_with fail
    refine (EncodeVarint.impl_yes x _ kx).mono ?_
    rintro e w14 ⟨rfl, hb14⟩
    have z14 := Nat.le_trans z13 hb14.size
    have F14 := hid (F13.out.below z13 hb14)
    have B14 := hid (B13.out.trans (hb14.mono z13))
    clear hb14
    go_wp2_with fail
    refine (HD.out _ (F14.out.code.higher z14)).mono ?_
    rintro e w15 ⟨rfl, hb15⟩
    have z15 := Nat.le_trans z14 hb15.size
    have B15 := hid (B14.out.trans (hb15.mono z14))
    clear hb15
    go_wp2_with fail
    go_ret
    exact ⟨by rw [HK.out]; simp, B15.out⟩

set_option maxRecDepth 100000 in
set_option maxHeartbeats 1600000 in
theorem core_low (w : World) (sv : Value) (l : List UInt8) (hl : l.length ≤ 1048576) (hf : Facts w.heap.size sv l w) (hcase : (numD l) ≤ -1000000000 ∧ True) :
    Calls Tryd.prog 3 #[sv] w fun e w' => e = .returned (.bool true) ∧ Below w.heap.size w w' := by
  have HN := hid fun (W : World) (h : Cur.Code W W.heap.size sv l) => draw_num W sv l hl h
  have HT := hid fun (W : World) (h : Cur.Code W W.heap.size sv l) => draw_tail W sv l hl h
  have HD := hid fun (W : World) (h : Cur.Code W W.heap.size sv l) => draw_dec W sv l hl h
  have hn := NumDraw.numF_bounds l (first l)
  have ht : (tailD l).size ≤ 40 := by
    have := TextDraw.textF_length l 40 (first l)
    show (TextDraw.textF l 40 (first l)).1.toArray.size ≤ 40
    rw [List.size_toArray]
    exact this
  have hd := decD_size l
  have hn' : numD l = (NumDraw.numF l (first l)).1 := rfl
  rw [← hn'] at hn
  clear hn'
  generalize numD l = n at HN hn hcase
  generalize tailD l = tail at HT ht
  generalize decD l = d at HD hd
  obtain ⟨hn0, hn1⟩ := hn
  have HF := hid hf
  have HBig := hid (big_code sv l w _ hf.code hl)
  clear hf hl
  have h1 : n < 0 := by omega
  have h2 : n < 1000000000 := by omega
  have h3 : n ≤ 562949953421311 := by omega
  have h4 : n < 72057594037927936 := by omega
  have h5 : n ≤ -1000000000 := by omega
  clear hcase
  have HE := hid fun W => enc n W
  rw [encF_none n (by omega)] at HE
  have HX := hid fun W => fix n W hn1
  rw [fixF_none n (by omega)] at HX
  go_enter Tryd.func3, Tryd.ntmps3
  go_wp2_with fail
  refine HBig.out.mono ?_
  rintro e w0 ⟨rfl, rfl⟩
  go_wp2_with fail
  refine (HN.out _ HF.out.code).mono ?_
  rintro e w1 ⟨rfl, hb1⟩
  have z1 := hb1.size
  have F1 := hid (HF.out.below (Nat.le_refl _) hb1)
  have B1 := hid hb1
  clear hb1
  go_wp2_with fail
  refine (HT.out _ (F1.out.code.higher z1)).mono ?_
  rintro e w2 ⟨rfl, hb2⟩
  have z2 := Nat.le_trans z1 hb2.size
  have F2 := hid (F1.out.below z1 hb2)
  have B2 := hid (B1.out.trans (hb2.mono z1))
  clear hb2
  go_wp2_with fail
  refine (HE.out _).mono ?_
  rintro e w3 ⟨rfl, hb3⟩
  have z3 := Nat.le_trans z2 hb3.size
  have F3 := hid (F2.out.below z2 hb3)
  have B3 := hid (B2.out.trans (hb3.mono z2))
  clear hb3
  go_wp2_with fail
  refine (DecodeVarint.impl_any tail _ (by omega)).mono ?_
  rintro e w4 ⟨x0, k0, hA0, rfl, hb4⟩
  clear hA0
  have z4 := Nat.le_trans z3 hb4.size
  have F4 := hid (F3.out.below z3 hb4)
  have B4 := hid (B3.out.trans (hb4.mono z3))
  clear hb4
  go_wp2_with fail
  refine (HX.out _).mono ?_
  rintro e w5 ⟨rfl, hb5⟩
  have z5 := Nat.le_trans z4 hb5.size
  have F5 := hid (F4.out.below z4 hb5)
  have B5 := hid (B4.out.trans (hb5.mono z4))
  clear hb5
  go_wp2_with fail
  refine (defix_any tail _ (by omega)).mono ?_
  rintro e w9 ⟨y0, i0, rfl, rfl⟩
  go_wp2_with fail
  refine (impl_format n _ hn0 hn1 F5.out.pow).mono ?_
  rintro e w6 ⟨rfl, hb6⟩
  have z6 := Nat.le_trans z5 hb6.size
  have F6 := hid (F5.out.below z5 hb6)
  have B6 := hid (B5.out.trans (hb6.mono z5))
  clear hb6
  go_wp2_with fail
  refine (parse_no n _ hn0 hn1 (by omega) F6.out.pow F6.out.sent).mono ?_
  rintro e w7 ⟨rfl, hb7⟩
  have z7 := Nat.le_trans z6 hb7.size
  have F7 := hid (F6.out.below z6 hb7)
  have B7 := hid (B6.out.trans (hb7.mono z6))
  clear hb7
  go_wp2_with fail
  refine (EncodeHex.impl_any tail _ (by omega)).mono ?_
  rintro e w8 ⟨rfl, hb8⟩
  have z8 := Nat.le_trans z7 hb8.size
  have F8 := hid (F7.out.below z7 hb8)
  have B8 := hid (B7.out.trans (hb8.mono z7))
  clear hb8
  go_wp2_with fail
  refine (unhexed tail _ ht).mono ?_
  rintro e w9 ⟨rfl, hb9⟩
  have z9 := Nat.le_trans z8 hb9.size
  have F9 := hid (F8.out.below z8 hb9)
  have B9 := hid (B8.out.trans (hb9.mono z8))
  clear hb9
  go_wp2_with fail
  refine (HD.out _ (F9.out.code.higher z9)).mono ?_
  rintro e w10 ⟨rfl, hb10⟩
  have z10 := Nat.le_trans z9 hb10.size
  have F10 := hid (F9.out.below z9 hb10)
  have B10 := hid (B9.out.trans (hb10.mono z9))
  clear hb10
  go_wp2_with fail
  refine (DecodeVarint.impl_any d _ (by omega)).mono ?_
  rintro e w11 ⟨x, k, hA, rfl, hb11⟩
  have z11 := Nat.le_trans z10 hb11.size
  have F11 := hid (F10.out.below z10 hb11)
  have B11 := hid (B10.out.trans (hb11.mono z10))
  clear hb11
  by_cases hk : k = 0
  · subst hk
    clear hA
    go_wp2_with fail
    go_ret
    exact ⟨rfl, B11.out⟩
  · obtain ⟨k1, k7, ks, kx, kv⟩ := sans_prefix d x k hA hk
    have HK := hid kv
    have k0 : (0 : Int) < (k : Int) := by omega
    have ks1 : (k : Int) ≤ (d.size : Int) := by omega
    clear hA kv
    go_wp2_with fail
    refine (HD.out _ (F11.out.code.higher z11)).mono ?_
    rintro e w12 ⟨rfl, hb12⟩
    have z12 := Nat.le_trans z11 hb12.size
    have F12 := hid (F11.out.below z11 hb12)
    have B12 := hid (B11.out.trans (hb12.mono z11))
    clear hb12
    go_wp2_with fail
    refine (HD.out _ (F12.out.code.higher z12)).mono ?_
    rintro e w13 ⟨rfl, hb13⟩
    have z13 := Nat.le_trans z12 hb13.size
    have F13 := hid (F12.out.below z12 hb13)
    have B13 := hid (B12.out.trans (hb13.mono z12))
    clear hb13
    go_wp2_with fail
    refine (EncodeVarint.impl_yes x _ kx).mono ?_
    rintro e w14 ⟨rfl, hb14⟩
    have z14 := Nat.le_trans z13 hb14.size
    have F14 := hid (F13.out.below z13 hb14)
    have B14 := hid (B13.out.trans (hb14.mono z13))
    clear hb14
    go_wp2_with fail
    refine (HD.out _ (F14.out.code.higher z14)).mono ?_
    rintro e w15 ⟨rfl, hb15⟩
    have z15 := Nat.le_trans z14 hb15.size
    have B15 := hid (B14.out.trans (hb15.mono z14))
    clear hb15
    go_wp2_with fail
    go_ret
    exact ⟨by rw [HK.out]; simp, B15.out⟩


theorem walk (w : World) (sv : Value) (l : List UInt8) (hl : l.length ≤ 1048576) (hf : Facts w.heap.size sv l w) :
    Calls Tryd.prog 3 #[sv] w fun e w' => e = .returned (.bool true) ∧ Below w.heap.size w w' := by
  by_cases h1 : 0 ≤ numD l
  · by_cases h2 : numD l < 1000000000
    · exact core_pos w sv l hl hf ⟨h1, h2⟩
    · by_cases h3 : numD l ≤ 562949953421311
      · exact core_big w sv l hl hf ⟨by omega, h3⟩
      · by_cases h4 : numD l < 72057594037927936
        · exact core_wide w sv l hl hf ⟨by omega, h4⟩
        · exact core_huge w sv l hl hf ⟨by omega, trivial⟩
  · by_cases h2 : -1000000000 < numD l
    · exact core_neg w sv l hl hf ⟨h2, by omega⟩
    · exact core_low w sv l hl hf ⟨by omega, trivial⟩
set_option maxRecDepth 100000 in
theorem walk_big (w : World) (a : Option Addr) (n cap : Nat) (h : 1048576 < n) (h2 : n ≤ 9223372036854775807) :
    Calls Tryd.prog 3 #[.slice a n cap] w fun e w' => e = .returned (.bool true) ∧ Below w.heap.size w w' := by
  have H := hid (big_yes a n cap w h h2)
  clear h h2
  go_enter Tryd.func3, Tryd.ntmps3
  go_wp2_with fail
  refine H.out.mono ?_
  rintro e w0 ⟨rfl, rfl⟩
  go_wp2_with fail
  go_ret
  exact ⟨rfl, Below.refl _ _⟩

theorem own : ownKnob Tryd.prog.godebug = none := by kernel_rfl
theorem laidOut : laidOutB Tryd.prog = true := by kernel_rfl
theorem cellsByte : Tryd.prog.cellsOf 5 = 1 := by kernel_rfl

theorem laid_met (os : Os) : laidMet Tryd.prog Rows.fnEncodingsRow.laid ((laidWorld os).forCall (fun _ _ => 0) ⟨#[], #[.slice none 0 0], []⟩).memory :=
  laidMet_of_run' 8 (by kernel_rfl) (by kernel_rfl)
theorem reads (os : Os) {H : Type} (enc : TypeId × Value → H) : ∃ places, DataW.whole enc Tryd.prog ((laidWorld os).forCall (fun _ _ => 0) ⟨#[], #[.slice none 0 0], []⟩).memory Tryd.f3.params.toList Rows.fnEncodingsSpec.vars false #[Value.slice none 0 0].toList 8 = some ([.nil], [], places) :=
  ⟨[], by kernel_rfl⟩

theorem contract (H : Type) (enc : TypeId × Value → H) (W : World) (base : Nat) (args : Array Value) (ds gs : List (DataW H)) (before : List MemPlace)
    (hval : ∀ (j : Nat) t v, Tryd.f3.params[j]? = some t → args[j]? = some v → Value.okWide Tryd.prog W .any base t v)
    (hW : DataW.Whole enc Tryd.prog Tryd.f3.params.toList Rows.fnEncodingsSpec.vars false W args.toList ds gs before) (hL : laidMetH Tryd.prog Rows.fnEncodingsRow.laid W) :
    Calls Tryd.prog 3 args W fun e W' => ∃ v, e = .returned v ∧ Rows.fnEncodingsSpec.post enc Tryd.prog Tryd.f3 false true false false W args v W' := by
  have hW' := hW
  obtain ⟨p, q, hA0, hV, rfl, hfz, hnd⟩ := hW
  have hA : DataW.TrodAll enc Tryd.prog W 0 (fun _ => true) true Tryd.f3.params.toList args.toList ds p := hA0
  rw [Tryd.params3] at hA hval
  obtain ⟨v0, vs0, d0, ds0, p0, q0, hargs, rfl, rfl, h0, r0⟩ := trodAll_cons hA
  obtain ⟨rfl, rfl, rfl⟩ := trodAll_nil r0
  obtain rfl : args = #[v0] := by cases args; simp_all
  have hend : ∀ W', Below W.heap.size W W' → Rows.fnEncodingsSpec.post enc Tryd.prog Tryd.f3 false true false false W #[v0] (.bool true) W' := fun W' hb =>
    Step.post_true laidOut (by kernel_rfl) (by rfl) Tryd.underlying4 hW' rfl rfl rfl rfl hb
  have hg := gives (show laidMetH Tryd.prog five W from hL)
  rcases CodeArg.open_code Tryd.underlying22 Tryd.underlying5 cellsByte (hval 0 22 v0 rfl rfl) h0 with ⟨l, hl, hc⟩ | ⟨a, n, cap, rfl, h1, h2⟩
  · refine (walk W v0 l hl ⟨hg.1, hg.2, hc⟩).mono fun e W' ⟨he, bel⟩ => ?_
    subst he
    exact ⟨_, rfl, hend W' bel⟩
  · refine (walk_big W a n cap h1 h2).mono fun e W' ⟨he, bel⟩ => ?_
    subst he
    exact ⟨_, rfl, hend W' bel⟩

set_option maxRecDepth 100000 in
theorem lifted (os : Os) (started : os.Started) (H : Type) (enc : TypeId × Value → H) (F : Stop.Interp) :
    ReturnsInHanded {} Tryd.checked os 3 .any ((OpenSpec.ofChange Rows.fnEncodingsSpec).preRow enc Tryd.prog Tryd.f3 Rows.fnEncodingsRow.domain false Rows.fnEncodingsRow.laid) (((OpenSpec.ofChange Rows.fnEncodingsSpec).at F).post enc Tryd.prog Tryd.f3 false true false false) := by
  obtain ⟨places, hx⟩ := reads os enc
  refine returnsInHanded_of_row (C := Tryd.checked) (s := OpenSpec.ofChange Rows.fnEncodingsSpec) own started (by kernel_rfl) Tryd.func3
    (witness_row_at (enc := enc) (C := Tryd.checked) false (laidWorld os) #[.slice none 0 0] rfl (by kernel_rfl) (by kernel_rfl) (by kernel_rfl)
      (OpenSpec.preRow_of_cond 8 hx (by kernel_rfl) (fun k hk => by cases hk) (by kernel_rfl) (laid_met os))) ?_
  intro W base args ds gs before hval hW _ _ _ hL _ _
  exact contract H enc W base args ds gs before hval hW hL

theorem said : Rows.FnEncodingsSaid :=
  OpenClaim.holds_of_cond 3 Tryd.f3 rfl rfl rfl rfl rfl rfl rfl ⟨rfl, rfl, rfl, rfl, rfl⟩ rfl rfl rfl rfl rfl (by kernel_rfl) Tryd.func3 (by kernel_rfl)
    (of_decide_eq_true (by kernel_rfl)) (by unfold Func.isWrapper; first | (rw [if_pos (by decide +kernel)]; kernel_rfl) | (rw [if_neg (by decide +kernel)]; exact ⟨rfl, rfl⟩))
    (fun os started H enc _ F => by rw [OpenClaim.pre_eq_preRow]; exact lifted os started H enc F)

theorem plain (f : FuncId) (fn : Func) (hf : Tryd.pinned.checked.prog.funcNamed "loop.example/g01917/laws.FnEncodings" = some f) (hfn : Tryd.pinned.checked.prog.funcs[f]? = some fn) :
    true = Tryd.pinned.checked.prog.looks [] ∧ ∀ (j : Nat) t, fn.params[j]? = some t → Tryd.pinned.checked.prog.wantsStandIn t = false := by
  obtain rfl : f = 3 := Option.some.inj ((show Tryd.prog.funcNamed "loop.example/g01917/laws.FnEncodings" = some 3 by kernel_rfl).symm.trans hf) |>.symm
  obtain rfl : fn = Tryd.f3 := (Option.some.inj (Tryd.func3.symm.trans hfn)).symm
  refine ⟨by kernel_rfl, fun j t ht => ?_⟩
  rw [Tryd.params3] at ht
  obtain rfl : t = 22 := by simpa using Array.mem_of_getElem? ht
  exact (show Tryd.prog.wantsStandIn 22 = false by kernel_rfl)

theorem card : Rows.FnEncodingsCardSaid :=
  Claim7.holds_tied_plain_at .later [] _ _ _ _ said (fun _ h => by cases h) (by kernel_rfl) (fun _ h => by cases h) fnEncodings_row_tie rfl ⟨rfl, rfl⟩ (by kernel_rfl) rfl plain (by kernel_rfl)
#print axioms card

end Go.Proofs.YteaehhidoiiclaaDoor.Encodings
