/- The draws of texts (spec.l1Text) and of the law's tail (spec.DrawEncodeHex). -/
import Derived.Test.YtnnhkghdlekanaaDraw
import Derived.WalkKit
import Derived.ProofKit
import Derived.OpenShut
import Derived.IntWalk
import Derived.BigQuiet
namespace Go.Proofs.Ytnnhkghdlekanaa.TextDraw
open Go.ChangeShapes Go.WideShapes Go.ChangeAt Go.RowKit
open Go.Proofs.Ytnnhkghdlekanaa.Num Go.Proofs.Ytnnhkghdlekanaa.Row Go.Proofs.Ytnnhkghdlekanaa.Cur Go.Proofs.Ytnnhkghdlekanaa.Draw
set_option linter.unusedVariables false

theorem info : (Try.prog.info? 5).map (fun i => (i.zero, i.size, i.bytes)) = some (some (.int .u8 0), 1, 1) := by kernel_rfl

def adjF (x b : Int) : Int := if x = 1 then b % 2 else if x = 2 then 97 + b % 4 else b
def byteOf (z : Int) : UInt8 := UInt8.ofNat z.toNat
theorem byteOf_int (z : Int) (h0 : 0 ≤ z) (h1 : z ≤ 255) : (((byteOf z).toNat : Nat) : Int) = z := by
  obtain ⟨n, rfl⟩ := Int.eq_ofNat_of_zero_le h0
  unfold byteOf
  rw [Int.toNat_natCast]
  exact byte_of n (by omega)
theorem adjF_bounds (x b : Int) (h0 : 0 ≤ b) (h1 : b ≤ 255) : 0 ≤ adjF x b ∧ adjF x b ≤ 255 := by
  unfold adjF
  split
  · omega
  · split <;> omega

def textLoop (l : List UInt8) (x : Int) : Nat → St → List UInt8 × St
  | 0, s => ([], s)
  | k + 1, s => (byteOf (adjF x (byteF l s).1) :: (textLoop l x k (byteF l s).2).1, (textLoop l x k (byteF l s).2).2)

def textF (l : List UInt8) (most : Int) (s : St) : List UInt8 × St :=
  textLoop l (belowF l 4 s).1 (belowF l (most + 1) (belowF l 4 s).2).1.toNat (belowF l (most + 1) (belowF l 4 s).2).2

theorem textLoop_length (l : List UInt8) (x : Int) (k : Nat) : ∀ s, (textLoop l x k s).1.length = k := by
  induction k with
  | zero => intro s; rfl
  | succ k ih => intro s; simp [textLoop, ih]
theorem textF_length (l : List UInt8) (most : Nat) (s : St) : (textF l most s).1.length ≤ most := by
  unfold textF
  rw [textLoop_length]
  have := belowF_bounds l ((most : Int) + 1) (belowF l 4 s).2 (by omega)
  omega

/-- The way so far: acc has been drawn, k bytes are still to come. -/
def TWay (l : List UInt8) (x : Int) (full : List UInt8 × St) (acc : List UInt8) (k : Nat) (s : St) : Prop := full = (acc ++ (textLoop l x k s).1, (textLoop l x k s).2)
theorem TWay.step {l : List UInt8} {x : Int} {full : List UInt8 × St} {acc : List UInt8} {k : Nat} {s : St} (h : TWay l x full acc (k + 1) s) :
    TWay l x full (acc ++ [byteOf (adjF x (byteF l s).1)]) k (byteF l s).2 := by
  unfold TWay at h ⊢
  rw [h]
  simp [textLoop]
theorem TWay.done {l : List UInt8} {x : Int} {full : List UInt8 × St} {acc : List UInt8} {s : St} (h : TWay l x full acc 0 s) : full = (acc, s) := by
  unfold TWay at h
  rw [h]
  simp [textLoop]

theorem grown_then_below {w wr w' : World} {r : Option Nat} (h : w.grownBy wr r) (hb : Below w.heap.size wr w') : w.grownBy w' r :=
  ⟨hb.os.trans h.os, hb.tape.trans h.tape, hb.output.trans h.output, Nat.le_trans h.size hb.size, fun k hk hr => (hb.block k hk).trans (h.block k hk hr)⟩

theorem owns_moved {w w' : World} {base c : Nat} {e : TypeId} {v : Value} {l : List UInt8} (h : Owns w base e v l) (hg : w.grownBy w' (some c)) (hc : c < base) : Owns w' base e v l := by
  refine World.ownsRow.kept h hg ?_
  cases hb : v.ownBlock with
  | none => exact Or.inl rfl
  | some g => exact Or.inr (fun e => by injection e with e; have := (h.lt g hb).1; omega)

/-- What a draw of a text leaves. -/
def TextAt (c : Nat) (sv : Value) (l : List UInt8) (r : List UInt8 × St) (w : World) (e : Ending) (w' : World) : Prop :=
  e = .returned (.string ⟨r.1.toArray⟩) ∧ Cu w' c sv l r.2 ∧ w.grownBy w' (some c)

set_option maxHeartbeats 1600000 in
set_option maxRecDepth 100000 in
/-- l1Text. -/
theorem text_any (c : Nat) (sv : Value) (l : List UInt8) (s : St) (w : World) (most : Nat) (hm : most ≤ 1000) (hc : Cu w c sv l s) :
    Calls Try.prog 37 #[.pointer (some ⟨c, 0, none⟩), .int .i64 most] w fun e w' => TextAt c sv l (textF l most s) w e w' := by
  obtain ⟨i0, hi, hz0, hz1, hz2⟩ := info_parts info
  have hcl := hc.lt
  have HC0 := hid hc
  have B1 := hid fun w h => below_any c 4 sv l s w h (by omega)
  have d1 := belowF_bounds l 4 s (by omega)
  have hfull : ∃ full, full = textF l most s := ⟨_, rfl⟩
  obtain ⟨full, hfull⟩ := hfull
  rw [← hfull]
  unfold textF at hfull
  clear hc
  generalize belowF l 4 s = r1 at B1 d1 hfull
  obtain ⟨x, s1⟩ := r1
  simp only at *
  have B2 := hid fun w h => below_any c ((most : Int) + 1) sv l s1 w h (by omega)
  have d2 := belowF_bounds l ((most : Int) + 1) s1 (by omega)
  generalize belowF l ((most : Int) + 1) s1 = r2 at B2 d2 hfull
  obtain ⟨y, s2⟩ := r2
  simp only at *
  obtain ⟨y0, y1⟩ := d2
  obtain ⟨x0, x1⟩ := d1
  obtain ⟨n, rfl⟩ := Int.eq_ofNat_of_zero_le y0
  have HW := hid (show TWay l x full [] n s2 by unfold TWay; rw [hfull]; simp)
  clear hfull
  go_enter Try.func37, Try.ntmps37
  go_wp2_with fail
  refine (B1.out _ (HC0.out.below ((Below.refl _ _).alloc (Nat.le_refl _) _) hcl)).mono ?_
  rintro e w1 ⟨rfl, hc1, hg1⟩
  have hsz1 := hg1.size
  have C1 := hid hc1
  have O1 := hid (owns_moved (Owns.made w 5 #[] 0 w.heap.size (Nat.le_refl _) (by decide) rfl) hg1 hcl)
  have G1 := hid (grown_trans (below_grown ((Below.refl _ _).alloc (Nat.le_refl _) (.cells #[] 5))) hg1)
  clear hc1 hg1
  go_wp2_with fail
  refine (B2.out _ C1.out).mono ?_
  rintro e w2 ⟨rfl, hc2, hg2⟩
  have hsz2 := hg2.size
  have C2 := hid hc2
  have O2 := hid (owns_moved O1.out hg2 hcl)
  have G2 := hid (grown_trans G1.out hg2)
  clear hc2 hg2
  simp only [World.size_alloc] at hsz1
  have hs2 : w.heap.size ≤ w2.heap.size := by omega
  go_wp2_with fail
  go_loopw [5, 7, 8] (fun v m b wr => ∃ (k : Nat) (acc : List UInt8) (s4 : St), k ≤ 1000 ∧ m = .int .i64 (k : Nat) ∧ Hid (TWay l x full acc k s4) ∧ acc.length + k ≤ 1000 ∧ Hid (Owns wr w.heap.size 5 v acc) ∧ Hid (Cu wr c sv l s4) ∧ Hid (w.grownBy wr (some c)) ∧ w.heap.size ≤ wr.heap.size) (fun _ m _ _ => (intOf m).toNat)
  case atStart => exact ⟨n, [], s2, by omega, rfl, HW, by simp; omega, O2, C2, G2, hs2⟩
  case round =>
    obtain ⟨m, acc, s4, hm1, rfl, HT0, hacc, HOr, HCr, HGr, hsr⟩ := hrel
    rcases m with _ | k
    · have hd := hid (HT0.out.done)
      have hcv := convert_own (P := Try.prog) wr 22 5 9 Try.underlying22 Try.underlying5 Try.underlying9 _ u5 _ HOr.out
      go_wp2_with fail
      go_ret
      unfold TextAt
      rw [hd.out]
      exact ⟨rfl, HCr.out, HGr.out⟩
    · have HT1 := hid HT0.out.step
      have HB := hid fun w h => byte_any c sv l s4 w h
      obtain ⟨b0, b1⟩ := byteF_bounds l s4
      obtain ⟨z, hz⟩ : ∃ z, adjF x (byteF l s4).1 = z := ⟨_, rfl⟩
      obtain ⟨za, zb⟩ := adjF_bounds x (byteF l s4).1 b0 b1
      rw [hz] at za zb HT1
      have HZ0 := hid hz
      clear hz HT0
      generalize byteF l s4 = r5 at HB b0 b1 HZ0 HT1
      obtain ⟨b, s5⟩ := r5
      simp only at *
      have HT := HT1
      clear HT1
      by_cases hx1 : x = 1
      · have HZ : Hid (b % 2 = z) := by have := HZ0.out; unfold adjF at this; rw [if_pos hx1] at this; exact this
        have e1 : (x == 1) = true := by simpa using hx1
        have e2 : (x == 2) = false := by rw [hx1]; rfl
        clear hx1 HZ0
        go_wp2_with fail
        refine (HB.out _ HCr.out).mono ?_
        rintro e w3 ⟨rfl, hc3, hg3⟩
        have hsz3 := hg3.size
        have O3 := hid (owns_moved HOr.out hg3 hcl)
        have G3 := hid (grown_trans HGr.out hg3)
        have C3 := hid hc3
        have hs3 : w.heap.size ≤ w3.heap.size := Nat.le_trans hsr hsz3
        clear hc3 hg3
        go_wp2_with (at_builtin; refine append_byte rfl _ _ 22 rfl w.heap.size 5 i0 Try.underlying22 hi hz0 hz1 hz2 w3 w3 _ acc (byteOf z) O3.out (by rfl) (Below.refl _ _) hs3 _ ?c1 (by rfl) (by omega) ?_)
        case c1 => rw [byteOf_int z (by omega) (by omega), HZ.out]
        intro v4 w4 hown4 hbel4 hsz4
        have C4 := C3.out.below hbel4 hcl
        have G4 := grown_then_below G3.out hbel4
        go_wp2_with fail
        go_roundw
        case rel => exact ⟨k, acc ++ [byteOf z], s5, by omega, rfl, HT, by simp; omega, hid hown4, hid C4, hid G4, hsz4⟩
        case measure => simp [intOf]
      · by_cases hx2 : x = 2
        · have HZ : Hid (97 + b % 4 = z) := by have := HZ0.out; unfold adjF at this; rw [if_neg hx1, if_pos hx2] at this; exact this
          have e1 : (x == 1) = false := by simpa using hx1
          have e2 : (x == 2) = true := by simpa using hx2
          clear hx1 hx2 HZ0
          go_wp2_with fail
          refine (HB.out _ HCr.out).mono ?_
          rintro e w3 ⟨rfl, hc3, hg3⟩
          have hsz3 := hg3.size
          have O3 := hid (owns_moved HOr.out hg3 hcl)
          have G3 := hid (grown_trans HGr.out hg3)
          have C3 := hid hc3
          have hs3 : w.heap.size ≤ w3.heap.size := Nat.le_trans hsr hsz3
          clear hc3 hg3
          go_wp2_with (at_builtin; refine append_byte rfl _ _ 22 rfl w.heap.size 5 i0 Try.underlying22 hi hz0 hz1 hz2 w3 w3 _ acc (byteOf z) O3.out (by rfl) (Below.refl _ _) hs3 _ ?c1 (by rfl) (by omega) ?_)
          case c1 => rw [byteOf_int z (by omega) (by omega), HZ.out]
          intro v4 w4 hown4 hbel4 hsz4
          have C4 := C3.out.below hbel4 hcl
          have G4 := grown_then_below G3.out hbel4
          go_wp2_with fail
          go_roundw
          case rel => exact ⟨k, acc ++ [byteOf z], s5, by omega, rfl, HT, by simp; omega, hid hown4, hid C4, hid G4, hsz4⟩
          case measure => simp [intOf]
        · have HZ : Hid (b = z) := by have := HZ0.out; unfold adjF at this; rw [if_neg hx1, if_neg hx2] at this; exact this
          have e1 : (x == 1) = false := by simpa using hx1
          have e2 : (x == 2) = false := by simpa using hx2
          clear hx1 hx2 HZ0
          go_wp2_with fail
          refine (HB.out _ HCr.out).mono ?_
          rintro e w3 ⟨rfl, hc3, hg3⟩
          have hsz3 := hg3.size
          have O3 := hid (owns_moved HOr.out hg3 hcl)
          have G3 := hid (grown_trans HGr.out hg3)
          have C3 := hid hc3
          have hs3 : w.heap.size ≤ w3.heap.size := Nat.le_trans hsr hsz3
          clear hc3 hg3
          go_wp2_with (at_builtin; refine append_byte rfl _ _ 22 rfl w.heap.size 5 i0 Try.underlying22 hi hz0 hz1 hz2 w3 w3 _ acc (byteOf z) O3.out (by rfl) (Below.refl _ _) hs3 _ ?c1 (by rfl) (by omega) ?_)
          case c1 => rw [byteOf_int z (by omega) (by omega), HZ.out]
          intro v4 w4 hown4 hbel4 hsz4
          have C4 := C3.out.below hbel4 hcl
          have G4 := grown_then_below G3.out hbel4
          go_wp2_with fail
          go_roundw
          case rel => exact ⟨k, acc ++ [byteOf z], s5, by omega, rfl, HT, by simp; omega, hid hown4, hid C4, hid G4, hsz4⟩
          case measure => simp [intOf]

end Go.Proofs.Ytnnhkghdlekanaa.TextDraw
