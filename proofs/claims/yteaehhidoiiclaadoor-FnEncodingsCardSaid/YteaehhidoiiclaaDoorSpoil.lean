/- The draw that spoils a text (spec.l1Spoil). -/
import Derived.Test.YteaehhidoiiclaaDoorTextDraw
import Derived.WalkKit
import Derived.ProofKit
import Derived.OpenShut
import Derived.IntWalk
import Derived.BigQuiet
import Derived.Deep.QuietTactic
import Derived.Deep.RegionWith
namespace Go.Proofs.YteaehhidoiiclaaDoor.Spoil
open Go.ChangeShapes Go.WideShapes Go.ChangeAt Go.RowKit
open Go.Proofs.YteaehhidoiiclaaDoor.Num Go.Proofs.YteaehhidoiiclaaDoor.Row Go.Proofs.YteaehhidoiiclaaDoor.Cur Go.Proofs.YteaehhidoiiclaaDoor.Draw Go.Proofs.YteaehhidoiiclaaDoor.NumDraw Go.Proofs.YteaehhidoiiclaaDoor.TextDraw
set_option linter.unusedVariables false

def xorB (a b : Int) : UInt8 := TextDraw.byteOf (IntKind.u8.wrap (bits .xor .i64 a (1 + b)))
def spoilF (l : List UInt8) (t : ByteArray) (s : St) : ByteArray × St :=
  if t.size = 0 then (⟨(textF l 3 s).1.toArray⟩, (textF l 3 s).2)
  else
    let k := belowF l (t.size : Nat) s
    let q := belowF l 4 k.2
    let n := k.1.toNat
    if q.1 = 0 then (t.extract 0 n ++ t.extract (n + 1) t.size, q.2)
    else if q.1 = 1 then (t.extract 0 n ++ ⟨#[TextDraw.byteOf (byteF l q.2).1]⟩ ++ t.extract n t.size, (byteF l q.2).2)
    else if q.1 = 2 then (t.extract 0 n, q.2)
    else (t.extract 0 n ++ ⟨#[xorB (((t.data.toList.getD n 0).toNat : Nat) : Int) (belowF l 255 q.2).1]⟩ ++ t.extract (n + 1) t.size, (belowF l 255 q.2).2)

/-- What a draw of a string leaves. -/
def StrAt (c : Nat) (sv : Value) (l : List UInt8) (r : ByteArray × St) (w : World) (e : Ending) (w' : World) : Prop :=
  e = .returned (.string r.1) ∧ Cu w' c sv l r.2 ∧ w.grownBy w' (some c)

theorem grown_drew1 {w w' : World} {r : Option Nat} (h : w.grownBy w' r) : w.grownBy w'.drew r := ⟨h.os, h.tape, h.output, h.size, h.block⟩
theorem grown_alloc {w w' : World} {r : Option Nat} (h : w.grownBy w' r) (o : Obj) : w.grownBy (w'.alloc o) r := grown_trans h (below_grown ((Below.refl _ _).alloc (Nat.le_refl _) o))
theorem cu_alloc {w : World} {c : Nat} {sv : Value} {l : List UInt8} {s : St} (h : Cu w c sv l s) (o : Obj) : Cu (w.alloc o) c sv l s := h.below ((Below.refl _ _).alloc (Nat.le_refl _) o) h.lt

set_option maxHeartbeats 3200000 in
set_option maxRecDepth 100000 in
theorem spoilE (c : Nat) (sv : Value) (l : List UInt8) (s : St) (w : World) (t : ByteArray) (h0 : t.size = 0) (hc : Cu w c sv l s) :
    Calls Tryd.prog 29 #[.pointer (some ⟨c, 0, none⟩), .string t] w fun e w' => StrAt c sv l (⟨(textF l 3 s).1.toArray⟩, (textF l 3 s).2) w e w' := by
  have HT := hid (text_any c sv l s w 3 (by omega) hc)
  have e0 : ((t.size : Int) == 0) = true := by simpa using h0
  clear h0 hc
  go_enter Tryd.func29, Tryd.ntmps29
  go_wp2_with fail
  refine HT.out.mono ?_
  rintro e w1 ⟨rfl, hc1, hg1⟩
  have C1 := hid hc1
  have G1 := hid hg1
  clear hc1 hg1
  go_wp2_with fail
  go_ret
  exact ⟨rfl, C1.out, G1.out⟩

set_option maxHeartbeats 3200000 in
set_option maxRecDepth 100000 in
theorem spoil0 (c : Nat) (sv : Value) (l : List UInt8) (s1 s2 : St) (w : World) (t : ByteArray) (ht : t.size ≤ 100) (n : Nat) (hn : n < t.size)
    (b1 : Calls Tryd.prog 30 #[.pointer (some ⟨c, 0, none⟩), .int .i64 (t.size : Nat)] w fun e w' => e = .returned (.int .i64 (n : Nat)) ∧ Cu w' c sv l s1 ∧ w.grownBy w' (some c))
    (b2 : ∀ w, Cu w c sv l s1 → Calls Tryd.prog 30 #[.pointer (some ⟨c, 0, none⟩), .int .i64 4] w fun e w' => e = .returned (.int .i64 0) ∧ Cu w' c sv l s2 ∧ w.grownBy w' (some c)) :
    Calls Tryd.prog 29 #[.pointer (some ⟨c, 0, none⟩), .string t] w fun e w' => StrAt c sv l (t.extract 0 n ++ t.extract (n + 1) t.size, s2) w e w' := by
  have e0 : ((t.size : Int) == 0) = false := by simp only [beq_eq_false_iff_ne]; omega
  have B1 := hid b1
  have B2 := hid b2
  clear b1 b2
  go_enter Tryd.func29, Tryd.ntmps29
  go_wp2_with fail
  refine B1.out.mono ?_
  rintro e w1 ⟨rfl, hc1, hg1⟩
  have C1 := hid hc1
  have G1 := hid hg1
  clear hc1 hg1
  go_wp2_with fail
  refine (B2.out _ C1.out).mono ?_
  rintro e w2 ⟨rfl, hc2, hg2⟩
  have C2 := hid hc2
  have G2 := hid (grown_trans G1.out hg2)
  clear hc2 hg2
  go_wp2_with fail
  go_quiet (fail)
  go_wp2_with fail
  go_ret
  exact ⟨rfl, C2.out.drewN _, grown_drew G2.out _⟩

set_option maxHeartbeats 3200000 in
set_option maxRecDepth 100000 in
theorem spoil2 (c : Nat) (sv : Value) (l : List UInt8) (s1 s2 : St) (w : World) (t : ByteArray) (ht : t.size ≤ 100) (n : Nat) (hn : n < t.size)
    (b1 : Calls Tryd.prog 30 #[.pointer (some ⟨c, 0, none⟩), .int .i64 (t.size : Nat)] w fun e w' => e = .returned (.int .i64 (n : Nat)) ∧ Cu w' c sv l s1 ∧ w.grownBy w' (some c))
    (b2 : ∀ w, Cu w c sv l s1 → Calls Tryd.prog 30 #[.pointer (some ⟨c, 0, none⟩), .int .i64 4] w fun e w' => e = .returned (.int .i64 2) ∧ Cu w' c sv l s2 ∧ w.grownBy w' (some c)) :
    Calls Tryd.prog 29 #[.pointer (some ⟨c, 0, none⟩), .string t] w fun e w' => StrAt c sv l (t.extract 0 n, s2) w e w' := by
  have e0 : ((t.size : Int) == 0) = false := by simp only [beq_eq_false_iff_ne]; omega
  have B1 := hid b1
  have B2 := hid b2
  clear b1 b2
  go_enter Tryd.func29, Tryd.ntmps29
  go_wp2_with fail
  refine B1.out.mono ?_
  rintro e w1 ⟨rfl, hc1, hg1⟩
  have C1 := hid hc1
  have G1 := hid hg1
  clear hc1 hg1
  go_wp2_with fail
  refine (B2.out _ C1.out).mono ?_
  rintro e w2 ⟨rfl, hc2, hg2⟩
  have C2 := hid hc2
  have G2 := hid (grown_trans G1.out hg2)
  clear hc2 hg2
  go_wp2_with fail
  go_ret
  exact ⟨rfl, C2.out, G2.out⟩

end Go.Proofs.YteaehhidoiiclaaDoor.Spoil
