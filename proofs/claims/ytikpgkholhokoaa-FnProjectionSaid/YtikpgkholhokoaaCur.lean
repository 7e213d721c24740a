/- The cursor of the draws (spec.l1Cur) in memory, and the plain functions of the bytes and the cursor's state that the draws compute. -/
import Derived.Test.YtikpgkholhokoaaRows
import Derived.Test.YtikpgkholhokoaaNum
import Derived.Test.YtikpgkholhokoaaRow
import Derived.WalkKit
import Derived.OneCell
import Derived.Deep.Draws
namespace Go.Proofs.Ytikpgkholhokoaa.Cur
open Go.RowKit
open Go.Proofs.Ytikpgkholhokoaa.Num Go.Proofs.Ytikpgkholhokoaa.Row
set_option linter.unusedVariables false

/-! ### plain -/
/-- The cursor's next number; the byte that it gives; that byte with one of the code's mixed in. -/
def nextH (h : Int) : Int := wrap64 (wrap64 (h * 6364136223846793005) + 1442695040888963407)
def mixH (h : Int) : Int := bits .and .i64 (bits .xor .i64 (h / 8589934592) (h / 35184372088832)) 255
def mixB (x b : Int) : Int := bits .and .i64 (x + b) 255

theorem nat_and_255 (n : Nat) : n &&& 255 = n % 256 := by
  have : (255 : Nat) = 2 ^ 8 - 1 := by decide
  rw [this, Nat.and_two_pow_sub_one_eq_mod]
theorem and_255 (y : Int) : 0 ≤ bits .and .i64 y 255 ∧ bits .and .i64 y 255 ≤ 255 := by
  have e : bits .and .i64 y 255 = IntKind.i64.wrap (((BitVec.ofInt 64 y).toNat % 256 : Nat) : Int) := by
    show IntKind.i64.wrap ((BitVec.ofInt 64 y &&& BitVec.ofInt 64 ((255 : Nat) : Int)).toNat : Int) = _
    rw [BitVec.toNat_and, ofInt_nat 255 (by omega), nat_and_255]
  have hlt : (BitVec.ofInt 64 y).toNat % 256 < 256 := Nat.mod_lt _ (by omega)
  generalize (BitVec.ofInt 64 y).toNat % 256 = m at e hlt
  rw [e, Num.wrap_small m (by omega)]
  omega
theorem mixH_bounds (h : Int) : 0 ≤ mixH h ∧ mixH h ≤ 255 := and_255 _
theorem mixB_bounds (x b : Int) : 0 ≤ mixB x b ∧ mixB x b ≤ 255 := and_255 _

/-- A cursor's state: the place in the code; the number. -/
abbrev St := Nat × Int

def byteF (l : List UInt8) (s : St) : Int × St :=
  if h : s.1 < l.length then (mixB (mixH (nextH s.2)) ((l[s.1].toNat : Nat) : Int), (s.1 + 1, nextH s.2)) else (mixH (nextH s.2), (s.1, nextH s.2))
theorem byteF_in (l : List UInt8) (s : St) (h : s.1 < l.length) : byteF l s = (mixB (mixH (nextH s.2)) ((l[s.1].toNat : Nat) : Int), (s.1 + 1, nextH s.2)) := dif_pos h
theorem byteF_out (l : List UInt8) (s : St) (h : ¬ s.1 < l.length) : byteF l s = (mixH (nextH s.2), (s.1, nextH s.2)) := dif_neg h
theorem byteF_bounds (l : List UInt8) (s : St) : 0 ≤ (byteF l s).1 ∧ (byteF l s).1 ≤ 255 := by
  unfold byteF
  split
  · exact mixB_bounds _ _
  · exact mixH_bounds _

def fourF (l : List UInt8) (s : St) : Int × St :=
  let a := byteF l s
  let b := byteF l a.2
  let c := byteF l b.2
  let d := byteF l c.2
  (a.1 * 16777216 + b.1 * 65536 + c.1 * 256 + d.1, d.2)
theorem fourF_bounds (l : List UInt8) (s : St) : 0 ≤ (fourF l s).1 ∧ (fourF l s).1 ≤ 4294967295 := by
  have h1 := byteF_bounds l s
  have h2 := byteF_bounds l (byteF l s).2
  have h3 := byteF_bounds l (byteF l (byteF l s).2).2
  have h4 := byteF_bounds l (byteF l (byteF l (byteF l s).2).2).2
  simp only [fourF]
  omega

def belowF (l : List UInt8) (n : Int) (s : St) : Int × St :=
  if n ≤ 0 then (0, s) else if n ≤ 256 then ((byteF l s).1 % n, (byteF l s).2) else ((fourF l s).1 % n, (fourF l s).2)
theorem belowF_bounds (l : List UInt8) (n : Int) (s : St) (hn : 1 ≤ n) : 0 ≤ (belowF l n s).1 ∧ (belowF l n s).1 < n := by
  unfold belowF
  rw [if_neg (by omega)]
  split
  · exact ⟨Int.emod_nonneg _ (by omega), Int.emod_lt_of_pos _ (by omega)⟩
  · exact ⟨Int.emod_nonneg _ (by omega), Int.emod_lt_of_pos _ (by omega)⟩

/-- The first number of a cursor. -/
def stepH (h b : Int) : Int := bits .and .i64 (h * 131 + b + 7) 1073741823
def numH (l : List UInt8) (k : Nat) : Int := (l.take k).foldl (fun h b => stepH h ((b.toNat : Nat) : Int)) (10101 + (l.length : Nat))
theorem nat_and_mask (n : Nat) : n &&& 1073741823 = n % 1073741824 := by
  have : (1073741823 : Nat) = 2 ^ 30 - 1 := by decide
  rw [this, Nat.and_two_pow_sub_one_eq_mod]
theorem stepH_bounds (h b : Int) : 0 ≤ stepH h b ∧ stepH h b ≤ 1073741823 := by
  unfold stepH
  generalize h * 131 + b + 7 = y
  have e : bits .and .i64 y 1073741823 = IntKind.i64.wrap (((BitVec.ofInt 64 y).toNat % 1073741824 : Nat) : Int) := by
    show IntKind.i64.wrap ((BitVec.ofInt 64 y &&& BitVec.ofInt 64 ((1073741823 : Nat) : Int)).toNat : Int) = _
    rw [BitVec.toNat_and, ofInt_nat 1073741823 (by omega), nat_and_mask]
  have hlt : (BitVec.ofInt 64 y).toNat % 1073741824 < 1073741824 := Nat.mod_lt _ (by omega)
  generalize (BitVec.ofInt 64 y).toNat % 1073741824 = m at e hlt
  rw [e, Num.wrap_small m (by omega)]
  omega
theorem numH_step (l : List UInt8) (k : Nat) (h : k < l.length) : numH l (k + 1) = stepH (numH l k) ((l[k].toNat : Nat) : Int) := by
  unfold numH
  rw [List.take_succ_eq_append_getElem h, List.foldl_append]
  rfl
theorem numH_bounds (l : List UInt8) (hl : l.length ≤ 1048576) (k : Nat) (hk : k ≤ l.length) : 0 ≤ numH l k ∧ numH l k ≤ 1073741823 := by
  cases k with
  | zero => simp [numH]; omega
  | succ k => rw [numH_step l k (by omega)]; exact stepH_bounds _ _

/-! ### in memory -/
/-- The code's bytes lie below block c. -/
def Code (w : World) (c : Nat) (sv : Value) (l : List UInt8) : Prop :=
  (l = [] ∧ ∃ a cap, sv = .slice a 0 cap) ∨
  ∃ b off cap, sv = .slice (some ⟨b, off, none⟩) l.length cap ∧ b < c ∧ ∀ j (h : j < l.length), w.cell? ⟨b, off + j, none⟩ = some (.int .u8 ((l[j].toNat : Nat) : Int))

theorem Code.moved {w w' : World} {c : Nat} {sv : Value} {l : List UInt8} (h : Code w c sv l) (hg : w.grownBy w' (some c)) : Code w' c sv l := by
  rcases h with h | ⟨b, off, cap, h1, h2, h3⟩
  · exact Or.inl h
  · exact Or.inr ⟨b, off, cap, h1, h2, fun j hj => hg.cell (h3 j hj) (by simp; omega)⟩

theorem Code.below {w w' : World} {B c : Nat} {sv : Value} {l : List UInt8} (h : Code w c sv l) (hb : Below B w w') (hB : c ≤ B) : Code w' c sv l := by
  rcases h with h | ⟨b, off, cap, h1, h2, h3⟩
  · exact Or.inl h
  · exact Or.inr ⟨b, off, cap, h1, h2, fun j hj => (hb.cell (show b < B by omega)).trans (h3 j hj)⟩

theorem Code.higher {w : World} {c d : Nat} {sv : Value} {l : List UInt8} (h : Code w c sv l) (hd : c ≤ d) : Code w d sv l := by
  rcases h with h | ⟨b, off, cap, h1, h2, h3⟩
  · exact Or.inl h
  · exact Or.inr ⟨b, off, cap, h1, by omega, h3⟩

/-- Block c is the cursor over the code l, in state s. -/
structure Cu (w : World) (c : Nat) (sv : Value) (l : List UInt8) (s : St) : Prop where
  block : w.heap[c]? = some (.cells #[sv, .int .i64 (s.1 : Nat), .int .i64 s.2] 57 (0, 0))
  place : s.1 ≤ l.length
  small : l.length ≤ 1048576
  code : Code w c sv l

theorem block_set {w : World} {b k : Nat} {cs : Array Value} {t : TypeId} (h : w.heap[b]? = some (.cells cs t (0, 0))) (u : Value) : (w.setCell ⟨b, k, none⟩ u).heap[b]? = some (.cells (cs.setIfInBounds k u) t (0, 0)) := by
  have hlt := lt_of_block h
  have h' : w.heap[b] = .cells cs t (0, 0) := by simpa [Array.getElem?_eq_getElem hlt] using h
  show (w.heap.modify b _)[b]? = _
  rw [Array.getElem?_eq_getElem (by simpa using hlt), Array.getElem_modify_self, h']
  rfl

theorem grown_set (w : World) (c k : Nat) (u : Value) : w.grownBy (w.setCell ⟨c, k, none⟩ u) (some c) :=
  ⟨rfl, rfl, rfl, by simp [World.setCell], fun i _ hi => Below.heap_setCell _ _ _ _ (fun e => hi (by rw [e]))⟩

theorem grown_refl (w : World) (r : Option Nat) : w.grownBy w r := ⟨rfl, rfl, rfl, Nat.le_refl _, fun _ _ _ => rfl⟩
theorem grown_drew {w w' : World} {r : Option Nat} (h : w.grownBy w' r) (n : Nat) : w.grownBy (w'.drewN n) r := ⟨h.os, h.tape, h.output, h.size, h.block⟩
theorem grown_trans {a b c : World} {r : Option Nat} (h : a.grownBy b r) (k : b.grownBy c r) : a.grownBy c r :=
  ⟨k.os.trans h.os, k.tape.trans h.tape, k.output.trans h.output, Nat.le_trans h.size k.size, fun i hi hr => (k.block i (Nat.lt_of_lt_of_le hi h.size) hr).trans (h.block i hi hr)⟩
theorem grown_below {B c : Nat} {w w' : World} (h : w.grownBy w' (some c)) (hB : B ≤ w.heap.size) (hc : B ≤ c) : Below B w w' :=
  ⟨h.os, h.tape, h.output, h.size, fun k hk => h.block k (by omega) (by simp; omega)⟩
theorem below_grown {w w' : World} {r : Option Nat} (h : Below w.heap.size w w') : w.grownBy w' r := ⟨h.os, h.tape, h.output, h.size, fun k hk _ => h.block k hk⟩

theorem Cu.cells {w : World} {c : Nat} {sv : Value} {l : List UInt8} {s : St} (h : Cu w c sv l s) :
    w.cell? ⟨c, 0, none⟩ = some sv ∧ w.cell? ⟨c, 1, none⟩ = some (.int .i64 (s.1 : Nat)) ∧ w.cell? ⟨c, 2, none⟩ = some (.int .i64 s.2) ∧ w.frozen? ⟨c, 1, none⟩ = false ∧ w.frozen? ⟨c, 2, none⟩ = false := by
  have hb := h.block
  refine ⟨?_, ?_, ?_, ?_, ?_⟩ <;> simp [World.cell?, World.frozen?, hb]
theorem Cu.lt {w : World} {c : Nat} {sv : Value} {l : List UInt8} {s : St} (h : Cu w c sv l s) : c < w.heap.size := lt_of_block h.block

/-- Behind a call that has written no block that was there but its own. -/
theorem Cu.below {w w' : World} {B c : Nat} {sv : Value} {l : List UInt8} {s : St} (h : Cu w c sv l s) (hb : Below B w w') (hB : c < B) : Cu w' c sv l s :=
  ⟨(hb.block c hB).trans h.block, h.place, h.small, h.code.below hb (by omega)⟩
theorem Cu.drew {w : World} {c : Nat} {sv : Value} {l : List UInt8} {s : St} (h : Cu w c sv l s) : Cu w.drew c sv l s := h.below (B := c + 1) ((Below.refl _ _).drew) (by omega)

theorem Cu.drewN {w : World} {c : Nat} {sv : Value} {l : List UInt8} {s : St} (h : Cu w c sv l s) (n : Nat) : Cu (w.drewN n) c sv l s :=
  h.below (B := c + 1) ⟨rfl, rfl, rfl, Nat.le_refl _, fun _ _ => rfl⟩ (by omega)

/-- Behind l1Byte's stores. -/
theorem Cu.next {w : World} {c : Nat} {sv : Value} {l : List UInt8} {s : St} (h : Cu w c sv l s) (hi : ¬ s.1 < l.length) (n : Nat) (y : Int) (hy : y = nextH s.2) :
    Cu ((w.setCell ⟨c, 2, none⟩ (.int .i64 y)).drewN n) c sv l (byteF l s).2 ∧ w.grownBy ((w.setCell ⟨c, 2, none⟩ (.int .i64 y)).drewN n) (some c) := by
  have hg := grown_drew (grown_set w c 2 (.int .i64 y)) n
  rw [byteF_out l s hi]
  refine ⟨⟨?_, h.place, h.small, h.code.moved hg⟩, hg⟩
  show (w.setCell ⟨c, 2, none⟩ (.int .i64 y)).heap[c]? = _
  rw [block_set h.block, hy]
  rfl
theorem Cu.more {w : World} {c : Nat} {sv : Value} {l : List UInt8} {s : St} (h : Cu w c sv l s) (hi : s.1 < l.length) (n : Nat) (y z : Int) (hy : y = nextH s.2) (hz : z = (s.1 : Int) + 1) :
    Cu (((w.setCell ⟨c, 2, none⟩ (.int .i64 y)).drewN n).setCell ⟨c, 1, none⟩ (.int .i64 z)) c sv l (byteF l s).2 ∧ w.grownBy (((w.setCell ⟨c, 2, none⟩ (.int .i64 y)).drewN n).setCell ⟨c, 1, none⟩ (.int .i64 z)) (some c) := by
  have hg := grown_trans (grown_drew (grown_set w c 2 (.int .i64 y)) n) (grown_set _ c 1 (.int .i64 z))
  rw [byteF_in l s hi]
  refine ⟨⟨?_, hi, h.small, h.code.moved hg⟩, hg⟩
  have h1 : ((w.setCell ⟨c, 2, none⟩ (.int .i64 y)).drewN n).heap[c]? = _ := block_set (k := 2) h.block (.int .i64 y)
  rw [block_set h1, hy, hz]
  simp

end Go.Proofs.Ytikpgkholhokoaa.Cur
