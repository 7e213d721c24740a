/- Laws on rows of bytes that a call has made itself, over any program: one byte more behind them; the row as a string. -/
import Derived.WalkKit
import Derived.Below
import Derived.Laws.AppendOwn
import Derived.Laws.BytesArg
import Derived.Laws.MakeOwn
import Derived.Deep.RegionLaw
namespace Go.Proofs.Ytikpgkholhokoaa.Row
open Go.RowKit

/-- Bytes as cells. -/
def cells (l : List UInt8) : List Value := l.map fun b => Value.int .u8 (b.toNat : Int)

theorem cells_length (l : List UInt8) : (cells l).length = l.length := by simp [cells]
theorem cells_append (l m : List UInt8) : cells (l ++ m) = cells l ++ cells m := by simp [cells]
theorem cells_one (c : UInt8) : cells [c] = [Value.int .u8 (c.toNat : Int)] := rfl

/-- A row of bytes that the call has made itself: the value v holds the bytes l. -/
def Owns (w : World) (base : Nat) (e : TypeId) (v : Value) (l : List UInt8) : Prop := w.ownsRow base e 1 v l.length (cells l)

theorem Owns.made (w : World) (e : TypeId) (cur : Array Value) (cap : Nat) (base : Nat) (hb : base ≤ w.heap.size) (hm : cap ≤ maxLen) (hs : cur.size = cap) :
    Owns (w.alloc (.cells cur e)) base e (.slice (some ⟨w.heap.size, 0, none⟩) 0 cap) [] :=
  World.ownsRow_made w cur cap hb hm (by omega)

theorem Owns.lt {w : World} {base : Nat} {e : TypeId} {v : Value} {l : List UInt8} (h : Owns w base e v l) : ∀ k, v.ownBlock = some k → base ≤ k ∧ k < w.heap.size := World.ownsRow.lt h

section
variable {P : Program}

/-- 'append(v, c)' as a walk meets it: the byte lies in a new block of one cell. -/
theorem append_byte {ops : Array Oper} {rest : List Oper} {o : Oper} {a : Act} {Q : Exit → Act → World → Prop} (hgd : o.guard = none) (s x : Operand) (t : TypeId)
    (ho : o.op = .call { callee := .builtin .append, args := #[s, x], argTypes := #[t, t] })
    (base : Nat) (e : TypeId) (i : TypeInfo) (ht : P.underlying t = some (.slice e)) (hi : P.info? e = some i) (hz : i.zero = some (.int .u8 0))
    (hsize : i.size = 1) (hby : i.bytes = 1) (w wr : World) (v : Value) (l : List UInt8) (c : UInt8) (hown : Owns wr base e v l) (hs : a.eval s = v) (hbel : Below base w wr) (hbase : base ≤ wr.heap.size)
    (z : Int) (hzc : z = (c.toNat : Int)) (hx : a.eval x = .slice (some ⟨wr.heap.size, 0, none⟩) 1 1) (hlen : l.length ≤ 70368744177664)
    (h : ∀ v' w', Owns w' base e v' (l ++ [c]) → Below base w w' → base ≤ w'.heap.size → wpList P ops Q rest (a.put o.dst v') w') :
    wpList P ops Q (o :: rest) a (wr.alloc (.cells #[.int .u8 z] e)) := by
  subst hzc
  refine wpList_append_own _ hgd s x t ho base e i (.int .u8 0) 1 1 ht hi hz hsize hby rfl (by decide) v l.length (cells l) hs (hown.alloc _) ⟨wr.heap.size, 0, none⟩ 1 1 (cells [c]) hx rfl ?_ ?_ ?_ ?_ ?_ ?_
  · intro j u hj
    match j, hj with
    | 0, hj => simp [cells] at hj; subst hj; simp [Addr.add]
    | j + 1, hj => simp [cells] at hj
  · intro u hu; simp [cells] at hu; subst hu; rfl
  · unfold maxLen; omega
  · omega
  · simp; omega
  · intro v' w' hown' hgrow _
    refine h v' w' ?_ ?_ ?_
    · unfold Owns
      rw [cells_append]
      simpa using hown'
    · exact (hbel.alloc hbase _).grown hgrow (by simp; omega) (fun k hk => (hown.lt k hk).1)
    · have := hgrow.size
      simp at this
      omega

/-- 'append(v, c, d)' as a walk meets it: the bytes lie in a new block of two cells. -/
theorem append_two {ops : Array Oper} {rest : List Oper} {o : Oper} {a : Act} {Q : Exit → Act → World → Prop} (hgd : o.guard = none) (s x : Operand) (t : TypeId)
    (ho : o.op = .call { callee := .builtin .append, args := #[s, x], argTypes := #[t, t] })
    (base : Nat) (e : TypeId) (i : TypeInfo) (ht : P.underlying t = some (.slice e)) (hi : P.info? e = some i) (hz : i.zero = some (.int .u8 0))
    (hsize : i.size = 1) (hby : i.bytes = 1) (w wr : World) (v : Value) (l : List UInt8) (c d : UInt8) (hown : Owns wr base e v l) (hs : a.eval s = v) (hbel : Below base w wr) (hbase : base ≤ wr.heap.size)
    (y z : Int) (hyc : y = (c.toNat : Int)) (hzd : z = (d.toNat : Int)) (hx : a.eval x = .slice (some ⟨wr.heap.size, 0, none⟩) 2 2) (hlen : l.length ≤ 70368744177664)
    (h : ∀ v' w', Owns w' base e v' (l ++ [c, d]) → Below base w w' → base ≤ w'.heap.size → wpList P ops Q rest (a.put o.dst v') w') :
    wpList P ops Q (o :: rest) a (wr.alloc (.cells #[.int .u8 y, .int .u8 z] e)) := by
  subst hyc hzd
  refine wpList_append_own _ hgd s x t ho base e i (.int .u8 0) 1 1 ht hi hz hsize hby rfl (by decide) v l.length (cells l) hs (hown.alloc _) ⟨wr.heap.size, 0, none⟩ 2 2 (cells [c, d]) hx rfl ?_ ?_ ?_ ?_ ?_ ?_
  · intro j u hj
    match j, hj with
    | 0, hj => simp [cells] at hj; subst hj; simp [Addr.add]
    | 1, hj => simp [cells] at hj; subst hj; simp [Addr.add]
    | j + 2, hj => simp [cells] at hj
  · intro u hu
    simp [cells] at hu
    rcases hu with rfl | rfl <;> rfl
  · unfold maxLen; omega
  · omega
  · simp; omega
  · intro v' w' hown' hgrow _
    refine h v' w' ?_ ?_ ?_
    · unfold Owns
      rw [cells_append]
      simpa using hown'
    · exact (hbel.alloc hbase _).grown hgrow (by simp; omega) (fun k hk => (hown.lt k hk).1)
    · have := hgrow.size
      simp at this
      omega

/-- The same as one step of a region that draws its order. -/
theorem step_two {ops : Array Oper} {o : Oper} {a : Act} {K : Act → World → Prop} {Q : Exit → Act → World → Prop} {E : Prop} (hgd : o.guard = none) (s x : Operand) (t : TypeId)
    (ho : o.op = .call { callee := .builtin .append, args := #[s, x], argTypes := #[t, t] })
    (base : Nat) (e : TypeId) (i : TypeInfo) (ht : P.underlying t = some (.slice e)) (hi : P.info? e = some i) (hz : i.zero = some (.int .u8 0))
    (hsize : i.size = 1) (hby : i.bytes = 1) (w wr : World) (v : Value) (l : List UInt8) (c d : UInt8) (hown : Owns wr base e v l) (hs : a.eval s = v) (hbel : Below base w wr) (hbase : base ≤ wr.heap.size)
    (y z : Int) (hyc : y = (c.toNat : Int)) (hzd : z = (d.toNat : Int)) (hx : a.eval x = .slice (some ⟨wr.heap.size, 0, none⟩) 2 2) (hlen : l.length ≤ 70368744177664)
    (h : ∀ v' w', Owns w' base e v' (l ++ [c, d]) → Below base w w' → base ≤ w'.heap.size → K (a.put o.dst v') w') :
    if Region.wanted o (yielded ops a.tmps) = true then Oper.wp P o a (wr.alloc (.cells #[.int .u8 y, .int .u8 z] e)) K Q else E := by
  have hw : Region.wanted o (yielded ops a.tmps) = true := by simp [Region.wanted, hgd]
  rw [if_pos hw]
  subst hyc hzd
  refine wp_append_own _ s x t ho base e i (.int .u8 0) 1 1 ht hi hz hsize hby rfl (by decide) v l.length (cells l) hs (hown.alloc _) ⟨wr.heap.size, 0, none⟩ 2 2 (cells [c, d]) hx rfl ?_ ?_ ?_ ?_ ?_ ?_
  · intro j u hj
    match j, hj with
    | 0, hj => simp [cells] at hj; subst hj; simp [Addr.add]
    | 1, hj => simp [cells] at hj; subst hj; simp [Addr.add]
    | j + 2, hj => simp [cells] at hj
  · intro u hu
    simp [cells] at hu
    rcases hu with rfl | rfl <;> rfl
  · unfold maxLen; omega
  · omega
  · simp; omega
  · intro v' w' hown' hgrow _
    refine h v' w' ?_ ?_ ?_
    · unfold Owns
      rw [cells_append]
      simpa using hown'
    · exact (hbel.alloc hbase _).grown hgrow (by simp; omega) (fun k hk => (hown.lt k hk).1)
    · have := hgrow.size
      simp at this
      omega

/-- 'string(v)'. -/
theorem convert_own (w : World) (src e dst : TypeId) (hs : P.underlying src = some (.slice e)) (he : P.underlying e = some (.int .u8)) (hd : P.underlying dst = some .string)
    (base : Nat) (v : Value) (l : List UInt8) (hown : Owns w base e v l) : (convert src dst v).run P w = .ok (.string ⟨l.toArray⟩) w := by
  rcases hown.2 with ⟨rfl, h0⟩ | ⟨g, cap, cur, rfl, _⟩
  · obtain rfl := List.eq_nil_of_length_eq_zero h0
    exact run_convert_bytes_nil w src e hs he 0 0 dst hd
  · have hc := World.ownsRow.cells hown (g := g) rfl
    have := run_convert_bytes_arg (P := P) w src e hs he g 0 l.length cap (l.map fun b => (b.toNat : Int)) (by simp) (fun i hi => by
      have := hc i (.int .u8 (l[i].toNat : Int)) (by simp [cells, List.getElem?_eq_getElem hi])
      have e0 : (⟨g, 0, none⟩ : Addr).add i = ⟨g, 0 + i, none⟩ := by unfold Addr.add; split <;> simp_all
      rw [e0] at this
      simpa [List.getD, List.getElem?_eq_getElem hi] using this) dst hd
    rw [this]
    have e1 : (l.map fun b => (b.toNat : Int)).map (fun n => UInt8.ofNat n.toNat) = l := by
      rw [List.map_map]
      conv => rhs; rw [← List.map_id l]
      exact List.map_congr_left fun x _ => by simp
    simp only [strOfNums, e1]

/-- 'string([]byte{c})'. -/
theorem convert_one (w : World) (src e dst : TypeId) (hs : P.underlying src = some (.slice e)) (he : P.underlying e = some (.int .u8)) (hd : P.underlying dst = some .string)
    (z : Int) (c : UInt8) (hz : z = (c.toNat : Int)) : (convert src dst (.slice (some ⟨w.heap.size, 0, none⟩) 1 1)).run P (w.alloc (.cells #[.int .u8 z] e)) = .ok (.string ⟨#[c]⟩) (w.alloc (.cells #[.int .u8 z] e)) := by
  subst hz
  have := run_convert_bytes_arg (P := P) (w.alloc (.cells #[.int .u8 (c.toNat : Int)] e)) src e hs he w.heap.size 0 1 1 [(c.toNat : Int)] rfl (fun i hi => by
    obtain rfl : i = 0 := by omega
    simp) dst hd
  rw [this]
  simp [strOfNums]

/-- q zeros and the bytes l behind them. -/
def zrow (q : Nat) (l : List UInt8) : Array Value := (List.replicate q (Value.int .u8 0) ++ cells l).toArray

theorem zrow_made (k : Nat) : Array.replicate k (Value.int .u8 0) = zrow k [] := by
  simp [zrow, cells]

theorem zrow_at (q : Nat) (l : List UInt8) : (zrow (q + 1) l)[q]? = some (Value.int .u8 0) := by
  simp [zrow, List.getElem?_append]

theorem zrow_set (q : Nat) (c : UInt8) (l : List UInt8) : (zrow (q + 1) l).setIfInBounds q (.int .u8 (c.toNat : Int)) = zrow q (c :: l) := by
  unfold zrow
  rw [List.replicate_succ']
  apply Array.toList_inj.1
  simp [cells]

/-- 'string(v)' of a block that is known whole. -/
theorem convert_block (w : World) (src e dst : TypeId) (hs : P.underlying src = some (.slice e)) (he : P.underlying e = some (.int .u8)) (hd : P.underlying dst = some .string)
    (l : List UInt8) (n cap : Nat) (hn : l.length = n) : (convert src dst (.slice (some ⟨w.heap.size, 0, none⟩) n cap)).run P (w.alloc (.cells (zrow 0 l) e)) = .ok (.string ⟨l.toArray⟩) (w.alloc (.cells (zrow 0 l) e)) := by
  subst hn
  have := run_convert_bytes_arg (P := P) (w.alloc (.cells (zrow 0 l) e)) src e hs he w.heap.size 0 l.length cap (l.map fun b => (b.toNat : Int)) (by simp) (fun i hi => by
    simp [zrow, cells, List.getD, List.getElem?_eq_getElem hi]) dst hd
  rw [this]
  have e1 : (l.map fun b => (b.toNat : Int)).map (fun n => UInt8.ofNat n.toNat) = l := by
    rw [List.map_map]
    conv => rhs; rw [← List.map_id l]
    exact List.map_congr_left fun x _ => by simp
  simp only [strOfNums, e1]

/-- 'make([]byte, l, c)': a new block of zeros. -/
theorem make_bytes (w : World) (t e : TypeId) (i : TypeInfo) (ht : P.underlying t = some (.slice e)) (hi : P.info? e = some i) (hz : i.zero = some (.int .u8 0)) (hsize : i.size = 1) (hby : i.bytes = 1)
    (l c : Int) (h0 : 0 ≤ l) (hl : l ≤ c) (hc : c ≤ 70368744177664) :
    (Instr.makeSlice t (.int .i64 l) (.int .i64 c)).run P w = .ok (.slice (some ⟨w.heap.size, 0, none⟩) l.toNat c.toNat) (w.alloc (.cells (Array.replicate c.toNat (.int .u8 0)) e)) := by
  rw [run_make w t e i (.int .u8 0) ht hi hz .i64 .i64 l c h0 hl (by rw [hby]; omega) (by omega), hsize, Nat.mul_one]
  congr 3
  simp only [madeCells]
  apply Array.ext
  · simp
  · intro j h1 h2
    simp [Value.cells]
    simp [Nat.mod_one]
end
end Go.Proofs.Ytikpgkholhokoaa.Row
