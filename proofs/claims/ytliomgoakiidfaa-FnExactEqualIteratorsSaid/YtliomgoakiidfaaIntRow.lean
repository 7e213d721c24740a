/- Rows of ints: a slice that is only read, and a slice that the call has made itself (no program in sight). -/
import Derived.WalkKit
import Derived.Below
import Derived.Laws.AppendOwn
import Derived.Laws.MakeOwn
import Derived.Laws.OwnMore
import Derived.OwnWalk
import Derived.Deep.RegionLaw
namespace Go.Proofs.Ytliomgoakiidfaa.IntRow
open Go.RowKit
set_option linter.unusedVariables false

/-- Ints as cells. -/
def ic (xs : List Int) : List Value := xs.map (Value.int .i64)
theorem ic_length (xs : List Int) : (ic xs).length = xs.length := by simp [ic]
theorem ic_append (xs ys : List Int) : ic (xs ++ ys) = ic xs ++ ic ys := by simp [ic]
theorem ic_set (xs : List Int) (j : Nat) (z : Int) : (ic xs).set j (.int .i64 z) = ic (xs.set j z) := by simp [ic, List.map_set]
theorem ic_at (xs : List Int) (j : Nat) (h : j < xs.length) : (ic xs)[j]? = some (.int .i64 xs[j]) := by simp [ic, List.getElem?_eq_getElem h]

/-- The value '.slice a xs.length _' reads xs, and its cells lie below block B. -/
def Rd (w : World) (B : Nat) (a : Option Addr) (xs : List Int) : Prop :=
  0 < xs.length → ∃ b off, a = some ⟨b, off, none⟩ ∧ b < B ∧ ∀ j (h : j < xs.length), w.cell? ⟨b, off + j, none⟩ = some (.int .i64 xs[j])
theorem Rd.nil (w : World) (B : Nat) (a : Option Addr) : Rd w B a [] := fun h => by simp at h
theorem Rd.below {w w' : World} {B : Nat} {a : Option Addr} {xs : List Int} (h : Rd w B a xs) (hb : Below B w w') : Rd w' B a xs := fun h0 => by
  obtain ⟨b, off, e, hB, hc⟩ := h h0
  exact ⟨b, off, e, hB, fun j hj => (hb.cell (p := ⟨b, off + j, none⟩) hB).trans (hc j hj)⟩
theorem Rd.mono {w : World} {B B' : Nat} {a : Option Addr} {xs : List Int} (h : Rd w B a xs) (hB : B ≤ B') : Rd w B' a xs := fun h0 => by
  obtain ⟨b, off, e, hb, hc⟩ := h h0
  exact ⟨b, off, e, by omega, hc⟩
theorem Rd.alloc {w : World} {B : Nat} {a : Option Addr} {xs : List Int} (h : Rd w B a xs) (hB : B ≤ w.heap.size) (o : Obj) : Rd (w.alloc o) B a xs := h.below ((Below.refl _ _).alloc hB o)
theorem Rd.drew {w : World} {B : Nat} {a : Option Addr} {xs : List Int} (h : Rd w B a xs) : Rd w.drew B a xs := h
theorem Rd.grown {w w' : World} {B : Nat} {a : Option Addr} {xs : List Int} {row : Option Nat} (h : Rd w B a xs) (hB : B ≤ w.heap.size) (hg : w.grownBy w' row) (hr : ∀ k, row = some k → B ≤ k) : Rd w' B a xs :=
  h.below ((Below.refl _ _).grown hg hB hr)

/-- The value v is a row of the call's own, from block lo on, that holds xs. -/
def Own (w : World) (lo : Nat) (e : TypeId) (v : Value) (xs : List Int) : Prop := w.ownsRow lo e 1 v xs.length (ic xs)
theorem Own.nil (w : World) (lo : Nat) (e : TypeId) : Own w lo e (.slice none 0 0) [] := World.ownsRow_nil w lo e 1
theorem Own.lt {w : World} {lo : Nat} {e : TypeId} {v : Value} {xs : List Int} (h : Own w lo e v xs) : ∀ k, v.ownBlock = some k → lo ≤ k ∧ k < w.heap.size := World.ownsRow.lt h
theorem Own.form {w : World} {lo : Nat} {e : TypeId} {v : Value} {xs : List Int} (h : Own w lo e v xs) : ∃ a cap, v = .slice a xs.length cap ∧ xs.length ≤ cap ∧ cap ≤ maxLen ∧ Rd w w.heap.size a xs := by
  rcases h.2 with ⟨rfl, h0⟩ | ⟨g, cap, cur, rfl, hb, hg, hn, hc, _⟩
  · refine ⟨none, 0, by rw [h0], by omega, by unfold maxLen; omega, fun hp => by omega⟩
  · refine ⟨some ⟨g, 0, none⟩, cap, rfl, hn, hc, fun hp => ⟨g, 0, rfl, (h.lt g rfl).2, fun j hj => ?_⟩⟩
    have h' : w.ownsRow lo e 1 (.slice (some ⟨g, 0, none⟩) xs.length cap) xs.length (ic xs) := h
    rw [Nat.zero_add, h'.cellAt j (by omega), ic_at xs j hj]
theorem Own.below {w w' : World} {lo B : Nat} {e : TypeId} {v : Value} {xs : List Int} (h : Own w lo e v xs) (hb : Below B w w') (hB : ∀ k, v.ownBlock = some k → k < B) : Own w' lo e v xs := by
  refine ⟨h.1, ?_⟩
  rcases h.2 with hn | ⟨g, cap, cur, rfl, hg, hh, r⟩
  · exact .inl hn
  · exact .inr ⟨g, cap, cur, rfl, hg, (hb.block g (hB g rfl)).trans hh, r⟩
theorem Own.below' {w w' : World} {lo : Nat} {e : TypeId} {v : Value} {xs : List Int} (h : Own w lo e v xs) (hb : Below w.heap.size w w') : Own w' lo e v xs := h.below hb (fun k hk => (h.lt k hk).2)
theorem Own.mono {w : World} {lo lo' : Nat} {e : TypeId} {v : Value} {xs : List Int} (h : Own w lo e v xs) (hl : lo' ≤ lo) : Own w lo' e v xs := by
  refine ⟨h.1, ?_⟩
  rcases h.2 with hn | ⟨g, cap, cur, rfl, hg, hh, r⟩
  · exact .inl hn
  · exact .inr ⟨g, cap, cur, rfl, by omega, hh, r⟩
theorem Own.alloc {w : World} {lo : Nat} {e : TypeId} {v : Value} {xs : List Int} (h : Own w lo e v xs) (o : Obj) : Own (w.alloc o) lo e v xs := h.below' ((Below.refl _ _).alloc (Nat.le_refl _) o)
theorem Own.drew {w : World} {lo : Nat} {e : TypeId} {v : Value} {xs : List Int} (h : Own w lo e v xs) : Own w.drew lo e v xs := h
theorem Own.grown {w w' : World} {lo : Nat} {e : TypeId} {v : Value} {xs : List Int} {row : Option Nat} (h : Own w lo e v xs) (hg : w.grownBy w' row) (hne : ∀ k, v.ownBlock = some k → row ≠ some k) : Own w' lo e v xs :=
  World.ownsRow.kept h hg (by
    cases hv : v.ownBlock with
    | none => exact .inl rfl
    | some k => exact .inr (fun e => hne k hv e.symm))

theorem grown_trans {a b c : World} {row : Option Nat} (h : a.grownBy b row) (k : b.grownBy c row) : a.grownBy c row :=
  ⟨k.os.trans h.os, k.tape.trans h.tape, k.output.trans h.output, Nat.le_trans h.size k.size, fun i hi hr => (k.block i (Nat.lt_of_lt_of_le hi h.size) hr).trans (h.block i hi hr)⟩

theorem own_far {w : World} {lo : Nat} {e : TypeId} {v : Value} {xs : List Int} (h : Own w lo e v xs) {p : Addr} (hp : p.block < lo) (u : Value) : Own (w.setCell p u) lo e v xs := ownsRow_setCell_below h hp u
theorem own_rd {w : World} {lo : Nat} {e : TypeId} {a : Option Addr} {cap : Nat} {xs : List Int} (h : Own w lo e (.slice a xs.length cap) xs) : Rd w w.heap.size a xs := by
  obtain ⟨a', cap', hv, _, _, hr⟩ := h.form
  simp only [Value.slice.injEq] at hv
  obtain ⟨rfl, _, _⟩ := hv
  exact hr
theorem own_rd' {w : World} {lo n : Nat} {e : TypeId} {a : Option Addr} {cap : Nat} {xs : List Int} (h : Own w lo e (.slice a n cap) xs) (hn : xs.length = n) : Rd w w.heap.size a xs := by
  subst hn; exact own_rd h
/-- A row that starts at the head of block g, whole. -/
def At (w : World) (g : Nat) (e : TypeId) (cap : Nat) (xs : List Int) : Prop := w.ownsRow g e 1 (.slice (some ⟨g, 0, none⟩) xs.length cap) xs.length (ic xs)
theorem At.own {w : World} {g lo : Nat} {e : TypeId} {cap : Nat} {xs : List Int} (h : At w g e cap xs) (hl : lo ≤ g) : Own w lo e (.slice (some ⟨g, 0, none⟩) xs.length cap) xs := Own.mono (lo := g) h hl
theorem At.lt {w : World} {g : Nat} {e : TypeId} {cap : Nat} {xs : List Int} (h : At w g e cap xs) : g < w.heap.size := (World.ownsRow.lt h g rfl).2
theorem At.cell {w : World} {g : Nat} {e : TypeId} {cap : Nat} {xs : List Int} (h : At w g e cap xs) (j : Nat) (hj : j < xs.length) : w.cell? ⟨g, j, none⟩ = some (.int .i64 xs[j]) := by
  rw [World.ownsRow.cellAt h j (by omega), ic_at xs j hj]
theorem At.free {w : World} {g : Nat} {e : TypeId} {cap : Nat} {xs : List Int} (h : At w g e cap xs) (j : Nat) : w.frozen? ⟨g, j, none⟩ = false := World.ownsRow.frozenAt h j
theorem At.set {w : World} {g : Nat} {e : TypeId} {cap : Nat} {xs : List Int} (h : At w g e cap xs) (j : Nat) (z : Int) : At (w.setCell ⟨g, j, none⟩ (.int .i64 z)) g e cap (xs.set j z) := by
  have := (World.ownsRow.stored h j (.int .i64 z)).1
  unfold At
  rw [List.length_set, ← ic_set]
  exact this
theorem At.set_grown {w : World} {g : Nat} {e : TypeId} {cap : Nat} {xs : List Int} (h : At w g e cap xs) (j : Nat) (u : Value) : w.grownBy (w.setCell ⟨g, j, none⟩ u) (some g) := (World.ownsRow.stored h j u).2
theorem At.below {w w' : World} {g B : Nat} {e : TypeId} {cap : Nat} {xs : List Int} (h : At w g e cap xs) (hb : Below B w w') (hB : g < B) : At w' g e cap xs :=
  Own.below (lo := g) h hb (fun k hk => by simp [Value.ownBlock] at hk; omega)
theorem At.alloc {w : World} {g : Nat} {e : TypeId} {cap : Nat} {xs : List Int} (h : At w g e cap xs) (o : Obj) : At (w.alloc o) g e cap xs := Own.alloc (lo := g) h o
theorem At.drew {w : World} {g : Nat} {e : TypeId} {cap : Nat} {xs : List Int} (h : At w g e cap xs) : At w.drew g e cap xs := h
theorem At.cap_le {w : World} {g : Nat} {e : TypeId} {cap : Nat} {xs : List Int} (h : At w g e cap xs) : xs.length ≤ cap := by
  rcases h.2 with ⟨h', _⟩ | ⟨g', cap', cur, hv, _, _, hn, _⟩
  · simp at h'
  · simp only [Value.slice.injEq] at hv
    omega
theorem At.far {w : World} {g : Nat} {e : TypeId} {cap : Nat} {xs : List Int} (h : At w g e cap xs) {p : Addr} (hp : g ≠ p.block) (u : Value) : At (w.setCell p u) g e cap xs := by
  obtain ⟨h1, h2⟩ := h
  refine ⟨h1, ?_⟩
  rcases h2 with h2 | ⟨g', cap', cur, hv, hg, hh, r⟩
  · exact .inl h2
  · have e1 : g' = g := by simp at hv; omega
    exact .inr ⟨g', cap', cur, hv, hg, by rw [Below.heap_setCell _ _ _ _ (by omega)]; exact hh, r⟩
theorem own_at {w : World} {lo : Nat} {e : TypeId} {v : Value} {xs : List Int} (h : Own w lo e v xs) : (v = .slice none 0 0 ∧ xs = []) ∨ ∃ g cap, v = .slice (some ⟨g, 0, none⟩) xs.length cap ∧ lo ≤ g ∧ At w g e cap xs := by
  obtain ⟨h1, h2⟩ := h
  rcases h2 with ⟨hv, h0⟩ | ⟨g, cap, cur, hv, hg, r⟩
  · exact .inl ⟨hv, List.eq_nil_of_length_eq_zero h0⟩
  · exact .inr ⟨g, cap, hv, hg, h1, .inr ⟨g, cap, cur, rfl, Nat.le_refl _, r⟩⟩
/-- A row is cut behind its first m cells. -/
theorem At.take {w : World} {g : Nat} {e : TypeId} {cap : Nat} {xs : List Int} (h : At w g e cap xs) (m : Nat) (hm : m ≤ xs.length) : w.ownsRow g e 1 (.slice (some ⟨g, 0, none⟩) m cap) m (ic (xs.take m)) := by
  refine ⟨by simp [ic]; omega, .inr ?_⟩
  rcases h.2 with ⟨h', _⟩ | ⟨g', cap', cur, hv, hg, hh, hn, hc, hs, ht⟩
  · simp at h'
  · simp only [Value.slice.injEq, Option.some.injEq, Addr.mk.injEq, and_true, true_and] at hv
    obtain ⟨rfl, rfl⟩ := hv
    refine ⟨g, cap, cur, rfl, hg, hh, by omega, hc, hs, ?_⟩
    rw [ic, List.map_take, ← ic, ← ht, List.take_take]
    congr 1
    omega

section
variable {P : Program}
/-- 'make([]int, n, c)' with n = c: a new block of zeros. -/
theorem make_ints (w : World) (t e : TypeId) (i : TypeInfo) (ht : P.underlying t = some (.slice e)) (hi : P.info? e = some i) (hz : i.zero = some (.int .i64 0)) (hsize : i.size = 1) (hby : i.bytes = 8)
    (n : Nat) (hn : n ≤ 17592186044416) :
    (Instr.makeSlice t (.int .i64 (n : Int)) (.int .i64 (n : Int))).run P w = .ok (.slice (some ⟨w.heap.size, 0, none⟩) n n) (w.alloc (.cells (Array.replicate n (.int .i64 0)) e)) := by
  rw [run_make w t e i (.int .i64 0) ht hi hz .i64 .i64 n n (by omega) (by omega) (by rw [hby]; omega) (by omega), hsize, Nat.mul_one]
  simp only [Int.toNat_natCast]
  congr 3
  simp only [madeCells]
  apply Array.ext
  · simp
  · intro j h1 h2
    simp [Value.cells]
    simp [Nat.mod_one]
theorem at_made (w : World) (e : TypeId) (n : Nat) (hn : n ≤ 17592186044416) : At (w.alloc (.cells (Array.replicate n (.int .i64 0)) e)) w.heap.size e n (List.replicate n 0) := by
  have h := World.ownsRow_lit (size := 1) (e := e) (base := w.heap.size) w (Array.replicate n (.int .i64 0)) n (Nat.le_refl _) (by unfold maxLen; omega) (by simp)
  unfold At
  simpa [ic] using h

/-- 'append(v, z)' as a walk meets it: the int lies in a new block of one cell. -/
theorem append_int {ops : Array Oper} {rest : List Oper} {o : Oper} {a : Act} {Q : Exit → Act → World → Prop} (hgd : o.guard = none) (s x : Operand) (t : TypeId)
    (ho : o.op = .call { callee := .builtin .append, args := #[s, x], argTypes := #[t, t] })
    (base : Nat) (e : TypeId) (i : TypeInfo) (ht : P.underlying t = some (.slice e)) (hi : P.info? e = some i) (hz : i.zero = some (.int .i64 0))
    (hsize : i.size = 1) (hby : i.bytes = 8) (w wr : World) (v : Value) (l : List Int) (c : Int) (hown : Own wr base e v l) (hs : a.eval s = v) (hbel : Below base w wr) (hbase : base ≤ wr.heap.size)
    (z : Int) (hzc : z = c) (hx : a.eval x = .slice (some ⟨wr.heap.size, 0, none⟩) 1 1) (hlen : l.length ≤ 8796093022208)
    (h : ∀ v' w', Own w' base e v' (l ++ [c]) → Below base w w' → base ≤ w'.heap.size → wr.grownBy w' v.ownBlock → wpList P ops Q rest (a.put o.dst v') w') :
    wpList P ops Q (o :: rest) a (wr.alloc (.cells #[.int .i64 z] e)) := by
  subst hzc
  refine wpList_append_own _ hgd s x t ho base e i (.int .i64 0) 1 8 ht hi hz hsize hby rfl (by decide) v l.length (ic l) hs (hown.alloc _) ⟨wr.heap.size, 0, none⟩ 1 1 (ic [z]) hx rfl ?_ ?_ ?_ ?_ ?_ ?_
  · intro j u hj
    match j, hj with
    | 0, hj => simp [ic] at hj; subst hj; simp [Addr.add]
    | j + 1, hj => simp [ic] at hj
  · intro u hu; simp [ic] at hu; subst hu; rfl
  · unfold maxLen; omega
  · omega
  · simp; omega
  · intro v' w' hown' hgrow _
    refine h v' w' ?_ ?_ ?_ ?_
    · unfold Own
      rw [ic_append]
      simpa using hown'
    · exact (hbel.alloc hbase _).grown hgrow (by simp; omega) (fun k hk => (hown.lt k hk).1)
    · have := hgrow.size
      simp at this
      omega
    · exact ⟨hgrow.os, hgrow.tape, hgrow.output, by have := hgrow.size; simp at this; omega, fun k hk hne => (hgrow.block k (by simp; omega) hne).trans (Below.heap_alloc _ _ _ hk)⟩
end

theorem At.rd {w : World} {g : Nat} {e : TypeId} {cap : Nat} {xs : List Int} (h : At w g e cap xs) : Rd w (g + 1) (some ⟨g, 0, none⟩) xs := fun _ =>
  ⟨g, 0, rfl, by omega, fun j hj => by rw [Nat.zero_add]; exact h.cell j hj⟩
/-- Block b holds one cell, x, and may be written. -/
def One (w : World) (b : Nat) (x : Value) : Prop := w.cell? ⟨b, 0, none⟩ = some x ∧ w.frozen? ⟨b, 0, none⟩ = false ∧ b < w.heap.size
theorem one_new (w : World) (x : Value) (t : TypeId) : One (w.alloc (.cells #[x] t)) w.heap.size x := ⟨by simp, by simp, by simp⟩
theorem One.below {w w' : World} {b B : Nat} {x : Value} (h : One w b x) (hb : Below B w w') (hB : b < B) : One w' b x :=
  ⟨(hb.cell (p := ⟨b, 0, none⟩) hB).trans h.1, (hb.frozen (p := ⟨b, 0, none⟩) hB).trans h.2.1, Nat.lt_of_lt_of_le h.2.2 hb.size⟩
theorem One.below' {w w' : World} {b : Nat} {x : Value} (h : One w b x) (hb : Below w.heap.size w w') : One w' b x := h.below hb h.2.2
theorem One.alloc {w : World} {b : Nat} {x : Value} (h : One w b x) (o : Obj) : One (w.alloc o) b x := h.below' ((Below.refl _ _).alloc (Nat.le_refl _) o)
theorem One.drew {w : World} {b : Nat} {x : Value} (h : One w b x) : One w.drew b x := h
theorem One.set {w : World} {b : Nat} {x : Value} (h : One w b x) (u : Value) : One (w.setCell ⟨b, 0, none⟩ u) b u :=
  ⟨World.cell?_setCell_same _ _ _ h.1, by rw [World.frozen?_setCell, h.2.1], Nat.lt_of_lt_of_le h.2.2 ((Below.refl 0 w).setCell (p := ⟨b, 0, none⟩) (Nat.zero_le _) u).size⟩
theorem One.far {w : World} {b : Nat} {x : Value} (h : One w b x) {p : Addr} (hp : b ≠ p.block) (u : Value) : One (w.setCell p u) b x :=
  ⟨by rw [World.cell?_setCell_other _ _ _ _ (fun e => hp (by rw [e]))]; exact h.1, by rw [World.frozen?_setCell]; exact h.2.1, Nat.lt_of_lt_of_le h.2.2 ((Below.refl 0 w).setCell (p := p) (Nat.zero_le _) u).size⟩
theorem One.grown {w w' : World} {b : Nat} {x : Value} {row : Option Nat} (h : One w b x) (hg : w.grownBy w' row) (hne : row ≠ some b) : One w' b x :=
  ⟨(World.cell?_of_block (w := w) (a := ⟨b, 0, none⟩) (hg.block b h.2.2 (fun e => hne e.symm))).trans h.1, (World.frozen?_of_block (w := w) (a := ⟨b, 0, none⟩) (hg.block b h.2.2 (fun e => hne e.symm))).trans h.2.1, Nat.lt_of_lt_of_le h.2.2 hg.size⟩

/-- The values that the laws store into a row. -/
def marks (k : Int) : Nat → List Int
  | 0 => []
  | n + 1 => k :: marks (k + 1) n
theorem marks_length (k : Int) (n : Nat) : (marks k n).length = n := by
  induction n generalizing k with
  | zero => rfl
  | succ n ih => simp [marks, ih]
theorem marks_at (k : Int) (n j : Nat) (h : j < (marks k n).length) : (marks k n)[j] = k + j := by
  induction n generalizing k j with
  | zero => simp [marks] at h
  | succ n ih =>
    rcases j with _ | j
    · simp [marks]
    · have := ih (k + 1) j (by simpa [marks] using h)
      simp only [marks, List.getElem_cons_succ, this]
      omega
/-- A row of which the first j cells are marked. -/
def marked (k : Int) (xs : List Int) (j : Nat) : List Int := marks k j ++ xs.drop j
theorem marked_zero (k : Int) (xs : List Int) : marked k xs 0 = xs := rfl
theorem marked_length (k : Int) (xs : List Int) (j : Nat) (h : j ≤ xs.length) : (marked k xs j).length = xs.length := by simp [marked, marks_length]; omega
theorem marks_snoc (k : Int) (n : Nat) : marks k (n + 1) = marks k n ++ [k + n] := by
  induction n generalizing k with
  | zero => simp [marks]
  | succ n ih =>
    rw [marks, ih (k + 1)]
    simp only [marks, List.cons_append, List.cons.injEq, true_and]
    congr 2
    omega
theorem marked_step (k : Int) (xs : List Int) (j : Nat) (h : j < xs.length) : (marked k xs j).set j (k + j) = marked k xs (j + 1) := by
  unfold marked
  rw [List.set_append_right _ _ (by rw [marks_length]; omega), marks_length, marks_snoc, List.append_assoc, Nat.sub_self, List.drop_eq_getElem_cons h]
  rfl
theorem marked_all (k : Int) (xs : List Int) : marked k xs xs.length = marks k xs.length := by simp [marked]
end Go.Proofs.Ytliomgoakiidfaa.IntRow
