/- Rows of rationals that a call owns: grown by append, read. -/
import Derived.Test.YtjnphlgmmjdeiaaRats
import Derived.Laws.AppendOwn
import Derived.Laws.OwnMore
namespace Go.Proofs.Ytjnphlgmmjdeiaa.RatRow
open Go.RowKit
open Go.Proofs.Ytjnphlgmmjdeiaa.IntRow Go.Proofs.Ytjnphlgmmjdeiaa.Rdr Go.Proofs.Ytjnphlgmmjdeiaa.HasL Go.Proofs.Ytjnphlgmmjdeiaa.Rats
set_option linter.unusedVariables false

def fr : List RatD → List Value
  | [] => []
  | p :: ps => .int .i64 p.1 :: .int .i64 p.2 :: fr ps
theorem fr_len (xs : List RatD) : (fr xs).length = xs.length * 2 := by
  induction xs with
  | nil => rfl
  | cons p ps ih => simp only [fr, List.length_cons, ih]; omega
theorem fr_app (xs ys : List RatD) : fr (xs ++ ys) = fr xs ++ fr ys := by
  induction xs with
  | nil => rfl
  | cons p ps ih => simp only [List.cons_append, fr, ih]
theorem fr_at (xs : List RatD) (j : Nat) (h : j < xs.length) : (fr xs)[j * 2]? = some (.int .i64 xs[j].1) ∧ (fr xs)[j * 2 + 1]? = some (.int .i64 xs[j].2) := by
  induction xs generalizing j with
  | nil => simp at h
  | cons p ps ih =>
    cases j with
    | zero => exact ⟨rfl, rfl⟩
    | succ j =>
      have := ih j (by simpa using h)
      rw [show (j + 1) * 2 = j * 2 + 1 + 1 by omega]
      simpa only [fr, List.getElem?_cons_succ, List.getElem_cons_succ] using this
def OwnR (w : World) (base : Nat) (e : TypeId) (v : Value) (xs : List RatD) : Prop := w.ownsRow base e 2 v xs.length (fr xs)
theorem OwnR.lt {w : World} {base : Nat} {e : TypeId} {v : Value} {xs : List RatD} (h : OwnR w base e v xs) : ∀ k, v.ownBlock = some k → base ≤ k ∧ k < w.heap.size := World.ownsRow.lt h
theorem OwnR.below' {w w' : World} {base : Nat} {e : TypeId} {v : Value} {xs : List RatD} (h : OwnR w base e v xs) (hb : Below w.heap.size w w') : OwnR w' base e v xs := ownk_below h hb (fun q hq => (h.lt q hq).2)
theorem ownR_lit (w : World) (base : Nat) (e : TypeId) (hb : base ≤ w.heap.size) : OwnR (w.alloc (.cells #[] e)) base e (.slice (some ⟨w.heap.size, 0, none⟩) 0 0) [] := World.ownsRow_made w #[] 0 hb (by decide) (by decide)
theorem ownR_nil (w : World) (base : Nat) (e : TypeId) : OwnR w base e (.slice none 0 0) [] := World.ownsRow_nil w base e 2
theorem OwnR.els {w : World} {base : Nat} {e : TypeId} {v : Value} {xs : List RatD} (h : OwnR w base e v xs) (hi : ∀ j (hj : j < xs.length), Ib xs[j].1 ∧ Ib xs[j].2) : ∃ a cap, v = .slice a xs.length cap ∧ Els 2 rRat w base w.heap.size a xs := by
  obtain ⟨hl, hh⟩ := id h
  rcases hh with ⟨rfl, h0⟩ | ⟨g, cap, cur, rfl, hb, hg, hn, hc, _⟩
  · exact ⟨none, 0, by rw [h0], fun hp => by omega⟩
  · refine ⟨_, cap, rfl, fun hp => ⟨g, 0, rfl, hb, (h.lt g rfl).2, fun j hj => ⟨[.int .i64 xs[j].1, .int .i64 xs[j].2], rfl, fun i hi2 => ?_, rat_mk (hi j hj).1 (hi j hj).2⟩⟩⟩
    have h' : w.ownsRow base e 2 (.slice (some ⟨g, 0, none⟩) xs.length cap) xs.length (fr xs) := h
    have hf := fr_at xs j hj
    match i, hi2 with
    | 0, _ => rw [Nat.zero_add, Nat.add_zero, World.ownsRow.cellAt h' _ (by omega), hf.1]; rfl
    | 1, _ => rw [Nat.zero_add, World.ownsRow.cellAt h' _ (by omega), hf.2]; rfl

section
variable {P : Program}
/-- 'append(v, r)' as a walk meets it: the rational lies in a new block of two cells. -/
theorem append_rat {ops : Array Oper} {rest : List Oper} {o : Oper} {a : Act} {Q : Exit → Act → World → Prop} (hgd : o.guard = none) (s x : Operand) (t : TypeId)
    (ho : o.op = .call { callee := .builtin .append, args := #[s, x], argTypes := #[t, t] })
    (base : Nat) (e : TypeId) (i : TypeInfo) (ht : P.underlying t = some (.slice e)) (hi : P.info? e = some i) (hz : i.zero = some (.agg #[.int .i64 0, .int .i64 0]))
    (hsize : i.size = 2) (hby : i.bytes = 16) (wr : World) (v : Value) (l : List RatD) (c : RatD) (hown : OwnR wr base e v l) (hs : a.eval s = v) (hbase : base ≤ wr.heap.size)
    (hx : a.eval x = .slice (some ⟨wr.heap.size, 0, none⟩) 1 1) (hlen : l.length ≤ 4398046511104)
    (h : ∀ v' w', OwnR w' base e v' (l ++ [c]) → Below base wr w' → base ≤ w'.heap.size → wpList P ops Q rest (a.put o.dst v') w') :
    wpList P ops Q (o :: rest) a (wr.alloc (.cells #[.int .i64 c.1, .int .i64 c.2] e)) := by
  refine wpList_append_own _ hgd s x t ho base e i (.agg #[.int .i64 0, .int .i64 0]) 2 16 ht hi hz hsize hby rfl (by decide) v l.length (fr l) hs (World.ownsRow.alloc hown _) ⟨wr.heap.size, 0, none⟩ 1 1 (fr [c]) hx rfl ?_ ?_ ?_ ?_ ?_ ?_
  · intro j u hj
    match j, hj with
    | 0, hj => simp [fr] at hj; subst hj; simp [Addr.add]
    | 1, hj => simp [fr] at hj; subst hj; simp [Addr.add]
    | j + 2, hj => simp [fr] at hj
  · intro u hu
    simp [fr] at hu
    rcases hu with rfl | rfl <;> rfl
  · unfold maxLen; omega
  · omega
  · simp; omega
  · intro v' w' hown' hgrow _
    refine h v' w' ?_ ?_ ?_
    · unfold OwnR
      rw [fr_app]
      simpa using hown'
    · exact ((Below.refl base wr).alloc hbase _).grown hgrow (by simp; omega) (fun k hk => (hown.lt k hk).1)
    · have := hgrow.size
      simp at this
      omega
end
end Go.Proofs.Ytjnphlgmmjdeiaa.RatRow
