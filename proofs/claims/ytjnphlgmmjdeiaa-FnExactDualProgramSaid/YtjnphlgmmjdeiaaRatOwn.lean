/- Rows of rationals of a call's own: what worlds keep of them, how they are read (no program in sight). -/
import Derived.Test.YtjnphlgmmjdeiaaRatRow
import Derived.Test.YtjnphlgmmjdeiaaGridMore
namespace Go.Proofs.Ytjnphlgmmjdeiaa.RatOwn
open Go.RowKit
open Go.Proofs.Ytjnphlgmmjdeiaa.IntRow Go.Proofs.Ytjnphlgmmjdeiaa.Grid Go.Proofs.Ytjnphlgmmjdeiaa.GridMore Go.Proofs.Ytjnphlgmmjdeiaa.Rdr Go.Proofs.Ytjnphlgmmjdeiaa.HasL Go.Proofs.Ytjnphlgmmjdeiaa.Rats Go.Proofs.Ytjnphlgmmjdeiaa.RatRow
set_option linter.unusedVariables false

def IbA (xs : List RatD) : Prop := ∀ j (h : j < xs.length), Ib xs[j].1 ∧ Ib xs[j].2
theorem iba_nil : IbA [] := fun j h => by simp at h
theorem iba_snoc {xs : List RatD} {p : RatD} (h : IbA xs) (hp : Ib p.1 ∧ Ib p.2) : IbA (xs ++ [p]) := fun j hj => by
  by_cases e : j < xs.length
  · rw [List.getElem_append_left e]; exact h j e
  · rw [List.getElem_append_right (by omega)]; simpa using hp
theorem iba_set {xs : List RatD} {p : RatD} (h : IbA xs) (hp : Ib p.1 ∧ Ib p.2) (k : Nat) : IbA (xs.set k p) := fun j hj => by
  rw [List.getElem_set]
  split
  · exact hp
  · exact h j (by simpa using hj)
theorem els_iba {w : World} {lo hi : Nat} {a : Option Addr} {xs : List RatD} (h : Els 2 rRat w lo hi a xs) : IbA xs := fun j hj => rats_bd h j hj
/-- A row of the call's own, from block lo on, that holds xs. -/
def OwnQ (w : World) (lo : Nat) (e : TypeId) (v : Value) (xs : List RatD) : Prop := OwnR w lo e v xs ∧ IbA xs
theorem OwnQ.nil (w : World) (lo : Nat) (e : TypeId) : OwnQ w lo e (.slice none 0 0) [] := ⟨ownR_nil w lo e, iba_nil⟩
theorem OwnQ.lt {w : World} {lo : Nat} {e : TypeId} {v : Value} {xs : List RatD} (h : OwnQ w lo e v xs) : ∀ k, v.ownBlock = some k → lo ≤ k ∧ k < w.heap.size := h.1.lt
theorem ownr_at {w : World} {b : Nat} {lo : Nat} {e : TypeId} {cap n : Nat} {xs : List RatD} (hn : n = xs.length) (h : w.ownsRow lo e 2 (.slice (some ⟨b, 0, none⟩) n cap) n (fr xs)) (j : Nat) (hj : j < xs.length) : w.cell? ⟨b, j * 2, none⟩ = some (.int .i64 xs[j].1) ∧ w.cell? ⟨b, j * 2 + 1, none⟩ = some (.int .i64 xs[j].2) := by
  subst hn
  have hf := fr_at xs j hj
  exact ⟨by rw [World.ownsRow.cellAt h _ (by omega), hf.1], by rw [World.ownsRow.cellAt h _ (by omega), hf.2]⟩
theorem OwnQ.form {w : World} {lo : Nat} {e : TypeId} {v : Value} {xs : List RatD} (h : OwnQ w lo e v xs) : ∃ a cap, v = .slice a xs.length cap ∧ xs.length ≤ cap ∧ cap ≤ maxLen ∧ Els 2 rRat w lo w.heap.size a xs := by
  obtain ⟨h1, h2⟩ := h
  rcases h1.2 with ⟨rfl, h0⟩ | ⟨g, cap, cur, rfl, hb, hg, hn, hc, _⟩
  · refine ⟨none, 0, by rw [h0], by omega, by unfold maxLen; omega, fun hp => by omega⟩
  · refine ⟨some ⟨g, 0, none⟩, cap, rfl, hn, hc, fun hp => ⟨g, 0, rfl, (h1.lt g rfl).1, (h1.lt g rfl).2, fun j hj => ⟨[.int .i64 xs[j].1, .int .i64 xs[j].2], rfl, fun i hi2 => ?_, rat_mk (h2 j hj).1 (h2 j hj).2⟩⟩⟩
    have hf := ownr_at rfl h1 j hj
    match i, hi2 with
    | 0, _ => rw [Nat.zero_add, Nat.add_zero, hf.1]; rfl
    | 1, _ => rw [Nat.zero_add, hf.2]; rfl
theorem OwnQ.below {w w' : World} {lo B : Nat} {e : TypeId} {v : Value} {xs : List RatD} (h : OwnQ w lo e v xs) (hb : Below B w w') (hB : ∀ k, v.ownBlock = some k → k < B) : OwnQ w' lo e v xs := ⟨ownk_below h.1 hb hB, h.2⟩
theorem OwnQ.below' {w w' : World} {lo : Nat} {e : TypeId} {v : Value} {xs : List RatD} (h : OwnQ w lo e v xs) (hb : Below w.heap.size w w') : OwnQ w' lo e v xs := h.below hb (fun k hk => (h.lt k hk).2)
theorem OwnQ.mono {w : World} {lo lo' : Nat} {e : TypeId} {v : Value} {xs : List RatD} (h : OwnQ w lo e v xs) (hl : lo' ≤ lo) : OwnQ w lo' e v xs := by
  refine ⟨⟨h.1.1, ?_⟩, h.2⟩
  rcases h.1.2 with hn | ⟨g, cap, cur, rfl, hg, hh, r⟩
  · exact .inl hn
  · exact .inr ⟨g, cap, cur, rfl, by omega, hh, r⟩
theorem OwnQ.alloc {w : World} {lo : Nat} {e : TypeId} {v : Value} {xs : List RatD} (h : OwnQ w lo e v xs) (o : Obj) : OwnQ (w.alloc o) lo e v xs := h.below' ((Below.refl _ _).alloc (Nat.le_refl _) o)
theorem OwnQ.drew {w : World} {lo : Nat} {e : TypeId} {v : Value} {xs : List RatD} (h : OwnQ w lo e v xs) : OwnQ w.drew lo e v xs := h
theorem OwnQ.grown {w w' : World} {lo : Nat} {e : TypeId} {v : Value} {xs : List RatD} {row : Option Nat} (h : OwnQ w lo e v xs) (hg : w.grownBy w' row) (hne : ∀ k, v.ownBlock = some k → row ≠ some k) : OwnQ w' lo e v xs :=
  ⟨World.ownsRow.kept h.1 hg (by
    cases hv : v.ownBlock with
    | none => exact .inl rfl
    | some k => exact .inr (fun e => hne k hv e.symm)), h.2⟩
theorem ownq_rd {w : World} {lo n : Nat} {e : TypeId} {a : Option Addr} {cap : Nat} {xs : List RatD} (h : OwnQ w lo e (.slice a n cap) xs) : n = xs.length ∧ Els 2 rRat w lo w.heap.size a xs := by
  obtain ⟨a', cap', hv, _, _, hr⟩ := h.form
  simp only [Value.slice.injEq] at hv
  obtain ⟨rfl, rfl, _⟩ := hv
  exact ⟨rfl, hr⟩
theorem ownq_block {w : World} {lo k : Nat} {e : TypeId} {v : Value} {n : Nat} {cs : List Value} {b : Nat} (h : w.ownsRow lo e k v n cs) (hk : v.ownBlock = some b) : ∃ cur, w.heap[b]? = some (.cells cur e (0, 0)) := by
  rcases h.2 with ⟨rfl, _⟩ | ⟨g, cap, cur, rfl, _, hg, _⟩
  · simp [Value.ownBlock] at hk
  · simp [Value.ownBlock] at hk
    subst hk
    exact ⟨cur, hg⟩
theorem ownq_turned {lo hi lo1 : Nat} {w w' : World} {e : TypeId} {v : Value} {xs : List RatD} (h : OwnQ w lo1 e v xs) (t : Turn lo hi w w') (hv : hi ≤ lo1 ∨ Under lo v) : OwnQ w' lo1 e v xs := by
  refine ⟨⟨h.1.1, ?_⟩, h.2⟩
  rcases h.1.2 with hn | ⟨g, cap, cur, rfl, hg, hh, r⟩
  · exact .inl hn
  · have hl := (h.1.lt g rfl).2
    refine .inr ⟨g, cap, cur, rfl, hg, (t.block g hl ?_).trans hh, r⟩
    rcases hv with hv | hv
    · exact .inr (by omega)
    · exact .inl (hv g rfl)
theorem fr_set (xs : List RatD) (j : Nat) (p : RatD) (h : j < xs.length) : ((fr xs).set (j * 2) (.int .i64 p.1)).set (j * 2 + 1) (.int .i64 p.2) = fr (xs.set j p) := by
  induction xs generalizing j with
  | nil => simp at h
  | cons q qs ih =>
    cases j with
    | zero => rfl
    | succ j =>
      rw [show (j + 1) * 2 = j * 2 + 1 + 1 by omega]
      simp only [fr, List.set_cons_succ]
      rw [ih j (by simpa using h)]
/-- One rational is written anew. -/
theorem ownr_set {w : World} {lo g : Nat} {e : TypeId} {cap n : Nat} {xs : List RatD} (h : OwnR w lo e (.slice (some ⟨g, 0, none⟩) n cap) xs) (j : Nat) (hj : j < xs.length) (p : RatD) : OwnR ((w.setCell ⟨g, j * 2, none⟩ (.int .i64 p.1)).setCell ⟨g, j * 2 + 1, none⟩ (.int .i64 p.2)) lo e (.slice (some ⟨g, 0, none⟩) n cap) (xs.set j p) := by
  obtain rfl : n = xs.length := by
    rcases h.2 with ⟨hv, _⟩ | ⟨g', cap', cur, hv, _⟩ <;> simp at hv
    exact hv.2.1
  have h' : w.ownsRow lo e 2 (.slice (some ⟨g, 0, none⟩) xs.length cap) xs.length (fr xs) := h
  have h1 := (World.ownsRow.stored h' (j * 2) (.int .i64 p.1)).1
  have h2 := (World.ownsRow.stored h1 (j * 2 + 1) (.int .i64 p.2)).1
  unfold OwnR
  rw [List.length_set, ← fr_set xs j p hj]
  exact h2
theorem set2_grown (w : World) (g j : Nat) (u v : Value) : w.grownBy ((w.setCell ⟨g, j * 2, none⟩ u).setCell ⟨g, j * 2 + 1, none⟩ v) (some g) :=
  ⟨rfl, rfl, rfl, by simp, fun i hi hr => by
    have hi' : i ≠ g := fun e => hr (by rw [e])
    rw [Below.heap_setCell _ _ _ _ (by simpa using hi'), Below.heap_setCell _ _ _ _ (by simpa using hi')]⟩
theorem ownq_set {w : World} {lo g : Nat} {e : TypeId} {cap n : Nat} {xs : List RatD} (h : OwnQ w lo e (.slice (some ⟨g, 0, none⟩) n cap) xs) (j : Nat) (hj : j < xs.length) (p : RatD) (hp : Ib p.1 ∧ Ib p.2) : OwnQ ((w.setCell ⟨g, j * 2, none⟩ (.int .i64 p.1)).setCell ⟨g, j * 2 + 1, none⟩ (.int .i64 p.2)) lo e (.slice (some ⟨g, 0, none⟩) n cap) (xs.set j p) :=
  ⟨ownr_set h.1 j hj p, iba_set h.2 hp j⟩
theorem ownq_free {w : World} {lo g : Nat} {e : TypeId} {cap n : Nat} {xs : List RatD} (h : OwnQ w lo e (.slice (some ⟨g, 0, none⟩) n cap) xs) (j : Nat) : w.frozen? ⟨g, j, none⟩ = false := by
  obtain ⟨rfl, _⟩ := ownq_rd h
  exact World.ownsRow.frozenAt h.1 j
/-- 'make([]Rational, n)': zeros that may be written. -/
theorem fr_zero (n : Nat) : (madeCells (Value.cells (.agg #[.int .i64 0, .int .i64 0])) (n * 2)).toList = fr (List.replicate n (0, 0)) := by
  apply List.ext_getElem?
  intro i
  have hl : (fr (List.replicate n ((0, 0) : RatD))).length = n * 2 := by rw [fr_len, List.length_replicate]
  by_cases hi : i < n * 2
  · have hj : i / 2 < n := by omega
    have h2 := fr_at (List.replicate n ((0, 0) : RatD)) (i / 2) (by simpa using hj)
    simp only [List.getElem_replicate] at h2
    have h1 : (madeCells (Value.cells (.agg #[.int .i64 0, .int .i64 0])) (n * 2)).toList[i]? = some (.int .i64 0) := by
      rcases Nat.mod_two_eq_zero_or_one i with e | e <;> (simp [madeCells, Value.cells]; exact ⟨i, by simp [hi], by simp [e]⟩)
    rw [h1]
    rcases Nat.mod_two_eq_zero_or_one i with e | e
    · rw [show i = i / 2 * 2 by omega, h2.1]
    · rw [show i = i / 2 * 2 + 1 by omega, h2.2]
  · rw [List.getElem?_eq_none (by simp [madeCells]; omega), List.getElem?_eq_none (by omega)]
theorem ownq_made (w : World) (e : TypeId) (n : Nat) (hn : n ≤ 1048576) : OwnQ (w.alloc (.cells (madeCells (Value.cells (.agg #[.int .i64 0, .int .i64 0])) (n * 2)) e)) w.heap.size e (.slice (some ⟨w.heap.size, 0, none⟩) n n) (List.replicate n (0, 0)) := by
  refine ⟨?_, fun j hj => ?_⟩
  · have h := own_k w e (Value.cells (.agg #[.int .i64 0, .int .i64 0])) 2 n hn
    unfold OwnR
    rw [List.length_replicate, ← fr_zero]
    exact h
  · simp only [List.getElem_replicate]; exact ⟨⟨by decide, by decide⟩, ⟨by decide, by decide⟩⟩
/-- A list of which the first k are filled in, zeros behind them. -/
def fillQ (xs : List RatD) (k : Nat) : List RatD := xs.take k ++ List.replicate (xs.length - k) (0, 0)
theorem fillQ_zero (xs : List RatD) : fillQ xs 0 = List.replicate xs.length (0, 0) := by simp [fillQ]
theorem fillQ_all (xs : List RatD) : fillQ xs xs.length = xs := by simp [fillQ]
theorem fillQ_length (xs : List RatD) (k : Nat) (h : k ≤ xs.length) : (fillQ xs k).length = xs.length := by simp [fillQ]; omega
theorem fillQ_step (xs : List RatD) (k : Nat) (h : k < xs.length) : (fillQ xs k).set k xs[k] = fillQ xs (k + 1) := by
  unfold fillQ
  rw [List.set_append_right _ _ (by simp; omega), show k - (xs.take k).length = 0 by simp; omega, show xs.length - k = (xs.length - (k + 1)) + 1 by omega, List.replicate_succ, List.set_cons_zero, List.take_succ_eq_append_getElem h, List.append_assoc]
  rfl
/-- The rationals that marks leave behind, from k on. -/
def mkQ (k : Int) : Nat → List RatD
  | 0 => []
  | n + 1 => (k, k + 1) :: mkQ (k + 2) n
theorem mkQ_length (k : Int) (n : Nat) : (mkQ k n).length = n := by
  induction n generalizing k with
  | zero => rfl
  | succ n ih => simp [mkQ, ih]
theorem mkQ_at (k : Int) (n j : Nat) (h : j < (mkQ k n).length) : (mkQ k n)[j] = (k + 2 * j, k + 2 * j + 1) := by
  induction n generalizing k j with
  | zero => simp [mkQ] at h
  | succ n ih =>
    cases j with
    | zero => simp [mkQ]
    | succ j =>
      simp only [mkQ, List.getElem_cons_succ]
      rw [ih]
      ext <;> simp <;> omega
/-- .. of which the first m are marked. -/
def mtQ (k : Int) (xs : List RatD) (m : Nat) : List RatD := mkQ k m ++ xs.drop m
theorem mtQ_length (k : Int) (xs : List RatD) (m : Nat) (h : m ≤ xs.length) : (mtQ k xs m).length = xs.length := by simp [mtQ, mkQ_length]; omega
theorem mtQ_all (k : Int) (xs : List RatD) : mtQ k xs xs.length = mkQ k xs.length := by simp [mtQ]
theorem mkQ_snoc (k : Int) (m : Nat) : mkQ k (m + 1) = mkQ k m ++ [(k + 2 * m, k + 2 * m + 1)] := by
  induction m generalizing k with
  | zero => simp [mkQ]
  | succ m ih =>
    rw [mkQ, ih (k + 2)]
    simp only [mkQ, List.cons_append, List.cons.injEq, true_and]
    congr 2
    ext <;> simp <;> omega
theorem mtQ_step (k : Int) (xs : List RatD) (m : Nat) (h : m < xs.length) : (mtQ k xs m).set m (k + 2 * m, k + 2 * m + 1) = mtQ k xs (m + 1) := by
  unfold mtQ
  rw [List.set_append_right _ _ (by rw [mkQ_length]; exact Nat.le_refl _), mkQ_length, Nat.sub_self, mkQ_snoc, List.drop_eq_getElem_cons h, List.set_cons_zero, List.append_assoc]
  rfl
end Go.Proofs.Ytjnphlgmmjdeiaa.RatOwn
