/- Rows of rows of ints: a grid that is only read, and a grid that the call has made itself (no program in sight). -/
import Derived.Test.YtliomgoakiidfaaIntRow
namespace Go.Proofs.Ytliomgoakiidfaa.Grid
open Go.RowKit
open Go.Proofs.Ytliomgoakiidfaa.IntRow
set_option linter.unusedVariables false

/-- The value '.slice a xss.length _' reads the rows xss, all below block B. -/
def GRd (w : World) (B : Nat) (a : Option Addr) (xss : List (List Int)) : Prop :=
  0 < xss.length → ∃ b off, a = some ⟨b, off, none⟩ ∧ b < B ∧ ∀ j (h : j < xss.length), ∃ aj capj, w.cell? ⟨b, off + j, none⟩ = some (.slice aj (xss[j]).length capj) ∧ Rd w B aj xss[j]
theorem GRd.nil (w : World) (B : Nat) (a : Option Addr) : GRd w B a [] := fun h => by simp at h
theorem GRd.below {w w' : World} {B : Nat} {a : Option Addr} {xss : List (List Int)} (h : GRd w B a xss) (hb : Below B w w') : GRd w' B a xss := fun h0 => by
  obtain ⟨b, off, e, hB, hc⟩ := h h0
  refine ⟨b, off, e, hB, fun j hj => ?_⟩
  obtain ⟨aj, capj, h1, h2⟩ := hc j hj
  exact ⟨aj, capj, (hb.cell (p := ⟨b, off + j, none⟩) hB).trans h1, h2.below hb⟩
theorem GRd.mono {w : World} {B B' : Nat} {a : Option Addr} {xss : List (List Int)} (h : GRd w B a xss) (hB : B ≤ B') : GRd w B' a xss := fun h0 => by
  obtain ⟨b, off, e, hb, hc⟩ := h h0
  refine ⟨b, off, e, by omega, fun j hj => ?_⟩
  obtain ⟨aj, capj, h1, h2⟩ := hc j hj
  exact ⟨aj, capj, h1, h2.mono hB⟩
theorem GRd.alloc {w : World} {B : Nat} {a : Option Addr} {xss : List (List Int)} (h : GRd w B a xss) (hB : B ≤ w.heap.size) (o : Obj) : GRd (w.alloc o) B a xss := h.below ((Below.refl _ _).alloc hB o)

/-- The grid v is the call's own, from block lo on: its headers vs, and each row, lie in blocks of their own. -/
structure GOwn (w : World) (lo : Nat) (eR eI : TypeId) (v : Value) (vs : List Value) (xss : List (List Int)) : Prop where
  len : vs.length = xss.length
  row : w.ownsRow lo eR 1 v xss.length vs
  own : ∀ j (h : j < xss.length) u, vs[j]? = some u → Own w lo eI u xss[j]
  apart : ∀ (i j : Nat) (u u' : Value) (k : Nat), i ≠ j → vs[i]? = some u → vs[j]? = some u' → u.ownBlock = some k → u'.ownBlock ≠ some k
theorem own_block {w : World} {lo : Nat} {e : TypeId} {v : Value} {n : Nat} {cs : List Value} {k : Nat} (h : w.ownsRow lo e 1 v n cs) (hk : v.ownBlock = some k) : ∃ cur, w.heap[k]? = some (.cells cur e (0, 0)) := by
  rcases h.2 with ⟨rfl, _⟩ | ⟨g, cap, cur, rfl, _, hg, _⟩
  · simp [Value.ownBlock] at hk
  · simp [Value.ownBlock] at hk
    subst hk
    exact ⟨cur, hg⟩
theorem GOwn.nil (w : World) (lo : Nat) (eR eI : TypeId) : GOwn w lo eR eI (.slice none 0 0) [] [] :=
  ⟨rfl, World.ownsRow_nil w lo eR 1, fun j h => by simp at h, fun i j u u' k _ h => by simp at h⟩
theorem GOwn.lt {w : World} {lo : Nat} {eR eI : TypeId} {v : Value} {vs : List Value} {xss : List (List Int)} (h : GOwn w lo eR eI v vs xss) : ∀ k, v.ownBlock = some k → lo ≤ k ∧ k < w.heap.size := World.ownsRow.lt h.row
theorem GOwn.lt_row {w : World} {lo : Nat} {eR eI : TypeId} {v : Value} {vs : List Value} {xss : List (List Int)} (h : GOwn w lo eR eI v vs xss) {j : Nat} {u : Value} (hu : vs[j]? = some u) : ∀ k, u.ownBlock = some k → lo ≤ k ∧ k < w.heap.size := by
  have hj : j < xss.length := by rw [← h.len]; exact (List.getElem?_eq_some_iff.1 hu).1
  exact (h.own j hj u hu).lt
/-- The headers' block is no row's. -/
theorem GOwn.far {w : World} {lo : Nat} {eR eI : TypeId} {v : Value} {vs : List Value} {xss : List (List Int)} (h : GOwn w lo eR eI v vs xss) (hne : eR ≠ eI) {j : Nat} {u : Value} {k : Nat} (hu : vs[j]? = some u) (hk : u.ownBlock = some k) : v.ownBlock ≠ some k := by
  intro hv
  have hj : j < xss.length := by rw [← h.len]; exact (List.getElem?_eq_some_iff.1 hu).1
  obtain ⟨c1, h1⟩ := own_block h.row hv
  obtain ⟨c2, h2⟩ := own_block (h.own j hj u hu) hk
  rw [h1] at h2
  injection h2 with h2
  injection h2 with _ h3
  exact hne h3
theorem GOwn.form {w : World} {lo : Nat} {eR eI : TypeId} {v : Value} {vs : List Value} {xss : List (List Int)} (h : GOwn w lo eR eI v vs xss) : ∃ a cap, v = .slice a xss.length cap ∧ xss.length ≤ cap ∧ cap ≤ maxLen ∧ GRd w w.heap.size a xss := by
  rcases h.row.2 with ⟨rfl, h0⟩ | ⟨g, cap, cur, rfl, hb, hg, hn, hc, _⟩
  · refine ⟨none, 0, by rw [h0], by omega, by unfold maxLen; omega, fun hp => by omega⟩
  · refine ⟨some ⟨g, 0, none⟩, cap, rfl, hn, hc, fun hp => ⟨g, 0, rfl, (h.lt g rfl).2, fun j hj => ?_⟩⟩
    have hj' : j < vs.length := by rw [h.len]; exact hj
    have hu : vs[j]? = some vs[j] := List.getElem?_eq_getElem hj'
    obtain ⟨aj, capj, hv, _, _, hr⟩ := (h.own j hj vs[j] hu).form
    refine ⟨aj, capj, ?_, hr⟩
    rw [Nat.zero_add, h.row.cellAt j (by omega), hu, hv]
theorem GOwn.below {w w' : World} {lo B : Nat} {eR eI : TypeId} {v : Value} {vs : List Value} {xss : List (List Int)} (h : GOwn w lo eR eI v vs xss) (hb : Below B w w') (hB : w.heap.size ≤ B) : GOwn w' lo eR eI v vs xss := by
  refine ⟨h.len, ⟨h.row.1, ?_⟩, fun j hj u hu => (h.own j hj u hu).below hb (fun k hk => by have := ((h.own j hj u hu).lt k hk).2; omega), h.apart⟩
  rcases h.row.2 with hn | ⟨g, cap, cur, rfl, hg, hh, r⟩
  · exact .inl hn
  · exact .inr ⟨g, cap, cur, rfl, hg, (hb.block g (by have := (h.lt g rfl).2; omega)).trans hh, r⟩
theorem GOwn.below' {w w' : World} {lo : Nat} {eR eI : TypeId} {v : Value} {vs : List Value} {xss : List (List Int)} (h : GOwn w lo eR eI v vs xss) (hb : Below w.heap.size w w') : GOwn w' lo eR eI v vs xss := h.below hb (Nat.le_refl _)
theorem GOwn.alloc {w : World} {lo : Nat} {eR eI : TypeId} {v : Value} {vs : List Value} {xss : List (List Int)} (h : GOwn w lo eR eI v vs xss) (o : Obj) : GOwn (w.alloc o) lo eR eI v vs xss := h.below' ((Below.refl _ _).alloc (Nat.le_refl _) o)
theorem GOwn.drew {w : World} {lo : Nat} {eR eI : TypeId} {v : Value} {vs : List Value} {xss : List (List Int)} (h : GOwn w lo eR eI v vs xss) : GOwn w.drew lo eR eI v vs xss := h.below' (Below.refl _ _).drew
theorem GOwn.mono {w : World} {lo lo' : Nat} {eR eI : TypeId} {v : Value} {vs : List Value} {xss : List (List Int)} (h : GOwn w lo eR eI v vs xss) (hl : lo' ≤ lo) : GOwn w lo' eR eI v vs xss := by
  refine ⟨h.len, ⟨h.row.1, ?_⟩, fun j hj u hu => (h.own j hj u hu).mono hl, h.apart⟩
  rcases h.row.2 with hn | ⟨g, cap, cur, rfl, hg, r⟩
  · exact .inl hn
  · exact .inr ⟨g, cap, cur, rfl, by omega, r⟩
/-- A write into block k, which is none of the grid's. -/
theorem GOwn.grown {w w' : World} {lo : Nat} {eR eI : TypeId} {v : Value} {vs : List Value} {xss : List (List Int)} {row : Option Nat} (h : GOwn w lo eR eI v vs xss) (hg : w.grownBy w' row) (h1 : ∀ k, v.ownBlock = some k → row ≠ some k)
    (h2 : ∀ (j : Nat) (u : Value) (k : Nat), vs[j]? = some u → u.ownBlock = some k → row ≠ some k) : GOwn w' lo eR eI v vs xss := by
  refine ⟨h.len, h.row.kept hg ?_, fun j hj u hu => (h.own j hj u hu).grown hg (fun k hk => h2 j u k hu hk), h.apart⟩
  cases hv : v.ownBlock with
  | none => exact .inl rfl
  | some k => exact .inr (fun e => h1 k hv e.symm)
theorem GOwn.moved {w w' : World} {lo c : Nat} {eR eI : TypeId} {v : Value} {vs : List Value} {xss : List (List Int)} (h : GOwn w lo eR eI v vs xss) (hg : w.grownBy w' (some c)) (hc : c < lo) : GOwn w' lo eR eI v vs xss :=
  h.grown hg (fun k hk e => by injection e with e; have := (h.lt k hk).1; omega) (fun j u k hu hk e => by injection e with e; have := (h.lt_row hu k hk).1; omega)
theorem GOwn.rd {w : World} {lo n cap : Nat} {a : Option Addr} {eR eI : TypeId} {vs : List Value} {xss : List (List Int)} (h : GOwn w lo eR eI (.slice a n cap) vs xss) : GRd w w.heap.size a xss := by
  obtain ⟨a', cap', hv, _, _, hr⟩ := h.form
  simp only [Value.slice.injEq] at hv
  obtain ⟨rfl, _, _⟩ := hv
  exact hr
theorem GOwn.cellAt {w : World} {lo b off n cap : Nat} {eR eI : TypeId} {vs : List Value} {xss : List (List Int)} (h : GOwn w lo eR eI (.slice (some ⟨b, off, none⟩) n cap) vs xss) (j : Nat) (hj : j < xss.length) : w.cell? ⟨b, off + j, none⟩ = vs[j]? := by
  obtain ⟨h1, h2⟩ := h.row
  rcases h2 with ⟨hv, _⟩ | ⟨g, cap', cur, hv, r⟩
  · simp at hv
  · simp only [Value.slice.injEq, Option.some.injEq, Addr.mk.injEq, and_true] at hv
    obtain ⟨⟨rfl, rfl⟩, rfl, rfl⟩ := hv
    rw [Nat.zero_add]
    exact h.row.cellAt j (by omega)
theorem GOwn.free {w : World} {lo b off n cap : Nat} {eR eI : TypeId} {vs : List Value} {xss : List (List Int)} (h : GOwn w lo eR eI (.slice (some ⟨b, off, none⟩) n cap) vs xss) (j : Nat) : w.frozen? ⟨b, off + j, none⟩ = false := by
  obtain ⟨h1, h2⟩ := h.row
  rcases h2 with ⟨hv, _⟩ | ⟨g, cap', cur, hv, r⟩
  · simp at hv
  · simp only [Value.slice.injEq, Option.some.injEq, Addr.mk.injEq, and_true] at hv
    obtain ⟨⟨rfl, rfl⟩, rfl, rfl⟩ := hv
    rw [Nat.zero_add]
    exact h.row.frozenAt j
/-- One row is written anew, by whatever leaves it owned. -/
theorem GOwn.rewrite {w w' : World} {lo : Nat} {eR eI : TypeId} {v : Value} {vs : List Value} {xss : List (List Int)} (h : GOwn w lo eR eI v vs xss) (hne : eR ≠ eI) {j : Nat} (hj : j < xss.length) {u : Value} (hu : vs[j]? = some u) (ys : List Int)
    (ho : Own w' lo eI u ys) (hg : w.grownBy w' u.ownBlock) : GOwn w' lo eR eI v vs (xss.set j ys) := by
  refine ⟨by rw [List.length_set, h.len], ?_, ?_, h.apart⟩
  · rw [List.length_set]
    refine h.row.kept hg ?_
    cases hv : v.ownBlock with
    | none => exact .inl rfl
    | some k => exact .inr (fun e => h.far hne hu e.symm hv)
  · intro i hi u' hu'
    rw [List.length_set] at hi
    by_cases e : i = j
    · subst e
      rw [hu] at hu'
      injection hu' with hu'
      subst hu'
      simpa using ho
    · rw [List.getElem_set_ne (fun x => e x.symm)]
      exact (h.own i hi u' hu').grown hg (fun k hk hk2 => h.apart j i u u' k (fun x => e x.symm) hu hu' hk2 hk)
/-- A new row is put behind the grid: the headers' row has grown to v'. -/
theorem GOwn.push {w w' : World} {lo : Nat} {eR eI : TypeId} {v v' u : Value} {vs : List Value} {xss : List (List Int)} {ys : List Int} (h : GOwn w lo eR eI v vs xss) (hne : eR ≠ eI) (ho : Own w lo eI u ys)
    (hap : ∀ (j : Nat) (u' : Value) (k : Nat), vs[j]? = some u' → u.ownBlock = some k → u'.ownBlock ≠ some k)
    (hrow : w'.ownsRow lo eR 1 v' (xss.length + 1) (vs ++ [u])) (hg : w.grownBy w' v.ownBlock) : GOwn w' lo eR eI v' (vs ++ [u]) (xss ++ [ys]) := by
  have hvu : ∀ k, u.ownBlock = some k → v.ownBlock ≠ some k := fun k hk hv => by
    obtain ⟨c1, h1⟩ := own_block h.row hv
    obtain ⟨c2, h2⟩ := own_block ho hk
    rw [h1] at h2
    injection h2 with h2
    injection h2 with _ h3
    exact hne h3
  refine ⟨by simp [h.len], by simpa using hrow, ?_, ?_⟩
  · intro j hj u' hu'
    rw [List.length_append, List.length_singleton] at hj
    by_cases e : j < xss.length
    · rw [List.getElem?_append_left (by rw [h.len]; exact e)] at hu'
      rw [List.getElem_append_left e]
      exact (h.own j e u' hu').grown hg (fun k hk => h.far hne hu' hk)
    · have e2 : j = xss.length := by omega
      subst e2
      rw [← h.len, List.getElem?_append_right (Nat.le_refl _), Nat.sub_self] at hu'
      simp only [List.getElem?_cons_zero, Option.some.injEq] at hu'
      subst hu'
      rw [List.getElem_append_right (Nat.le_refl _)]
      simpa using ho.grown hg (fun k hk => hvu k hk)
  · intro i j a b k hij ha hb hk
    have hi := (List.getElem?_eq_some_iff.1 ha).1
    have hj := (List.getElem?_eq_some_iff.1 hb).1
    rw [List.length_append, List.length_singleton] at hi hj
    by_cases e1 : i < vs.length
    · rw [List.getElem?_append_left e1] at ha
      by_cases e2 : j < vs.length
      · rw [List.getElem?_append_left e2] at hb
        exact h.apart i j a b k hij ha hb hk
      · have e3 : j = vs.length := by omega
        subst e3
        rw [List.getElem?_append_right (Nat.le_refl _), Nat.sub_self] at hb
        simp only [List.getElem?_cons_zero, Option.some.injEq] at hb
        subst hb
        exact fun hk' => hap i a k ha hk' hk
    · have e3 : i = vs.length := by omega
      subst e3
      rw [List.getElem?_append_right (Nat.le_refl _), Nat.sub_self] at ha
      simp only [List.getElem?_cons_zero, Option.some.injEq] at ha
      subst ha
      rw [List.getElem?_append_left (by omega)] at hb
      exact hap j b k hb hk
end Go.Proofs.Ytliomgoakiidfaa.Grid
