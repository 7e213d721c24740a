/- Rows of rows of rationals that the call has made itself (no program in sight). -/
import Derived.Test.YtjnphlgmmjdeiaaRatOwn
import Derived.Test.YtjnphlgmmjdeiaaKept
namespace Go.Proofs.Ytjnphlgmmjdeiaa.GridQ
open Go.RowKit
open Go.Proofs.Ytjnphlgmmjdeiaa.IntRow Go.Proofs.Ytjnphlgmmjdeiaa.Grid Go.Proofs.Ytjnphlgmmjdeiaa.GridMore Go.Proofs.Ytjnphlgmmjdeiaa.Rdr Go.Proofs.Ytjnphlgmmjdeiaa.HasL Go.Proofs.Ytjnphlgmmjdeiaa.Rats Go.Proofs.Ytjnphlgmmjdeiaa.RatRow Go.Proofs.Ytjnphlgmmjdeiaa.RatOwn
set_option linter.unusedVariables false

def Far (u u' : Value) : Prop := ∀ k, u.ownBlock = some k → u'.ownBlock ≠ some k
/-- The grid v is the call's own, from block lo on: its headers vs, and each row, lie in blocks of their own. -/
structure GOwnQ (w : World) (lo : Nat) (eR eI : TypeId) (v : Value) (vs : List Value) (xss : List (List RatD)) : Prop where
  len : vs.length = xss.length
  row : w.ownsRow lo eR 1 v xss.length vs
  own : ∀ j (h : j < xss.length) u, vs[j]? = some u → OwnQ w lo eI u xss[j]
  apart : ∀ (i j : Nat) (u u' : Value) (k : Nat), i ≠ j → vs[i]? = some u → vs[j]? = some u' → u.ownBlock = some k → u'.ownBlock ≠ some k
theorem GOwnQ.nil (w : World) (lo : Nat) (eR eI : TypeId) : GOwnQ w lo eR eI (.slice none 0 0) [] [] :=
  ⟨rfl, World.ownsRow_nil w lo eR 1, fun j h => by simp at h, fun i j u u' k _ h => by simp at h⟩
theorem GOwnQ.lt {w : World} {lo : Nat} {eR eI : TypeId} {v : Value} {vs : List Value} {xss : List (List RatD)} (h : GOwnQ w lo eR eI v vs xss) : ∀ k, v.ownBlock = some k → lo ≤ k ∧ k < w.heap.size := World.ownsRow.lt h.row
theorem GOwnQ.lt_row {w : World} {lo : Nat} {eR eI : TypeId} {v : Value} {vs : List Value} {xss : List (List RatD)} (h : GOwnQ w lo eR eI v vs xss) {j : Nat} {u : Value} (hu : vs[j]? = some u) : ∀ k, u.ownBlock = some k → lo ≤ k ∧ k < w.heap.size := by
  have hj : j < xss.length := by rw [← h.len]; exact (List.getElem?_eq_some_iff.1 hu).1
  exact (h.own j hj u hu).lt
/-- The headers' block is no row's. -/
theorem GOwnQ.far {w : World} {lo : Nat} {eR eI : TypeId} {v : Value} {vs : List Value} {xss : List (List RatD)} (h : GOwnQ w lo eR eI v vs xss) (hne : eR ≠ eI) {j : Nat} {u : Value} {k : Nat} (hu : vs[j]? = some u) (hk : u.ownBlock = some k) : v.ownBlock ≠ some k := by
  intro hv
  have hj : j < xss.length := by rw [← h.len]; exact (List.getElem?_eq_some_iff.1 hu).1
  obtain ⟨c1, h1⟩ := ownq_block h.row hv
  obtain ⟨c2, h2⟩ := ownq_block (h.own j hj u hu).1 hk
  rw [h1] at h2
  injection h2 with h2
  injection h2 with _ h3
  exact hne h3
abbrev rRow2 : Reader (List RatD) := rSl 2 rRat
theorem good_row2 : Gd rRow2 := good_sl good_rat
theorem GOwnQ.form {w : World} {lo : Nat} {eR eI : TypeId} {v : Value} {vs : List Value} {xss : List (List RatD)} (h : GOwnQ w lo eR eI v vs xss) : ∃ a cap, v = .slice a xss.length cap ∧ xss.length ≤ cap ∧ cap ≤ maxLen ∧ Els 1 rRow2 w lo w.heap.size a xss := by
  rcases h.row.2 with ⟨rfl, h0⟩ | ⟨g, cap, cur, rfl, hb, hg, hn, hc, _⟩
  · refine ⟨none, 0, by rw [h0], by omega, by unfold maxLen; omega, fun hp => by omega⟩
  · refine ⟨some ⟨g, 0, none⟩, cap, rfl, hn, hc, fun hp => ⟨g, 0, rfl, (h.lt g rfl).1, (h.lt g rfl).2, fun j hj => ?_⟩⟩
    have hj' : j < vs.length := by rw [h.len]; exact hj
    have hu : vs[j]? = some vs[j] := List.getElem?_eq_getElem hj'
    obtain ⟨aj, capj, hv, hle, hmx, hr⟩ := (h.own j hj vs[j] hu).form
    refine ⟨[.slice aj xss[j].length capj], rfl, fun i hi => ?_, by unfold maxLen at hmx; omega, aj, capj, rfl, hle, hr⟩
    simp at hi
    subst hi
    rw [Nat.zero_add, Nat.mul_one, Nat.add_zero, h.row.cellAt j (by omega), hu, hv]
    rfl
theorem GOwnQ.below {w w' : World} {lo B : Nat} {eR eI : TypeId} {v : Value} {vs : List Value} {xss : List (List RatD)} (h : GOwnQ w lo eR eI v vs xss) (hb : Below B w w') (hB : w.heap.size ≤ B) : GOwnQ w' lo eR eI v vs xss := by
  refine ⟨h.len, ⟨h.row.1, ?_⟩, fun j hj u hu => (h.own j hj u hu).below hb (fun k hk => by have := ((h.own j hj u hu).lt k hk).2; omega), h.apart⟩
  rcases h.row.2 with hn | ⟨g, cap, cur, rfl, hg, hh, r⟩
  · exact .inl hn
  · exact .inr ⟨g, cap, cur, rfl, hg, (hb.block g (by have := (h.lt g rfl).2; omega)).trans hh, r⟩
theorem GOwnQ.below' {w w' : World} {lo : Nat} {eR eI : TypeId} {v : Value} {vs : List Value} {xss : List (List RatD)} (h : GOwnQ w lo eR eI v vs xss) (hb : Below w.heap.size w w') : GOwnQ w' lo eR eI v vs xss := h.below hb (Nat.le_refl _)
theorem GOwnQ.alloc {w : World} {lo : Nat} {eR eI : TypeId} {v : Value} {vs : List Value} {xss : List (List RatD)} (h : GOwnQ w lo eR eI v vs xss) (o : Obj) : GOwnQ (w.alloc o) lo eR eI v vs xss := h.below' ((Below.refl _ _).alloc (Nat.le_refl _) o)
theorem GOwnQ.drew {w : World} {lo : Nat} {eR eI : TypeId} {v : Value} {vs : List Value} {xss : List (List RatD)} (h : GOwnQ w lo eR eI v vs xss) : GOwnQ w.drew lo eR eI v vs xss := h.below' (Below.refl _ _).drew
theorem GOwnQ.mono {w : World} {lo lo' : Nat} {eR eI : TypeId} {v : Value} {vs : List Value} {xss : List (List RatD)} (h : GOwnQ w lo eR eI v vs xss) (hl : lo' ≤ lo) : GOwnQ w lo' eR eI v vs xss := by
  refine ⟨h.len, ⟨h.row.1, ?_⟩, fun j hj u hu => (h.own j hj u hu).mono hl, h.apart⟩
  rcases h.row.2 with hn | ⟨g, cap, cur, rfl, hg, r⟩
  · exact .inl hn
  · exact .inr ⟨g, cap, cur, rfl, by omega, r⟩
/-- A write into block k, which is none of the grid's. -/
theorem GOwnQ.grown {w w' : World} {lo : Nat} {eR eI : TypeId} {v : Value} {vs : List Value} {xss : List (List RatD)} {row : Option Nat} (h : GOwnQ w lo eR eI v vs xss) (hg : w.grownBy w' row) (h1 : ∀ k, v.ownBlock = some k → row ≠ some k)
    (h2 : ∀ (j : Nat) (u : Value) (k : Nat), vs[j]? = some u → u.ownBlock = some k → row ≠ some k) : GOwnQ w' lo eR eI v vs xss := by
  refine ⟨h.len, h.row.kept hg ?_, fun j hj u hu => (h.own j hj u hu).grown hg (fun k hk => h2 j u k hu hk), h.apart⟩
  cases hv : v.ownBlock with
  | none => exact .inl rfl
  | some k => exact .inr (fun e => h1 k hv e.symm)
theorem GOwnQ.moved {w w' : World} {lo c : Nat} {eR eI : TypeId} {v : Value} {vs : List Value} {xss : List (List RatD)} (h : GOwnQ w lo eR eI v vs xss) (hg : w.grownBy w' (some c)) (hc : c < lo) : GOwnQ w' lo eR eI v vs xss :=
  h.grown hg (fun k hk e => by injection e with e; have := (h.lt k hk).1; omega) (fun j u k hu hk e => by injection e with e; have := (h.lt_row hu k hk).1; omega)
theorem GOwnQ.rd {w : World} {lo n cap : Nat} {a : Option Addr} {eR eI : TypeId} {vs : List Value} {xss : List (List RatD)} (h : GOwnQ w lo eR eI (.slice a n cap) vs xss) : n = xss.length ∧ Els 1 rRow2 w lo w.heap.size a xss := by
  obtain ⟨a', cap', hv, _, _, hr⟩ := h.form
  simp only [Value.slice.injEq] at hv
  obtain ⟨rfl, rfl, _⟩ := hv
  exact ⟨rfl, hr⟩
theorem GOwnQ.cellAt {w : World} {lo b off n cap : Nat} {eR eI : TypeId} {vs : List Value} {xss : List (List RatD)} (h : GOwnQ w lo eR eI (.slice (some ⟨b, off, none⟩) n cap) vs xss) (j : Nat) (hj : j < xss.length) : w.cell? ⟨b, off + j, none⟩ = vs[j]? := by
  obtain ⟨h1, h2⟩ := h.row
  rcases h2 with ⟨hv, _⟩ | ⟨g, cap', cur, hv, r⟩
  · simp at hv
  · simp only [Value.slice.injEq, Option.some.injEq, Addr.mk.injEq, and_true] at hv
    obtain ⟨⟨rfl, rfl⟩, rfl, rfl⟩ := hv
    rw [Nat.zero_add]
    exact h.row.cellAt j (by omega)
theorem GOwnQ.free {w : World} {lo b off n cap : Nat} {eR eI : TypeId} {vs : List Value} {xss : List (List RatD)} (h : GOwnQ w lo eR eI (.slice (some ⟨b, off, none⟩) n cap) vs xss) (j : Nat) : w.frozen? ⟨b, off + j, none⟩ = false := by
  obtain ⟨h1, h2⟩ := h.row
  rcases h2 with ⟨hv, _⟩ | ⟨g, cap', cur, hv, r⟩
  · simp at hv
  · simp only [Value.slice.injEq, Option.some.injEq, Addr.mk.injEq, and_true] at hv
    obtain ⟨⟨rfl, rfl⟩, rfl, rfl⟩ := hv
    rw [Nat.zero_add]
    exact h.row.frozenAt j
/-- One row is written anew, by whatever leaves it owned. -/
theorem GOwnQ.rewrite {w w' : World} {lo : Nat} {eR eI : TypeId} {v : Value} {vs : List Value} {xss : List (List RatD)} (h : GOwnQ w lo eR eI v vs xss) (hne : eR ≠ eI) {j : Nat} (hj : j < xss.length) {u : Value} (hu : vs[j]? = some u) (ys : List RatD)
    (ho : OwnQ w' lo eI u ys) (hg : w.grownBy w' u.ownBlock) : GOwnQ w' lo eR eI v vs (xss.set j ys) := by
  refine ⟨by rw [List.length_set, h.len], ?_, ?_, h.apart⟩
  · rw [List.length_set]
    refine h.row.kept hg ?_
    cases hv : v.ownBlock with
    | none => exact .inl rfl
    | some k => exact .inr (fun e => h.far hne hu e.symm hv)
  · intro i hi u' hu'
    rw [List.length_set] at hi
    by_cases e : i = j
    · subst e
      rw [hu] at hu'
      injection hu' with hu'
      subst hu'
      simpa using ho
    · rw [List.getElem_set_ne (fun x => e x.symm)]
      exact (h.own i hi u' hu').grown hg (fun k hk hk2 => h.apart j i u u' k (fun x => e x.symm) hu hu' hk2 hk)
/-- A new row is put behind the grid: the headers' row has grown to v'. -/
theorem GOwnQ.push {w w' : World} {lo : Nat} {eR eI : TypeId} {v v' u : Value} {vs : List Value} {xss : List (List RatD)} {ys : List RatD} (h : GOwnQ w lo eR eI v vs xss) (hne : eR ≠ eI) (ho : OwnQ w lo eI u ys)
    (hap : ∀ (j : Nat) (u' : Value) (k : Nat), vs[j]? = some u' → u.ownBlock = some k → u'.ownBlock ≠ some k)
    (hrow : w'.ownsRow lo eR 1 v' (xss.length + 1) (vs ++ [u])) (hg : w.grownBy w' v.ownBlock) : GOwnQ w' lo eR eI v' (vs ++ [u]) (xss ++ [ys]) := by
  have hvu : ∀ k, u.ownBlock = some k → v.ownBlock ≠ some k := fun k hk hv => by
    obtain ⟨c1, h1⟩ := ownq_block h.row hv
    obtain ⟨c2, h2⟩ := ownq_block ho.1 hk
    rw [h1] at h2
    injection h2 with h2
    injection h2 with _ h3
    exact hne h3
  refine ⟨by simp [h.len], by simpa using hrow, ?_, ?_⟩
  · intro j hj u' hu'
    rw [List.length_append, List.length_singleton] at hj
    by_cases e : j < xss.length
    · rw [List.getElem?_append_left (by rw [h.len]; exact e)] at hu'
      rw [List.getElem_append_left e]
      exact (h.own j e u' hu').grown hg (fun k hk => h.far hne hu' hk)
    · have e2 : j = xss.length := by omega
      subst e2
      rw [← h.len, List.getElem?_append_right (Nat.le_refl _), Nat.sub_self] at hu'
      simp only [List.getElem?_cons_zero, Option.some.injEq] at hu'
      subst hu'
      rw [List.getElem_append_right (Nat.le_refl _)]
      simpa using ho.grown hg (fun k hk => hvu k hk)
  · intro i j a b k hij ha hb hk
    have hi := (List.getElem?_eq_some_iff.1 ha).1
    have hj := (List.getElem?_eq_some_iff.1 hb).1
    rw [List.length_append, List.length_singleton] at hi hj
    by_cases e1 : i < vs.length
    · rw [List.getElem?_append_left e1] at ha
      by_cases e2 : j < vs.length
      · rw [List.getElem?_append_left e2] at hb
        exact h.apart i j a b k hij ha hb hk
      · have e3 : j = vs.length := by omega
        subst e3
        rw [List.getElem?_append_right (Nat.le_refl _), Nat.sub_self] at hb
        simp only [List.getElem?_cons_zero, Option.some.injEq] at hb
        subst hb
        exact fun hk' => hap i a k ha hk' hk
    · have e3 : i = vs.length := by omega
      subst e3
      rw [List.getElem?_append_right (Nat.le_refl _), Nat.sub_self] at ha
      simp only [List.getElem?_cons_zero, Option.some.injEq] at ha
      subst ha
      rw [List.getElem?_append_left (by omega)] at hb
      exact hap j b k hb hk
theorem gownq_turned {lo hi lo1 : Nat} {w w' : World} {eR eI : TypeId} {v : Value} {vs : List Value} {xss : List (List RatD)} (h : GOwnQ w lo1 eR eI v vs xss) (t : Turn lo hi w w') (hv : hi ≤ lo1 ∨ GUnder lo v vs) : GOwnQ w' lo1 eR eI v vs xss := by
  refine ⟨h.len, ⟨h.row.1, ?_⟩, fun j hj u hu => ownq_turned (h.own j hj u hu) t (hv.imp id fun x => x.2 j u hu), h.apart⟩
  rcases h.row.2 with hn | ⟨g, cap, cur, rfl, hg, hh, r⟩
  · exact .inl hn
  · have hl := (h.lt g rfl).2
    refine .inr ⟨g, cap, cur, rfl, hg, (t.block g hl ?_).trans hh, r⟩
    rcases hv with hv | hv
    · exact .inr (by omega)
    · exact .inl (hv.1 g rfl)
theorem gownq_under {lo : Nat} {w : World} {eR eI : TypeId} {v : Value} {vs : List Value} {xss : List (List RatD)} (h : GOwnQ w lo eR eI v vs xss) : GUnder w.heap.size v vs :=
  ⟨fun k hk => (h.lt k hk).2, fun j u hu k hk => (h.lt_row hu k hk).2⟩
/-- A header is stored: a new row in place j. -/
theorem gownq_store {w : World} {lo g cap n : Nat} {eR eI : TypeId} {u : Value} {vs : List Value} {xss : List (List RatD)} {ys : List RatD} (h : GOwnQ w lo eR eI (.slice (some ⟨g, 0, none⟩) n cap) vs xss) (hn : n = xss.length) (hne : eR ≠ eI) (j : Nat) (hj : j < xss.length) (ho : OwnQ w lo eI u ys)
    (hap : ∀ (i : Nat) (u' : Value) (k : Nat), i ≠ j → vs[i]? = some u' → u.ownBlock = some k → u'.ownBlock ≠ some k) :
    GOwnQ (w.setCell ⟨g, j, none⟩ u) lo eR eI (.slice (some ⟨g, 0, none⟩) n cap) (vs.set j u) (xss.set j ys) := by
  subst hn
  have hst := World.ownsRow.stored h.row j u
  have hu : ∀ k, u.ownBlock = some k → (some g : Option Nat) ≠ some k := fun k hk hv => by
    obtain ⟨c1, h1⟩ := ownq_block h.row (b := g) rfl
    obtain ⟨c2, h2⟩ := ownq_block ho.1 hk
    injection hv with hv
    subst hv
    rw [h1] at h2
    injection h2 with h2
    injection h2 with _ h3
    exact hne h3
  refine ⟨by rw [List.length_set, List.length_set, h.len], by rw [List.length_set]; exact hst.1, ?_, ?_⟩
  · intro i hi u' hu'
    rw [List.length_set] at hi
    by_cases e : i = j
    · subst e
      rw [List.getElem?_set_self (by rw [h.len]; exact hj)] at hu'
      injection hu' with hu'
      subst hu'
      simpa using ho.grown hst.2 hu
    · rw [List.getElem?_set_ne (fun x => e x.symm)] at hu'
      rw [List.getElem_set_ne (fun x => e x.symm)]
      exact (h.own i hi u' hu').grown hst.2 (fun k hk => h.far hne hu' hk)
  · intro i k a b m hik ha hb hm
    by_cases e1 : i = j
    · subst e1
      rw [List.getElem?_set_self (by rw [h.len]; exact hj)] at ha
      injection ha with ha
      subst ha
      rw [List.getElem?_set_ne hik] at hb
      exact hap k b m (fun x => hik x.symm) hb hm
    · rw [List.getElem?_set_ne (fun x => e1 x.symm)] at ha
      by_cases e2 : k = j
      · subst e2
        rw [List.getElem?_set_self (by rw [h.len]; exact hj)] at hb
        injection hb with hb
        subst hb
        exact fun hk => hap i a m e1 ha hk hm
      · rw [List.getElem?_set_ne (fun x => e2 x.symm)] at hb
        exact h.apart i k a b m hik ha hb hm

theorem rowsq_made (w : World) (eR eI : TypeId) (n : Nat) (hn : n ≤ 5000000000000) : GOwnQ (w.alloc (.cells (Array.replicate n (.slice none 0 0)) eR)) w.heap.size eR eI (.slice (some ⟨w.heap.size, 0, none⟩) n n) (List.replicate n (.slice none 0 0)) (List.replicate n []) := by
  have h := World.ownsRow_lit (size := 1) (e := eR) (base := w.heap.size) w (Array.replicate n (.slice none 0 0)) n (Nat.le_refl _) (by unfold maxLen; omega) (by simp)
  have hnil : ∀ (j : Nat) (u : Value), (List.replicate n (Value.slice none 0 0))[j]? = some u → u = .slice none 0 0 := fun j u hu => List.eq_of_mem_replicate (List.mem_of_getElem? hu)
  refine ⟨by simp, by simpa using h, fun j hj u hu => ?_, fun i j u u' k _ hu _ hk => ?_⟩
  · obtain rfl := hnil j u hu
    simpa using OwnQ.nil _ _ _
  · obtain rfl := hnil i u hu
    simp [Value.ownBlock] at hk
/-- A grid of which the first k rows are filled in. -/
def filledQ (xss : List (List RatD)) (k : Nat) : List (List RatD) := xss.take k ++ List.replicate (xss.length - k) []
theorem filledQ_zero (xss : List (List RatD)) : filledQ xss 0 = List.replicate xss.length [] := by simp [filledQ]
theorem filledQ_all (xss : List (List RatD)) : filledQ xss xss.length = xss := by simp [filledQ]
theorem filledQ_length (xss : List (List RatD)) (k : Nat) (h : k ≤ xss.length) : (filledQ xss k).length = xss.length := by simp [filledQ]; omega
theorem filledQ_step (xss : List (List RatD)) (k : Nat) (h : k < xss.length) : (filledQ xss k).set k xss[k] = filledQ xss (k + 1) := by
  unfold filledQ
  rw [List.set_append_right _ _ (by simp; omega), show k - (xss.take k).length = 0 by simp; omega, show xss.length - k = (xss.length - (k + 1)) + 1 by omega, List.replicate_succ, List.set_cons_zero, List.take_succ_eq_append_getElem h, List.append_assoc]
  rfl
section
variable {P : Program}
/-- 'append(rows, row)', the row's header alone behind: a grid of the call's own with a row more. -/
theorem wpList_headQ {ops : Array Oper} {rest : List Oper} {o : Oper} {a : Act} {Q : Exit → Act → World → Prop} (hgd : o.guard = none) (s x : Operand) (t : TypeId)
    (ho : o.op = .call { callee := .builtin .append, args := #[s, x], argTypes := #[t, t] })
    (eR eI : TypeId) (hne : eR ≠ eI) (i : TypeInfo) (ht : P.underlying t = some (.slice eR)) (hi : P.info? eR = some i) (hz : i.zero = some (.slice none 0 0)) (hsize : i.size = 1) (hby : i.bytes = 24)
    (w0 : World) (lo : Nat) (v u : Value) (vs : List Value) (xss : List (List RatD)) (ys : List RatD) (hs : a.eval s = v) (hg : GOwnQ w0 lo eR eI v vs xss) (hu : OwnQ w0 lo eI u ys) (hf : ∀ u' ∈ vs, Far u u') (hx : a.eval x = .slice (some ⟨w0.heap.size, 0, none⟩) 1 1) (hn : xss.length ≤ 1048576) (hlo : lo ≤ w0.heap.size)
    (h : ∀ v' w', GOwnQ w' lo eR eI v' (vs ++ [u]) (xss ++ [ys]) → w0.grownBy w' v.ownBlock → w0.heap.size ≤ w'.heap.size → wpList P ops Q rest (a.put o.dst v') w') : wpList P ops Q (o :: rest) a (w0.alloc (.cells #[u] eR)) := by
  have hA := hg.alloc (.cells #[u] eR)
  have hu1 : u.oneCell' = true := by
    rcases hu.1.2 with ⟨rfl, _⟩ | ⟨g, cap, cur, rfl, _⟩ <;> rfl
  refine wpList_append_own _ hgd s x t ho lo eR i (.slice none 0 0) 1 24 ht hi hz hsize hby rfl (by decide) v xss.length vs hs hA.row ⟨w0.heap.size, 0, none⟩ 1 1 [u] hx rfl ?_ (by simpa using hu1) (by unfold maxLen; omega) (by omega) (by simp; omega) ?_
  · intro j u' hj
    match j, hj with
    | 0, hj => simp at hj; subst hj; simp [Addr.add]
  · intro v' w' hown hgr _
    have hz0 := hgr.size
    simp only [World.size_alloc] at hz0
    refine h v' w' (hA.push hne (hu.alloc _) (fun j u' k hj hk => hf u' (List.mem_of_getElem? hj) k hk) hown hgr) ?_ (by omega)
    refine ⟨hgr.os, hgr.tape, hgr.output, by omega, fun k hk hr => ?_⟩
    rw [hgr.block k (by simp; omega) hr, Below.heap_alloc _ _ _ hk]
end
end Go.Proofs.Ytjnphlgmmjdeiaa.GridQ
