/- One row of a matrix of the call's own: its cells, a rational written into it, appended to it (no program in sight). -/
import Derived.Test.YtjnphlgmmjdeiaaGridQ
import Derived.Deep.RegionLaw
namespace Go.Proofs.Ytjnphlgmmjdeiaa.GridQ2
open Go.RowKit
open Go.Proofs.Ytjnphlgmmjdeiaa.IntRow Go.Proofs.Ytjnphlgmmjdeiaa.Grid Go.Proofs.Ytjnphlgmmjdeiaa.GridMore Go.Proofs.Ytjnphlgmmjdeiaa.Rdr Go.Proofs.Ytjnphlgmmjdeiaa.HasL Go.Proofs.Ytjnphlgmmjdeiaa.Rats Go.Proofs.Ytjnphlgmmjdeiaa.RatRow Go.Proofs.Ytjnphlgmmjdeiaa.RatOwn Go.Proofs.Ytjnphlgmmjdeiaa.GridQ
set_option linter.unusedVariables false

/-- A row that holds something lies at the head of a block. -/
theorem row_block {w : World} {lo : Nat} {eR eI : TypeId} {v : Value} {vs : List Value} {xss : List (List RatD)} (h : GOwnQ w lo eR eI v vs xss) (j : Nat) (hj : j < xss.length) (h0 : 0 < xss[j].length) : ∃ b capj, vs[j]? = some (.slice (some ⟨b, 0, none⟩) xss[j].length capj) ∧ lo ≤ b ∧ xss[j].length ≤ capj := by
  have hjv : j < vs.length := by rw [h.len]; exact hj
  have hu : vs[j]? = some vs[j] := List.getElem?_eq_getElem hjv
  have ho := h.own j hj vs[j] hu
  rcases ho.1.2 with ⟨hv, h1⟩ | ⟨g, cap, cur, hv, hg, _, hc, _⟩
  · omega
  · exact ⟨g, cap, by rw [hu, hv], hg, hc⟩
/-- Any row's header. -/
theorem row_head {w : World} {lo : Nat} {eR eI : TypeId} {v : Value} {vs : List Value} {xss : List (List RatD)} (h : GOwnQ w lo eR eI v vs xss) (j : Nat) (hj : j < xss.length) : ∃ aj capj, vs[j]? = some (.slice aj xss[j].length capj) ∧ xss[j].length ≤ capj := by
  have hjv : j < vs.length := by rw [h.len]; exact hj
  have hu : vs[j]? = some vs[j] := List.getElem?_eq_getElem hjv
  obtain ⟨aj, capj, hv, hle, _⟩ := (h.own j hj vs[j] hu).form
  exact ⟨aj, capj, by rw [hu, hv], hle⟩
theorem row_own {w : World} {lo : Nat} {eR eI : TypeId} {v u : Value} {vs : List Value} {xss : List (List RatD)} (h : GOwnQ w lo eR eI v vs xss) (j : Nat) (hj : j < xss.length) (hu : vs[j]? = some u) : OwnQ w lo eI u xss[j] := h.own j hj u hu
theorem row_cells {w : World} {lo b cap n : Nat} {e : TypeId} {xs : List RatD} (h : OwnQ w lo e (.slice (some ⟨b, 0, none⟩) n cap) xs) (i : Nat) (hi : i < xs.length) : w.cell? ⟨b, i * 2, none⟩ = some (.int .i64 xs[i].1) ∧ w.cell? ⟨b, i * 2 + 1, none⟩ = some (.int .i64 xs[i].2) ∧ w.frozen? ⟨b, i * 2, none⟩ = false ∧ w.frozen? ⟨b, i * 2 + 1, none⟩ = false := by
  obtain ⟨rfl, _⟩ := ownq_rd h
  have h1 := ownr_at rfl h.1 i hi
  exact ⟨h1.1, h1.2, ownq_free h _, ownq_free h _⟩
/-- One rational of one row is written anew. -/
theorem row_store {w : World} {lo b capj k : Nat} {eR eI : TypeId} {v : Value} {vs : List Value} {xss : List (List RatD)} (h : GOwnQ w lo eR eI v vs xss) (hne : eR ≠ eI) (j : Nat) (hj : j < xss.length) (hu : vs[j]? = some (.slice (some ⟨b, 0, none⟩) k capj)) (i : Nat) (hi : i < xss[j].length) (p : RatD) (hp : Ib p.1 ∧ Ib p.2) :
    GOwnQ ((w.setCell ⟨b, i * 2, none⟩ (.int .i64 p.1)).setCell ⟨b, i * 2 + 1, none⟩ (.int .i64 p.2)) lo eR eI v vs (xss.set j (xss[j].set i p)) :=
  h.rewrite hne hj hu _ (ownq_set (h.own j hj _ hu) i hi p hp) (set2_grown w b i _ _)
theorem gownq_at {w : World} {lo n cap : Nat} {a : Option Addr} {eR eI : TypeId} {vs : List Value} {xss : List (List RatD)} (h : GOwnQ w lo eR eI (.slice a n cap) vs xss) (hp : 0 < xss.length) : ∃ g, a = some ⟨g, 0, none⟩ ∧ lo ≤ g := by
  rcases h.row.2 with ⟨hv, h0⟩ | ⟨g, cap', cur, hv, hg, _⟩
  · omega
  · simp only [Value.slice.injEq] at hv
    exact ⟨g, hv.1, hg⟩
/-- A row has been appended to, wherever it lies now; its header is stored. -/
theorem gownq_app {w w8 : World} {lo g n cap : Nat} {eR eI : TypeId} {u u' : Value} {vs : List Value} {xss : List (List RatD)} {ys : List RatD} (h : GOwnQ w lo eR eI (.slice (some ⟨g, 0, none⟩) n cap) vs xss) (hn : n = xss.length) (hne : eR ≠ eI) (j : Nat) (hj : j < xss.length) (hu : vs[j]? = some u)
    (ho : OwnQ w8 lo eI u' ys) (hg : w.grownBy w8 u.ownBlock) (hap : ∀ (i : Nat) (u2 : Value) (q : Nat), i ≠ j → vs[i]? = some u2 → u'.ownBlock = some q → u2.ownBlock ≠ some q) :
    GOwnQ (w8.setCell ⟨g, j, none⟩ u') lo eR eI (.slice (some ⟨g, 0, none⟩) n cap) (vs.set j u') (xss.set j ys) := by
  subst hn
  have hrow : w8.ownsRow lo eR 1 (.slice (some ⟨g, 0, none⟩) xss.length cap) xss.length vs := h.row.kept hg (by
    exact .inr (fun e => h.far hne hu e.symm rfl))
  have hst := World.ownsRow.stored hrow j u'
  have hu' : ∀ k, u'.ownBlock = some k → (some g : Option Nat) ≠ some k := fun k hk hv => by
    obtain ⟨c1, h1⟩ := ownq_block hrow (b := g) rfl
    obtain ⟨c2, h2⟩ := ownq_block ho.1 hk
    injection hv with hv
    subst hv
    rw [h1] at h2
    injection h2 with h2
    injection h2 with _ h3
    exact hne h3
  refine ⟨by rw [List.length_set, List.length_set, h.len], by rw [List.length_set]; exact hst.1, ?_, ?_⟩
  · intro i hi u2 hu2
    rw [List.length_set] at hi
    by_cases e : i = j
    · subst e
      rw [List.getElem?_set_self (by rw [h.len]; exact hj)] at hu2
      injection hu2 with hu2
      subst hu2
      simpa using ho.grown hst.2 hu'
    · rw [List.getElem?_set_ne (fun x => e x.symm)] at hu2
      rw [List.getElem_set_ne (fun x => e x.symm)]
      refine ((h.own i hi u2 hu2).grown hg (fun k hk hk2 => h.apart j i u u2 k (fun x => e x.symm) hu hu2 hk2 hk)).grown hst.2 (fun k hk hv => ?_)
      exact h.far hne hu2 hk hv
  · intro i k a b m hik ha hb hm
    by_cases e1 : i = j
    · subst e1
      rw [List.getElem?_set_self (by rw [h.len]; exact hj)] at ha
      injection ha with ha
      subst ha
      rw [List.getElem?_set_ne hik] at hb
      exact hap k b m (fun x => hik x.symm) hb hm
    · rw [List.getElem?_set_ne (fun x => e1 x.symm)] at ha
      by_cases e2 : k = j
      · subst e2
        rw [List.getElem?_set_self (by rw [h.len]; exact hj)] at hb
        injection hb with hb
        subst hb
        exact fun hk => hap i a m e1 ha hk hm
      · rw [List.getElem?_set_ne (fun x => e2 x.symm)] at hb
        exact h.apart i k a b m hik ha hb hm
theorem head_kept {w w8 : World} {lo g n cap : Nat} {eR eI : TypeId} {u : Value} {vs : List Value} {xss : List (List RatD)} (h : GOwnQ w lo eR eI (.slice (some ⟨g, 0, none⟩) n cap) vs xss) (hne : eR ≠ eI) (j : Nat) (hj : j < xss.length) (hu : vs[j]? = some u) (hg : w.grownBy w8 u.ownBlock) : w8.cell? ⟨g, j, none⟩ = some u ∧ w8.frozen? ⟨g, j, none⟩ = false := by
  have hb := hg.block g (h.lt g rfl).2 (fun e => h.far hne hu e.symm rfl)
  exact ⟨(World.cell?_of_block (w := w) (a := ⟨g, j, none⟩) hb).trans ((by simpa using h.cellAt j hj : w.cell? ⟨g, j, none⟩ = vs[j]?).trans hu), (World.frozen?_of_block (w := w) (a := ⟨g, j, none⟩) hb).trans (by simpa using h.free j)⟩
theorem ownr_raise {w : World} {lo B : Nat} {e : TypeId} {v : Value} {xs : List RatD} (h : OwnR w lo e v xs) (hB : ∀ q, v.ownBlock = some q → B ≤ q) : OwnR w B e v xs := by
  refine ⟨h.1, ?_⟩
  rcases h.2 with hn | ⟨g, cap, cur, rfl, hg, r⟩
  · exact .inl hn
  · exact .inr ⟨g, cap, cur, rfl, hB g rfl, r⟩
section
variable {P : Program}
/-- 'append(v, r)' as one step of a region that draws its order. -/
theorem step_rat {ops : Array Oper} {o : Oper} {a : Act} {K : Act → World → Prop} {Q : Exit → Act → World → Prop} {E : Prop} (hgd : o.guard = none) (s x : Operand) (t : TypeId)
    (ho : o.op = .call { callee := .builtin .append, args := #[s, x], argTypes := #[t, t] })
    (base : Nat) (e : TypeId) (i : TypeInfo) (ht : P.underlying t = some (.slice e)) (hi : P.info? e = some i) (hz : i.zero = some (.agg #[.int .i64 0, .int .i64 0]))
    (hsize : i.size = 2) (hby : i.bytes = 16) (wr : World) (v : Value) (l : List RatD) (c : RatD) (hown : OwnR wr base e v l) (hs : a.eval s = v) (hbase : base ≤ wr.heap.size)
    (hx : a.eval x = .slice (some ⟨wr.heap.size, 0, none⟩) 1 1) (hlen : l.length ≤ 4398046511104)
    (h : ∀ v' w', OwnR w' base e v' (l ++ [c]) → wr.grownBy w' v.ownBlock → K (a.put o.dst v') w') :
    if Region.wanted o (yielded ops a.tmps) = true then Oper.wp P o a (wr.alloc (.cells #[.int .i64 c.1, .int .i64 c.2] e)) K Q else E := by
  have hw : Region.wanted o (yielded ops a.tmps) = true := by simp [Region.wanted, hgd]
  rw [if_pos hw]
  refine wp_append_own _ s x t ho base e i (.agg #[.int .i64 0, .int .i64 0]) 2 16 ht hi hz hsize hby rfl (by decide) v l.length (fr l) hs (World.ownsRow.alloc hown _) ⟨wr.heap.size, 0, none⟩ 1 1 (fr [c]) hx rfl ?_ ?_ ?_ ?_ ?_ ?_
  · intro j u hj
    match j, hj with
    | 0, hj => simp [fr] at hj; subst hj; simp [Addr.add]
    | 1, hj => simp [fr] at hj; subst hj; simp [Addr.add]
    | j + 2, hj => simp [fr] at hj
  · intro u hu
    simp [fr] at hu
    rcases hu with rfl | rfl <;> rfl
  · unfold maxLen; omega
  · omega
  · simp; omega
  · intro v' w' hown' hgrow _
    refine h v' w' ?_ ?_
    · unfold OwnR
      rw [fr_app]
      simpa using hown'
    · exact ⟨hgrow.os, hgrow.tape, hgrow.output, by have := hgrow.size; simp at this; omega, fun k hk hne => (hgrow.block k (by simp; omega) hne).trans (Below.heap_alloc _ _ _ hk)⟩
end
end Go.Proofs.Ytjnphlgmmjdeiaa.GridQ2
