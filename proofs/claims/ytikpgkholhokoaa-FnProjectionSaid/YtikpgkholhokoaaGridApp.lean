/- Grids that are appended to, cut and put together (no program in sight). -/
import Derived.Test.YtikpgkholhokoaaRelKit
import Derived.Deep.RegionHeldLaw
import Derived.Deep.AppendLies
import Derived.Deep.Upon
namespace Go.Proofs.Ytikpgkholhokoaa.GridApp
open Go.RowKit
open Go.Proofs.Ytikpgkholhokoaa.IntRow Go.Proofs.Ytikpgkholhokoaa.Grid Go.Proofs.Ytikpgkholhokoaa.GridMore Go.Proofs.Ytikpgkholhokoaa.RelKit
set_option linter.unusedVariables false

/-- Two values own no block together. -/
def Far (u u' : Value) : Prop := ∀ k, u.ownBlock = some k → u'.ownBlock ≠ some k
theorem Far.symm {u u' : Value} (h : Far u u') : Far u' u := fun k hk hk' => h k hk' hk
/-- The headers vs own the rows xss, each its own. -/
structure Rws (w : World) (lo : Nat) (eI : TypeId) (vs : List Value) (xss : List (List Int)) : Prop where
  len : vs.length = xss.length
  own : ∀ (j : Nat) (h : j < xss.length) (u : Value), vs[j]? = some u → Own w lo eI u xss[j]
  far : vs.Pairwise Far
theorem rws_of {w : World} {lo : Nat} {eR eI : TypeId} {v : Value} {vs : List Value} {xss : List (List Int)} (h : GOwn w lo eR eI v vs xss) : Rws w lo eI vs xss :=
  ⟨h.len, fun j hj u hu => h.own j hj u hu, List.pairwise_iff_getElem.2 fun i j hi hj hij k hk => h.apart i j _ _ k (by omega) (List.getElem?_eq_getElem hi) (List.getElem?_eq_getElem hj) hk⟩
theorem Rws.gown {w : World} {lo : Nat} {eR eI : TypeId} {v : Value} {vs : List Value} {xss : List (List Int)} (h : Rws w lo eI vs xss) (hr : w.ownsRow lo eR 1 v xss.length vs) : GOwn w lo eR eI v vs xss :=
  ⟨h.len, hr, fun j hj u hu => h.own j hj u hu, fun i j u u' k hij hu hu' hk => by
    obtain ⟨hi, rfl⟩ := List.getElem?_eq_some_iff.1 hu
    obtain ⟨hj, rfl⟩ := List.getElem?_eq_some_iff.1 hu'
    rcases (by omega : i < j ∨ j < i) with e | e
    · exact List.pairwise_iff_getElem.1 h.far i j hi hj e k hk
    · exact Far.symm (List.pairwise_iff_getElem.1 h.far j i hj hi e) k hk⟩
theorem Rws.nil (w : World) (lo : Nat) (eI : TypeId) : Rws w lo eI [] [] := ⟨rfl, fun j h => by simp at h, List.Pairwise.nil⟩
theorem Rws.one {w : World} {lo : Nat} {eI : TypeId} {u : Value} {xs : List Int} (h : Own w lo eI u xs) : Rws w lo eI [u] [xs] :=
  ⟨rfl, fun j hj u' hu => by
    match j, hj, hu with
    | 0, hj, hu => simp at hu; subst hu; exact h, by simp⟩
theorem Rws.append {w : World} {lo : Nat} {eI : TypeId} {vs us : List Value} {xss yss : List (List Int)} (h : Rws w lo eI vs xss) (k : Rws w lo eI us yss) (hf : ∀ u ∈ vs, ∀ u' ∈ us, Far u u') : Rws w lo eI (vs ++ us) (xss ++ yss) := by
  refine ⟨by simp [h.len, k.len], fun j hj u hu => ?_, List.pairwise_append.2 ⟨h.far, k.far, hf⟩⟩
  by_cases e : j < xss.length
  · rw [List.getElem_append_left e]
    rw [List.getElem?_append_left (by rw [h.len]; exact e)] at hu
    exact h.own j e u hu
  · have hl := h.len
    rw [List.getElem_append_right (by omega)]
    rw [List.getElem?_append_right (by omega)] at hu
    simp only [hl] at hu
    exact k.own (j - xss.length) (by simp at hj; omega) u hu
theorem Rws.take {w : World} {lo : Nat} {eI : TypeId} {vs : List Value} {xss : List (List Int)} (h : Rws w lo eI vs xss) (p : Nat) : Rws w lo eI (vs.take p) (xss.take p) := by
  refine ⟨by simp [h.len], fun j hj u hu => ?_, h.far.sublist (List.take_sublist _ _)⟩
  simp only [List.length_take] at hj
  rw [List.getElem?_take, if_pos (by omega)] at hu
  rw [List.getElem_take]
  exact h.own j (by omega) u hu
theorem Rws.drop {w : World} {lo : Nat} {eI : TypeId} {vs : List Value} {xss : List (List Int)} (h : Rws w lo eI vs xss) (p : Nat) : Rws w lo eI (vs.drop p) (xss.drop p) := by
  refine ⟨by simp [h.len], fun j hj u hu => ?_, h.far.sublist (List.drop_sublist _ _)⟩
  simp only [List.length_drop] at hj
  rw [List.getElem?_drop] at hu
  rw [List.getElem_drop]
  exact h.own (p + j) (by omega) u hu
theorem far_parts {vs : List Value} (h : vs.Pairwise Far) {p q : Nat} (hpq : p ≤ q) : ∀ u ∈ vs.take p, ∀ u' ∈ vs.drop q, Far u u' := fun u hu u' hu' => by
  have h2 : vs.Pairwise Far := h
  rw [← List.take_append_drop p vs, List.pairwise_append] at h2
  refine h2.2.2 u hu u' ?_
  rw [show q = p + (q - p) by omega, ← List.drop_drop] at hu'
  exact List.mem_of_mem_drop hu'
theorem Rws.cut {w : World} {lo : Nat} {eI : TypeId} {vs : List Value} {xss : List (List Int)} (h : Rws w lo eI vs xss) (p q : Nat) (hpq : p ≤ q) : Rws w lo eI (vs.take p ++ vs.drop q) (xss.take p ++ xss.drop q) :=
  (h.take p).append (h.drop q) (far_parts h.far hpq)
theorem Rws.put {w : World} {lo : Nat} {eI : TypeId} {vs : List Value} {xss : List (List Int)} {u : Value} {ys : List Int} (h : Rws w lo eI vs xss) (ho : Own w lo eI u ys) (hf : ∀ u' ∈ vs, Far u u') (p : Nat) : Rws w lo eI (vs.take p ++ u :: vs.drop p) (xss.take p ++ ys :: xss.drop p) := by
  have h1 : Rws w lo eI ([u] ++ vs.drop p) ([ys] ++ xss.drop p) := (Rws.one ho).append (h.drop p) (fun a ha b hb => by simp at ha; subst ha; exact hf b (List.mem_of_mem_drop hb))
  refine (h.take p).append h1 (fun a ha b hb => ?_)
  rcases List.mem_cons.1 hb with rfl | hb
  · exact (hf a (List.mem_of_mem_take ha)).symm
  · exact far_parts h.far (Nat.le_refl p) a ha b hb
theorem Rws.mono {w : World} {lo lo' : Nat} {eI : TypeId} {vs : List Value} {xss : List (List Int)} (h : Rws w lo eI vs xss) (hl : lo' ≤ lo) : Rws w lo' eI vs xss := ⟨h.len, fun j hj u hu => (h.own j hj u hu).mono hl, h.far⟩
theorem Rws.lt {w : World} {lo : Nat} {eI : TypeId} {vs : List Value} {xss : List (List Int)} (h : Rws w lo eI vs xss) {u : Value} (hu : u ∈ vs) : ∀ k, u.ownBlock = some k → lo ≤ k ∧ k < w.heap.size := by
  obtain ⟨j, hj⟩ := List.getElem?_of_mem hu
  have hjl : j < xss.length := by rw [← h.len]; exact (List.getElem?_eq_some_iff.1 hj).1
  exact (h.own j hjl u hj).lt
theorem Rws.below' {w w' : World} {lo : Nat} {eI : TypeId} {vs : List Value} {xss : List (List Int)} (h : Rws w lo eI vs xss) (hb : Below w.heap.size w w') : Rws w' lo eI vs xss := ⟨h.len, fun j hj u hu => (h.own j hj u hu).below' hb, h.far⟩
theorem Rws.grown {w w' : World} {lo : Nat} {eI : TypeId} {vs : List Value} {xss : List (List Int)} {row : Option Nat} (h : Rws w lo eI vs xss) (hg : w.grownBy w' row) (hne : ∀ u ∈ vs, ∀ k, u.ownBlock = some k → row ≠ some k) : Rws w' lo eI vs xss :=
  ⟨h.len, fun j hj u hu => (h.own j hj u hu).grown hg (hne u (List.mem_of_getElem? hu)), h.far⟩
theorem Rws.oneCell {w : World} {lo : Nat} {eI : TypeId} {vs : List Value} {xss : List (List Int)} (h : Rws w lo eI vs xss) : ∀ u ∈ vs, u.oneCell' = true := fun u hu => by
  obtain ⟨j, hj⟩ := List.getElem?_of_mem hu
  have hjl : j < xss.length := by rw [← h.len]; exact (List.getElem?_eq_some_iff.1 hj).1
  rcases (h.own j hjl u hj).2 with ⟨rfl, _⟩ | ⟨g, cap, cur, rfl, _⟩ <;> rfl
/-- The headers of a grid as cells. -/
theorem gown_cell {w : World} {lo g cap : Nat} {eR eI : TypeId} {vs : List Value} {xss : List (List Int)} (h : GOwn w lo eR eI (.slice (some ⟨g, 0, none⟩) xss.length cap) vs xss) (j : Nat) (u : Value) (hu : vs[j]? = some u) : w.cell? ⟨g, j, none⟩ = some u := by
  have hj : j < xss.length := by rw [← h.len]; exact (List.getElem?_eq_some_iff.1 hu).1
  exact (h.row.cellAt j (by omega)).trans hu
theorem gown_at {w : World} {lo : Nat} {eR eI : TypeId} {v : Value} {vs : List Value} {xss : List (List Int)} (h : GOwn w lo eR eI v vs xss) (hp : 0 < xss.length) : ∃ g cap, v = .slice (some ⟨g, 0, none⟩) xss.length cap ∧ xss.length ≤ cap ∧ cap ≤ maxLen ∧ lo ≤ g ∧ g < w.heap.size := by
  rcases h.row.2 with ⟨_, h0⟩ | ⟨g, cap, cur, rfl, hb, hg, hn, hc, _⟩
  · omega
  · exact ⟨g, cap, rfl, hn, hc, hb, (h.lt g rfl).2⟩
/-- A grid behind an append of one row. -/
theorem gown_appended {w w' : World} {lo : Nat} {eR eI : TypeId} {v v' u : Value} {vs : List Value} {xss : List (List Int)} {ys : List Int} (h : GOwn w lo eR eI v vs xss) (hne : eR ≠ eI) (ho : Own w lo eI u ys) (hf : ∀ u' ∈ vs, Far u u')
    (hown : w'.ownsRow lo eR 1 v' (xss.length + 1) (vs ++ [u])) (hg : w.grownBy w' v.ownBlock) : GOwn w' lo eR eI v' (vs ++ [u]) (xss ++ [ys]) := by
  have hr := (rws_of h).append (Rws.one ho) (fun a ha b hb => by simp at hb; subst hb; exact (hf a ha).symm)
  refine Rws.gown (hr.grown hg (fun a ha k hk => ?_)) (by simpa using hown)
  rcases List.mem_append.1 ha with ha | ha
  · obtain ⟨j, hj⟩ := List.getElem?_of_mem ha
    exact h.far hne hj hk
  · simp at ha
    subst ha
    intro hv
    obtain ⟨c1, h1⟩ := own_block h.row hv
    obtain ⟨c2, h2⟩ := own_block ho hk
    rw [h1] at h2
    injection h2 with h2
    injection h2 with _ h3
    exact hne h3

section
variable {P : Program}
/-- At a step of a region that draws: append onto a row of the call's own. -/
theorem step_own {ops : Array Oper} {o : Oper} {a : Act} {w : World} {K : Act → World → Prop} {Q : Exit → Act → World → Prop} {E : Prop} (hgd : o.guard = none) (s x : Operand) (t : TypeId)
    (ho : o.op = .call { callee := .builtin .append, args := #[s, x], argTypes := #[t, t] })
    (base : Nat) (e : TypeId) (i : TypeInfo) (z : Value) (size bytes : Nat) (ht : P.underlying t = some (.slice e)) (hi : P.info? e = some i) (hz : i.zero = some z)
    (hsize : i.size = size) (hby : i.bytes = bytes) (hzs : z.cells.size = size) (hsz : 0 < size)
    (v : Value) (n : Nat) (xs : List Value) (hs : a.eval s = v) (hown : w.ownsRow base e size v n xs)
    (ad : Addr) (m c : Nat) (news : List Value) (hx : a.eval x = .slice (some ad) m c) (hl : news.length = m * size) (hnews : ∀ j u, news[j]? = some u → w.cell? (ad.add j) = some u) (h1 : ∀ u ∈ news, u.oneCell' = true)
    (h63 : n + m ≤ maxLen) (hbytes : (n + m) * bytes ≤ 140737488355328) (hbase : base ≤ w.heap.size)
    (h : ∀ v' w', w'.ownsRow base e size v' (n + m) (xs ++ news) → w.grownBy w' v.ownBlock → K (a.put o.dst v') w') :
    if Region.wanted o (yielded ops a.tmps) = true then Oper.wp P o a w K Q else E := by
  have hw : Region.wanted o (yielded ops a.tmps) = true := by simp [Region.wanted, hgd]
  rw [if_pos hw]
  exact wp_append_own w s x t ho base e i z size bytes ht hi hz hsize hby hzs hsz v n xs hs hown ad m c news hx hl hnews h1 h63 hbytes hbase fun v' w' h2 h3 _ => h v' w' h2 h3
/-- A row is copied behind an empty one made just now. -/
theorem step_copy {ops : Array Oper} {o : Oper} {a : Act} {K : Act → World → Prop} {Q : Exit → Act → World → Prop} {E : Prop} (hgd : o.guard = none) (s x : Operand) (t : TypeId)
    (ho : o.op = .call { callee := .builtin .append, args := #[s, x], argTypes := #[t, t] })
    (e : TypeId) (i : TypeInfo) (ht : P.underlying t = some (.slice e)) (hi : P.info? e = some i) (hz : i.zero = some (.int .i64 0)) (hsize : i.size = 1) (hby : i.bytes = 8)
    (w0 : World) (hs : a.eval s = .slice (some ⟨w0.heap.size, 0, none⟩) 0 0) (ao : Option Addr) (cap B : Nat) (xs : List Int) (hx : a.eval x = .slice ao xs.length cap) (hr : Rd w0 B ao xs) (hB : B ≤ w0.heap.size) (hn : xs.length ≤ 1048576)
    (h : ∀ v' w', Own w' w0.heap.size e v' xs → Below w0.heap.size w0 w' → K (a.put o.dst v') w') :
    if Region.wanted o (yielded ops a.tmps) = true then Oper.wp P o a (w0.alloc (.cells #[] e)) K Q else E := by
  have hown0 := World.ownsRow_made (size := 1) (e := e) (base := w0.heap.size) w0 #[] 0 (Nat.le_refl _) (Nat.zero_le _) rfl
  have fin : ∀ v' w', w'.ownsRow w0.heap.size e 1 v' (0 + xs.length) ([] ++ ic xs) → (w0.alloc (.cells #[] e)).grownBy w' (some w0.heap.size) → K (a.put o.dst v') w' := fun v' w' h2 h3 =>
    h v' w' (by simpa [Own] using h2) (((Below.refl _ _).alloc (Nat.le_refl _) _).grown h3 (by simp) (by intro k hk; injection hk with hk; omega))
  cases ao with
  | some p =>
    refine step_own hgd s x t ho w0.heap.size e i (.int .i64 0) 1 8 ht hi hz hsize hby rfl (by decide) _ 0 [] hs (by simpa using hown0) p xs.length cap (ic xs) hx (by simp [ic_length]) ?_ (fun u hu => by obtain ⟨y, _, rfl⟩ := List.mem_map.1 hu; rfl) (by unfold maxLen; omega) (by omega) (by simp) fin
    intro j u hj
    have hjn : j < xs.length := by
      have := (List.getElem?_eq_some_iff.1 hj).1
      rwa [ic_length] at this
    obtain ⟨b, off, e1, hb, hc⟩ := hr (by omega)
    obtain rfl : p = ⟨b, off, none⟩ := by injection e1
    rw [ic_at xs j hjn] at hj
    injection hj with hj
    subst hj
    rw [Addr.add_lit]
    exact (World.cell?_alloc_lt _ _ _ (by show b < _; omega)).trans (hc j hjn)
  | none =>
    obtain rfl : xs = [] := by
      cases xs with
      | nil => rfl
      | cons y l => obtain ⟨b, off, e1, _⟩ := hr (by simp); cases e1
    have hw : Region.wanted o (yielded ops a.tmps) = true := by simp [Region.wanted, hgd]
    rw [if_pos hw]
    have hrun := run_append_nothing (P := P) (w0.alloc (.cells #[] e)) t t o.type e i ht hi (some ⟨w0.heap.size, 0, none⟩) 0 0 (Nat.le_refl _) (.slice none 0 cap) ⟨.inl ⟨e, ht⟩, fun w' => by simp [go_sem], by simp [go_sem], by simp [go_sem], by simp, by simp⟩
    unfold Oper.wp execOp
    simp only [ho, resolve, invoke, builtin, Sem.run_bind, Sem.run_pure, Result.andThen_ok, List.map_toArray, List.map_cons, List.map_nil, hs, hx, List.length_nil, hrun]
    exact fin _ _ (by simpa [ic] using hown0) (World.grownBy.refl _ _)
/-- Nothing is appended: the nil slice, or an empty one. -/
theorem run_none {P : Program} (w : World) (t ty e : TypeId) (i : TypeInfo) (ht : P.underlying t = some (.slice e)) (hi : P.info? e = some i) (b : Option Addr) (n c c' : Nat) (hle : n ≤ c) :
    (Builtin.append_ #[t, t] ty #[.slice b n c, .slice none 0 c']).run P w = .ok (.slice b n c) w := by
  have hrun := run_append_nothing (P := P) w t t ty e i ht hi b n c hle (.slice none 0 c') ⟨.inl ⟨e, ht⟩, fun w' => by simp [go_sem], by simp [go_sem], by simp [go_sem], by simp, by simp⟩
  exact hrun
theorem step_none {ops : Array Oper} {o : Oper} {a : Act} {w : World} {K : Act → World → Prop} {Q : Exit → Act → World → Prop} {E : Prop} (hgd : o.guard = none) (s x : Operand) (t : TypeId)
    (ho : o.op = .call { callee := .builtin .append, args := #[s, x], argTypes := #[t, t] }) (e : TypeId) (i : TypeInfo) (ht : P.underlying t = some (.slice e)) (hi : P.info? e = some i)
    (b : Option Addr) (n c c' : Nat) (hle : n ≤ c) (hs : a.eval s = .slice b n c) (hx : a.eval x = .slice none 0 c') (h : K (a.put o.dst (.slice b n c)) w) :
    if Region.wanted o (yielded ops a.tmps) = true then Oper.wp P o a w K Q else E := by
  have hw : Region.wanted o (yielded ops a.tmps) = true := by simp [Region.wanted, hgd]
  rw [if_pos hw]
  have hrun := run_none (P := P) w t o.type e i ht hi b n c c' hle
  unfold Oper.wp execOp
  simp only [ho, resolve, invoke, builtin, Sem.run_bind, Sem.run_pure, Result.andThen_ok, List.map_toArray, List.map_cons, List.map_nil, hs, hx, hrun]
  exact h
theorem wpList_none {ops : Array Oper} {rest : List Oper} {o : Oper} {a : Act} {w : World} {Q : Exit → Act → World → Prop} (hgd : o.guard = none) (s x : Operand) (t : TypeId)
    (ho : o.op = .call { callee := .builtin .append, args := #[s, x], argTypes := #[t, t] }) (e : TypeId) (i : TypeInfo) (ht : P.underlying t = some (.slice e)) (hi : P.info? e = some i)
    (b : Option Addr) (n c c' : Nat) (hle : n ≤ c) (hs : a.eval s = .slice b n c) (hx : a.eval x = .slice none 0 c') (h : wpList P ops Q rest (a.put o.dst (.slice b n c)) w) : wpList P ops Q (o :: rest) a w := by
  refine wpList_plain hgd fun K hK => ?_
  have hrun := run_none (P := P) w t o.type e i ht hi b n c c' hle
  unfold Oper.wp execOp
  simp only [ho, resolve, invoke, builtin, Sem.run_bind, Sem.run_pure, Result.andThen_ok, List.map_toArray, List.map_cons, List.map_nil, hs, hx, hrun]
  exact hK _ _ h
/-- .. and one header behind a grid's. -/
theorem step_head {ops : Array Oper} {o : Oper} {a : Act} {K : Act → World → Prop} {Q : Exit → Act → World → Prop} {E : Prop} (hgd : o.guard = none) (s x : Operand) (t : TypeId)
    (ho : o.op = .call { callee := .builtin .append, args := #[s, x], argTypes := #[t, t] })
    (eR eI : TypeId) (hne : eR ≠ eI) (i : TypeInfo) (ht : P.underlying t = some (.slice eR)) (hi : P.info? eR = some i) (hz : i.zero = some (.slice none 0 0)) (hsize : i.size = 1) (hby : i.bytes = 24)
    (w0 : World) (lo : Nat) (v u : Value) (vs : List Value) (xss : List (List Int)) (ys : List Int) (hs : a.eval s = v) (hg : GOwn w0 lo eR eI v vs xss) (hu : Own w0 lo eI u ys) (hf : ∀ u' ∈ vs, Far u u') (hx : a.eval x = .slice (some ⟨w0.heap.size, 0, none⟩) 1 1) (hn : xss.length ≤ 1048576) (hlo : lo ≤ w0.heap.size)
    (h : ∀ v' w', GOwn w' lo eR eI v' (vs ++ [u]) (xss ++ [ys]) → w0.grownBy w' v.ownBlock → w0.heap.size ≤ w'.heap.size → K (a.put o.dst v') w') :
    if Region.wanted o (yielded ops a.tmps) = true then Oper.wp P o a (w0.alloc (.cells #[u] eR)) K Q else E := by
  have hA := hg.alloc (.cells #[u] eR)
  have hu1 : u.oneCell' = true := by
    rcases hu.2 with ⟨rfl, _⟩ | ⟨g, cap, cur, rfl, _⟩ <;> rfl
  refine step_own hgd s x t ho lo eR i (.slice none 0 0) 1 24 ht hi hz hsize hby rfl (by decide) v xss.length vs hs hA.row ⟨w0.heap.size, 0, none⟩ 1 1 [u] hx rfl ?_ (by simpa using hu1) (by unfold maxLen; omega) (by omega) (by simp; omega) ?_
  · intro j u' hj
    match j, hj with
    | 0, hj => simp at hj; subst hj; simp [Addr.add]
  · intro v' w' hown hgr
    have hz0 := hgr.size
    simp only [World.size_alloc] at hz0
    refine h v' w' (gown_appended hA hne (hu.alloc _) hf hown hgr) ?_ (by omega)
    refine ⟨hgr.os, hgr.tape, hgr.output, by omega, fun k hk hr => ?_⟩
    rw [hgr.block k (by simp; omega) hr, Below.heap_alloc _ _ _ hk]
end
end Go.Proofs.Ytikpgkholhokoaa.GridApp
