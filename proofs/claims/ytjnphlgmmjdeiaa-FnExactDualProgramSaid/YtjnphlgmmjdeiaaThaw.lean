/- No block has been frozen; blocks whose cells keep their kinds (marks on copies of arguments); readers under them (no program in sight). -/
import Derived.Test.YtjnphlgmmjdeiaaDat
import Derived.Test.YtjnphlgmmjdeiaaHasL
import Derived.Test.YtjnphlgmmjdeiaaLawKit
import Derived.Test.YtjnphlgmmjdeiaaCells
namespace Go.Proofs.Ytjnphlgmmjdeiaa.Thaw
open Go.RowKit
open Go.Proofs.Ytjnphlgmmjdeiaa.Cells Go.Proofs.Ytjnphlgmmjdeiaa.IntRow Go.Proofs.Ytjnphlgmmjdeiaa.Grid Go.Proofs.Ytjnphlgmmjdeiaa.GridMore Go.Proofs.Ytjnphlgmmjdeiaa.Rdr Go.Proofs.Ytjnphlgmmjdeiaa.Dat Go.Proofs.Ytjnphlgmmjdeiaa.HasL
set_option linter.unusedVariables false

/-- No cell has been frozen on the way. -/
def Nf (w w' : World) : Prop := ∀ b o, w.frozen? ⟨b, o, none⟩ = false → w'.frozen? ⟨b, o, none⟩ = false
theorem Nf.refl (w : World) : Nf w w := fun _ _ h => h
theorem Nf.trans {a b c : World} (h : Nf a b) (k : Nf b c) : Nf a c := fun i o e => k i o (h i o e)
theorem Nf.alloc (w : World) (o : Obj) (ho : ∃ c e, o = .cells c e) : Nf w (w.alloc o) := fun b off h => by
  obtain ⟨c, e, rfl⟩ := ho
  by_cases hb : b < w.heap.size
  · rw [World.frozen?_of_block (w := w) (a := ⟨b, off, none⟩) (Below.heap_alloc _ _ _ hb)]; exact h
  · by_cases hb2 : b = w.heap.size
    · subst hb2
      exact frozen_of_row _ _ off _ e (heap_alloc_new w _)
    · unfold World.frozen?
      rw [Array.getElem?_eq_none (by simp; omega)]
theorem Nf.setCell (w : World) (p : Addr) (u : Value) : Nf w (w.setCell p u) := fun b o h => by rw [World.frozen?_setCell]; exact h
theorem frozen_out (w : World) (b o : Nat) (h : w.heap.size ≤ b) : w.frozen? ⟨b, o, none⟩ = false := by
  unfold World.frozen?
  rw [Array.getElem?_eq_none (by simpa using h)]

/-- Below, and nothing frozen. -/
structure BF (B : Nat) (w w' : World) : Prop extends Below B w w' where
  nf : Nf w w'
theorem BF.refl (B : Nat) (w : World) : BF B w w := ⟨Below.refl _ _, Nf.refl _⟩
theorem BF.trans {B : Nat} {a b c : World} (h : BF B a b) (k : BF B b c) : BF B a c := ⟨h.toBelow.trans k.toBelow, h.nf.trans k.nf⟩
theorem BF.mono {B B' : Nat} {w w' : World} (h : BF B w w') (hB : B' ≤ B) : BF B' w w' := ⟨h.toBelow.mono hB, h.nf⟩
theorem BF.alloc {B : Nat} {a w : World} (h : BF B a w) (hB : B ≤ w.heap.size) (o : Obj) (ho : ∃ c e, o = .cells c e := by exact ⟨_, _, rfl⟩) : BF B a (w.alloc o) := ⟨h.toBelow.alloc hB o, h.nf.trans (Nf.alloc w o ho)⟩
theorem BF.setCell {B : Nat} {a w : World} (h : BF B a w) {p : Addr} (hp : B ≤ p.block) (u : Value) : BF B a (w.setCell p u) := ⟨h.toBelow.setCell hp u, h.nf.trans (Nf.setCell w p u)⟩
/-- The blocks from lo on and below hi may be written. -/
def Thw (lo hi : Nat) (w : World) : Prop := ∀ b o, lo ≤ b → b < hi → w.frozen? ⟨b, o, none⟩ = false
theorem BF.thw {B : Nat} {w w' : World} (h : BF B w w') (hi : Nat) : Thw w.heap.size hi w' := fun b o h1 _ => h.nf b o (frozen_out w b o h1)
theorem Thw.below {lo hi B : Nat} {w w' : World} (h : Thw lo hi w) (hb : Below B w w') (hB : hi ≤ B) : Thw lo hi w' := fun b o h1 h2 => by
  rw [hb.frozen (p := ⟨b, o, none⟩) (by show b < B; omega)]
  exact h b o h1 h2
theorem Thw.nf {lo hi : Nat} {w w' : World} (h : Thw lo hi w) (k : Nf w w') : Thw lo hi w' := fun b o h1 h2 => k b o (h b o h1 h2)
theorem Thw.mono {lo hi lo' hi' : Nat} {w : World} (h : Thw lo hi w) (h1 : lo ≤ lo') (h2 : hi' ≤ hi) : Thw lo' hi' w := fun b o k1 k2 => h b o (by omega) (by omega)

/-! ### cells that keep their kinds -/
def Kin (x y : Option Value) : Prop := x = y ∨ (∃ p q, x = some (.int .i64 p) ∧ y = some (.int .i64 q)) ∨ (∃ s t, x = some (.string s) ∧ y = some (.string t) ∧ t.size ≤ 9223372036854775807)
theorem Kin.trans {x y z : Option Value} (h : Kin x y) (k : Kin y z) : Kin x z := by
  rcases h with rfl | ⟨p, q, rfl, rfl⟩ | ⟨s, t, rfl, rfl, _⟩
  · exact k
  · rcases k with rfl | ⟨p', q', e, rfl⟩ | ⟨s', t', e, _, _⟩
    · exact .inr (.inl ⟨_, _, rfl, rfl⟩)
    · exact .inr (.inl ⟨_, _, rfl, rfl⟩)
    · simp at e
  · rcases k with rfl | ⟨p', q', e, rfl⟩ | ⟨s', t', e, rfl, ht⟩
    · exact .inr (.inr ⟨_, _, rfl, rfl, by assumption⟩)
    · simp at e
    · exact .inr (.inr ⟨_, _, rfl, rfl, ht⟩)
theorem Kin.int {z : Int} {y : Option Value} (h : Kin (some (.int .i64 z)) y) : ∃ q, y = some (.int .i64 q) := by
  rcases h with rfl | ⟨p, q, _, rfl⟩ | ⟨s, t, e, _, _⟩
  · exact ⟨_, rfl⟩
  · exact ⟨_, rfl⟩
  · simp at e
theorem Kin.str {s : ByteArray} {y : Option Value} (hs : s.size ≤ 9223372036854775807) (h : Kin (some (.string s)) y) : ∃ t, y = some (.string t) ∧ t.size ≤ 9223372036854775807 := by
  rcases h with rfl | ⟨p, q, e, _⟩ | ⟨s', t, _, rfl, ht⟩
  · exact ⟨_, rfl, hs⟩
  · simp at e
  · exact ⟨_, rfl, ht⟩
theorem Kin.slice {a : Option Addr} {n c : Nat} {y : Option Value} (h : Kin (some (.slice a n c)) y) : y = some (.slice a n c) := by
  rcases h with rfl | ⟨p, q, e, _⟩ | ⟨s', t, e, _, _⟩
  · rfl
  · simp at e
  · simp at e
theorem Kin.some {u : Value} {y : Option Value} (h : Kin (some u) y) : ∃ v, y = some v := by
  rcases h with rfl | ⟨p, q, _, rfl⟩ | ⟨s', t, _, rfl, _⟩ <;> exact ⟨_, rfl⟩
/-- Only blocks from lo to hi have been turned, and their cells have kept their kinds. -/
structure KT (lo hi : Nat) (w w' : World) : Prop extends Turn lo hi w w' where
  kin : ∀ b o, lo ≤ b → b < hi → Kin (w.cell? ⟨b, o, none⟩) (w'.cell? ⟨b, o, none⟩)
  nf : Nf w w'
theorem KT.refl (lo hi : Nat) (w : World) : KT lo hi w w := ⟨Turn.refl _ _ _, fun _ _ _ _ => .inl rfl, Nf.refl _⟩
theorem KT.trans {lo hi : Nat} {a b c : World} (h : KT lo hi a b) (k : KT lo hi b c) : KT lo hi a c := ⟨h.toTurn.trans k.toTurn, fun i o h1 h2 => (h.kin i o h1 h2).trans (k.kin i o h1 h2), h.nf.trans k.nf⟩
theorem KT.of_bf {lo hi B : Nat} {w w' : World} (h : BF B w w') (hB : w.heap.size ≤ B) (hh : hi ≤ w.heap.size) : KT lo hi w w' :=
  ⟨Turn.of_below h.toBelow hB, fun b o _ h2 => .inl (h.toBelow.cell (p := ⟨b, o, none⟩) (by show b < B; omega)).symm, h.nf⟩
theorem KT.alloc {lo hi : Nat} {a w : World} (h : KT lo hi a w) (hh : hi ≤ w.heap.size) (o : Obj) (ho : ∃ c e, o = .cells c e := by exact ⟨_, _, rfl⟩) : KT lo hi a (w.alloc o) :=
  h.trans (KT.of_bf ((BF.refl w.heap.size w).alloc (Nat.le_refl _) o ho) (Nat.le_refl _) hh)
theorem KT.put {lo hi b o : Nat} {w : World} {v u : Value} (hc : w.cell? ⟨b, o, none⟩ = some v) (h1 : lo ≤ b) (h2 : b < hi) (hk : Kin (some v) (some u)) : KT lo hi w (w.setCell ⟨b, o, none⟩ u) := by
  refine ⟨⟨rfl, rfl, rfl, by simp, fun k hk hkk => Below.heap_setCell _ _ _ _ (by simp; omega)⟩, fun c p _ _ => ?_, Nf.setCell _ _ _⟩
  by_cases e : (⟨c, p, none⟩ : Addr) = ⟨b, o, none⟩
  · rw [e, hc, World.cell?_setCell_same _ _ _ hc]; exact hk
  · rw [World.cell?_setCell_other _ _ _ _ (fun h => e h.symm)]; exact .inl rfl
theorem KT.int {lo hi b o : Nat} {w : World} {z : Int} (hc : w.cell? ⟨b, o, none⟩ = some (.int .i64 z)) (h1 : lo ≤ b) (h2 : b < hi) (q : Int) : KT lo hi w (w.setCell ⟨b, o, none⟩ (.int .i64 q)) := KT.put hc h1 h2 (.inr (.inl ⟨_, _, rfl, rfl⟩))
theorem KT.str {lo hi b o : Nat} {w : World} {s : ByteArray} (hc : w.cell? ⟨b, o, none⟩ = some (.string s)) (h1 : lo ≤ b) (h2 : b < hi) (t : ByteArray) (ht : t.size ≤ 9223372036854775807) : KT lo hi w (w.setCell ⟨b, o, none⟩ (.string t)) := KT.put hc h1 h2 (.inr (.inr ⟨_, _, rfl, rfl, ht⟩))

/-! ### readers keep their weights -/
/-- Where cells keep their kinds, what is read keeps its weight. -/
def Wtd {α β : Type} (R : Reader α) (wt : α → β) : Prop := ∀ {w w' : World} {lo hi : Nat} {cs cs' : List Value} {x : α}, R w lo hi cs x → KT lo hi w w' → cs'.length = cs.length → (∀ i (h : i < cs.length) (h' : i < cs'.length), Kin (some cs[i]) (some cs'[i])) → ∃ x', R w' lo hi cs' x' ∧ wt x' = wt x
theorem wtd_int : Wtd rInt (fun _ => ()) := fun {w w' lo hi cs cs' x} h _ hl hk => by
  have e : cs = [.int .i64 x] := h
  subst e
  match cs', hl with
  | [v], _ =>
    obtain ⟨q, hq⟩ := (hk 0 (by simp) (by simp)).int
    have : v = .int .i64 q := Option.some.inj hq
    exact ⟨q, by subst this; rfl, rfl⟩
theorem wtd_str : Wtd rStr (fun _ => ()) := fun {w w' lo hi cs cs' x} h _ hl hk => by
  obtain ⟨rfl, hs⟩ := h
  match cs', hl with
  | [v], _ =>
    obtain ⟨t, ht, hz⟩ := (hk 0 (by simp) (by simp)).str hs
    have : v = .string t := Option.some.inj ht
    exact ⟨t, ⟨by subst this; rfl, hz⟩, rfl⟩
theorem wtd_two {α β γ δ : Type} {R : Reader α} {S : Reader β} {f : α → γ} {g : β → δ} (hR : Wtd R f) (hS : Wtd S g) : Wtd (rTwo R S) (fun x => (f x.1, g x.2)) := fun {w w' lo hi cs cs' x} h ht hl hk => by
  obtain ⟨c, d, rfl, h1, h2⟩ := h
  rw [List.length_append] at hl
  have hc' : cs' = cs'.take c.length ++ cs'.drop c.length := (List.take_append_drop _ _).symm
  obtain ⟨x1, r1, e1⟩ := hR (cs' := cs'.take c.length) h1 ht (by simp; omega) (fun i hi hi' => by
    have := hk i (by simp; omega) (by omega)
    rw [List.getElem_append_left hi] at this
    rw [List.getElem_take]
    exact this)
  obtain ⟨x2, r2, e2⟩ := hS (cs' := cs'.drop c.length) h2 ht (by simp; omega) (fun i hi hi' => by
    have := hk (c.length + i) (by simp; omega) (by omega)
    rw [List.getElem_append_right (by omega)] at this
    rw [List.getElem_drop]
    simpa using this)
  exact ⟨(x1, x2), ⟨_, _, hc', r1, r2⟩, by show (f x1, g x2) = _; rw [e1, e2]⟩
/-- The elements behind a slice keep their number and weights. -/
theorem els_wtd {α β : Type} {k : Nat} {R : Reader α} {wt : α → β} (hR : Wtd R wt) {w w' : World} {lo hi : Nat} {a : Option Addr} {xs : List α} (h : Els k R w lo hi a xs) (ht : KT lo hi w w') : ∃ xs' : List α, xs'.length = xs.length ∧ (∀ j (h1 : j < xs.length) (h2 : j < xs'.length), wt xs'[j] = wt xs[j]) ∧ Els k R w' lo hi a xs' := by
  rcases Nat.eq_zero_or_pos xs.length with h0 | h0
  · exact ⟨[], by simp [h0], fun j h1 => by omega, Els.nil⟩
  · obtain ⟨b, off, e, h1, h2, hc⟩ := h h0
    have hel : ∀ j : Fin xs.length, ∃ x' : α, (∃ cs' : List Value, cs'.length = k ∧ (∀ i (hi : i < cs'.length), w'.cell? ⟨b, off + j.val * k + i, none⟩ = some cs'[i]) ∧ R w' lo hi cs' x') ∧ wt x' = wt xs[j] := by
      intro j
      obtain ⟨cs, hl, h3, h4⟩ := hc j.val j.isLt
      have hv : ∀ i : Fin cs.length, ∃ v, w'.cell? ⟨b, off + j.val * k + i.val, none⟩ = some v := fun i => by
        have := ht.kin b (off + j.val * k + i.val) h1 h2
        rw [h3 i.val i.isLt] at this
        exact this.some
      obtain ⟨x', r', e'⟩ := hR (cs' := List.ofFn fun i => Classical.choose (hv i)) h4 ht (by simp) (fun i hi hi' => by
        have h5 := ht.kin b (off + j.val * k + i) h1 h2
        rw [h3 i hi, Classical.choose_spec (hv ⟨i, hi⟩)] at h5
        simpa using h5)
      exact ⟨x', ⟨_, by simpa using hl, fun i hi => by
        have := Classical.choose_spec (hv ⟨i, by simpa using hi⟩)
        rw [this]
        simp, r'⟩, e'⟩
    refine ⟨List.ofFn fun j => Classical.choose (hel j), by simp, fun j h3 h4 => ?_, fun _ => ⟨b, off, e, h1, h2, fun j hj => ?_⟩⟩
    · have := (Classical.choose_spec (hel ⟨j, h3⟩)).2
      simpa using this
    · obtain ⟨cs', hl, h3, h4⟩ := (Classical.choose_spec (hel ⟨j, by simpa using hj⟩)).1
      exact ⟨cs', hl, h3, by simpa using h4⟩
theorem wtd_sl {α β : Type} {k : Nat} {R : Reader α} {wt : α → β} (hR : Wtd R wt) : Wtd (rSl k R) (List.map wt) := fun {w w' lo hi cs cs' x} h ht hl hk => by
  obtain ⟨hx, a, cap, rfl, hc, he⟩ := h
  match cs', hl with
  | [v], _ =>
    have hv := (hk 0 (by simp) (by simp)).slice
    have : v = .slice a x.length cap := Option.some.inj hv
    subst this
    obtain ⟨xs', h1, h2, h3⟩ := els_wtd hR he ht
    exact ⟨xs', ⟨by omega, a, cap, by rw [h1], by omega, h3⟩, List.ext_getElem (by simpa using h1) (fun i hi hi' => by simpa using h2 i (by simpa using hi') (by simpa using hi))⟩
/-- What is read keeps its weight where the cells themselves stand elsewhere. -/
theorem Wtd.same {α β : Type} {R : Reader α} {wt : α → β} (hR : Wtd R wt) {w w' : World} {lo hi : Nat} {cs : List Value} {x : α} (h : R w lo hi cs x) (ht : KT lo hi w w') : ∃ x', R w' lo hi cs x' ∧ wt x' = wt x := hR h ht rfl (fun _ _ _ => .inl rfl)
/-- Marks of the elements of a slice: the weights of one grid of data, carried. -/
structure Wts {α β : Type} (k : Nat) (R : Reader α) (wt : α → β) (w : World) (lo hi : Nat) (a : Option Addr) (xs ys : List α) : Prop where
  len : ys.length = xs.length
  wt : ∀ j (h1 : j < xs.length) (h2 : j < ys.length), wt ys[j] = wt xs[j]
  els : Els k R w lo hi a ys
theorem Wts.start {α β : Type} {k : Nat} {R : Reader α} {wt : α → β} {w : World} {lo hi : Nat} {a : Option Addr} {xs : List α} (h : Els k R w lo hi a xs) : Wts k R wt w lo hi a xs xs := ⟨rfl, fun _ _ _ => rfl, h⟩
theorem Wts.turn {α β : Type} {k : Nat} {R : Reader α} {wt : α → β} (hR : Wtd R wt) {w w' : World} {lo hi : Nat} {a : Option Addr} {xs ys : List α} (h : Wts k R wt w lo hi a xs ys) (ht : KT lo hi w w') : ∃ zs, Wts k R wt w' lo hi a xs zs := by
  obtain ⟨zs, h1, h2, h3⟩ := els_wtd hR h.els ht
  exact ⟨zs, by rw [h1, h.len], fun j k1 k2 => by rw [h2 j (by rw [h.len]; exact k1) k2, h.wt j k1 (by rw [h.len]; exact k1)], h3⟩
theorem wtd_row : Wtd rRow List.length := by
  intro w w' lo hi cs cs' x h ht hl hk
  obtain ⟨x', h1, h2⟩ := (wtd_sl (k := 1) wtd_int) h ht hl hk
  exact ⟨x', h1, by simpa using congrArg List.length h2⟩
/-- The ints of a grid; the marks of a table, of an atom; shapes. -/
def wG (xss : List (List Int)) : Nat := (xss.map List.length).sum
def sA (x : AtomD) : Nat := x.2.length
def sT (x : TableD) : List Nat := x.2.2.map List.length
def wA (x : AtomD) : Nat := 1 + x.2.length
def wT (x : TableD) : Nat := 2 + wG x.2.2
def wS {α : Type} (f : α → Nat) (xs : List α) : Nat := sumf f xs xs.length
theorem wG_sum (xss : List (List Int)) : sumf List.length xss xss.length = wG xss := by simp [sumf, wG]
theorem szG_wG (xss : List (List Int)) : szG xss = xss.length + wG xss := by rw [← wG_sum]; rfl
theorem wA_of {x y : AtomD} (h : sA y = sA x) : wA y = wA x := by unfold sA at h; unfold wA; omega
theorem wT_of {x y : TableD} (h : sT y = sT x) : wT y = wT x ∧ szG y.2.2 = szG x.2.2 := by
  unfold sT at h
  have h1 := congrArg List.length h
  simp only [List.length_map] at h1
  have h2 := congrArg List.sum h
  rw [szG_wG, szG_wG]
  unfold wT wG
  omega
theorem wtd_grid : Wtd rGrid (List.map List.length) := wtd_sl wtd_row
theorem wtd_rel : Wtd rRel (fun x => x.2.map List.length) := by
  intro w w' lo hi cs cs' x h ht hl hk
  obtain ⟨x', h1, h2⟩ := (wtd_two wtd_int wtd_grid) h ht hl hk
  exact ⟨x', h1, congrArg Prod.snd h2⟩
theorem wtd_atom : Wtd rAtom sA := by
  intro w w' lo hi cs cs' x h ht hl hk
  obtain ⟨x', h1, h2⟩ := (wtd_two wtd_str wtd_row) h ht hl hk
  exact ⟨x', h1, congrArg Prod.snd h2⟩
theorem wtd_table : Wtd rTable sT := by
  intro w w' lo hi cs cs' x h ht hl hk
  obtain ⟨x', h1, h2⟩ := (wtd_two wtd_str wtd_rel) h ht hl hk
  exact ⟨x', h1, congrArg Prod.snd h2⟩
def wD (x : List TableD) : Nat := wS wT x
def wQ (x : QueryD) : Nat := wS wA x.2.1 + x.2.2.length
/-- A block's first cells stay where other blocks are turned. -/
theorem hasl_turned {lo hi b : Nat} {w w' : World} {vs : List Value} (h : HasL w b vs) (t : Turn lo hi w w') (hb : b < lo ∨ hi ≤ b) : HasL w' b vs :=
  ⟨Nat.lt_of_lt_of_le h.1 t.size, fun i hi => ⟨(World.cell?_of_block (w := w) (a := ⟨b, i, none⟩) (t.block b h.1 hb)).trans (h.2 i hi).1, (World.frozen?_of_block (w := w) (a := ⟨b, i, none⟩) (t.block b h.1 hb)).trans (h.2 i hi).2⟩⟩
theorem hasl_of2 {w : World} {b : Nat} {x y : Value} (h : Has2 w b x y) : HasL w b [x, y] := ⟨h.2.2.1, fun i hi => by
  match i, hi with
  | 0, _ => exact ⟨h.1, h.2.2.2.1⟩
  | 1, _ => exact ⟨h.2.1, h.2.2.2.2⟩⟩
theorem thw_turned {lo hi lo' hi' : Nat} {w w' : World} (h : Thw lo hi w) (t : Turn lo' hi' w w') (hs : hi ≤ w.heap.size) (hd : hi ≤ lo' ∨ hi' ≤ lo) : Thw lo hi w' := fun b o h1 h2 =>
  (World.frozen?_of_block (w := w) (a := ⟨b, o, none⟩) (t.block b (by omega) (by omega))).trans (h b o h1 h2)
end Go.Proofs.Ytjnphlgmmjdeiaa.Thaw
