/- Readers: what cells say, whatever the type; arguments opened by them (no program in sight). -/
import Derived.Test.YtliomgoakiidfaaGridMore
import Derived.ProofKit
import Derived.OpenShut
import Derived.Lib.SmallJoins
import Derived.Deep.Matrix
namespace Go.Proofs.Ytliomgoakiidfaa.Rdr
open Go.Deep Go.Joins Go.ChangeShapes Go.WideShapes Go.ChangeAt Go.RowKit
open Go.Proofs.Ytliomgoakiidfaa.IntRow Go.Proofs.Ytliomgoakiidfaa.Grid Go.Proofs.Ytliomgoakiidfaa.GridMore
set_option linter.unusedVariables false

/-- What cells say in a world; all memory behind them lies in the blocks from lo on and below hi. -/
abbrev Reader (α : Type) := World → Nat → Nat → List Value → α → Prop
/-- The blocks from lo on and below hi are as they were. -/
def Sm (lo hi : Nat) (w w' : World) : Prop := ∀ b, lo ≤ b → b < hi → w'.heap[b]? = w.heap[b]?
structure Gd {α : Type} (R : Reader α) : Prop where
  keep : ∀ {w w' : World} {lo hi : Nat} {cs : List Value} {x : α}, R w lo hi cs x → Sm lo hi w w' → R w' lo hi cs x
  up : ∀ {w : World} {lo hi lo' hi' : Nat} {cs : List Value} {x : α}, R w lo hi cs x → lo' ≤ lo → hi ≤ hi' → R w lo' hi' cs x
theorem sm_below {lo hi B : Nat} {w w' : World} (h : Below B w w') (hi' : hi ≤ B) : Sm lo hi w w' := fun b _ h2 => h.block b (by omega)
theorem sm_set {lo hi g o : Nat} {w : World} (u : Value) (h : g < lo ∨ hi ≤ g) : Sm lo hi w (w.setCell ⟨g, o, none⟩ u) := fun b h1 h2 => Below.heap_setCell _ _ _ _ (by simp; omega)
theorem sm_turn {lo hi l r : Nat} {w w' : World} (h : Turn l r w w') (hs : hi ≤ w.heap.size) (hd : hi ≤ l ∨ r ≤ lo) : Sm lo hi w w' := fun b h1 h2 => h.block b (by omega) (by omega)
theorem sm_trans {lo hi : Nat} {a b c : World} (h : Sm lo hi a b) (k : Sm lo hi b c) : Sm lo hi a c := fun i h1 h2 => (k i h1 h2).trans (h i h1 h2)

def rInt : Reader Int := fun _ _ _ cs z => cs = [.int .i64 z]
def rStr : Reader ByteArray := fun _ _ _ cs s => cs = [.string s] ∧ s.size ≤ 9223372036854775807
def rTwo {α β : Type} (R : Reader α) (S : Reader β) : Reader (α × β) := fun w lo hi cs x => ∃ c d, cs = c ++ d ∧ R w lo hi c x.1 ∧ S w lo hi d x.2
/-- The elements behind a slice's address, each of k cells. -/
def Els {α : Type} (k : Nat) (R : Reader α) (w : World) (lo hi : Nat) (a : Option Addr) (xs : List α) : Prop :=
  0 < xs.length → ∃ b off, a = some ⟨b, off, none⟩ ∧ lo ≤ b ∧ b < hi ∧ ∀ j (h : j < xs.length), ∃ cs : List Value, cs.length = k ∧ (∀ i (hi : i < cs.length), w.cell? ⟨b, off + j * k + i, none⟩ = some cs[i]) ∧ R w lo hi cs xs[j]
def rSl {α : Type} (k : Nat) (R : Reader α) : Reader (List α) := fun w lo hi cs xs => xs.length ≤ 9223372036854775807 ∧ ∃ a cap, cs = [.slice a xs.length cap] ∧ xs.length ≤ cap ∧ Els k R w lo hi a xs

theorem good_int : Gd rInt := ⟨fun h _ => h, fun h _ _ => h⟩
theorem good_str : Gd rStr := ⟨fun h _ => h, fun h _ _ => h⟩
theorem good_two {α β : Type} {R : Reader α} {S : Reader β} (hR : Gd R) (hS : Gd S) : Gd (rTwo R S) :=
  ⟨fun ⟨c, d, e, h1, h2⟩ hb => ⟨c, d, e, hR.keep h1 hb, hS.keep h2 hb⟩, fun ⟨c, d, e, h1, h2⟩ hl hb => ⟨c, d, e, hR.up h1 hl hb, hS.up h2 hl hb⟩⟩
theorem Els.keep {α : Type} {k : Nat} {R : Reader α} (hR : Gd R) {w w' : World} {lo hi : Nat} {a : Option Addr} {xs : List α} (h : Els k R w lo hi a xs) (hs : Sm lo hi w w') : Els k R w' lo hi a xs := fun h0 => by
  obtain ⟨b, off, e, h1, h2, hc⟩ := h h0
  refine ⟨b, off, e, h1, h2, fun j hj => ?_⟩
  obtain ⟨cs, hl, h3, h4⟩ := hc j hj
  exact ⟨cs, hl, fun i hi => (World.cell?_of_block (w := w) (a := ⟨b, off + j * k + i, none⟩) (hs b h1 h2)).trans (h3 i hi), hR.keep h4 hs⟩
theorem Els.up {α : Type} {k : Nat} {R : Reader α} (hR : Gd R) {w : World} {lo hi lo' hi' : Nat} {a : Option Addr} {xs : List α} (h : Els k R w lo hi a xs) (hl : lo' ≤ lo) (hh : hi ≤ hi') : Els k R w lo' hi' a xs := fun h0 => by
  obtain ⟨b, off, e, h1, h2, hc⟩ := h h0
  refine ⟨b, off, e, by omega, by omega, fun j hj => ?_⟩
  obtain ⟨cs, hl', h3, h4⟩ := hc j hj
  exact ⟨cs, hl', h3, hR.up h4 hl hh⟩
theorem Els.nil {α : Type} {k : Nat} {R : Reader α} {w : World} {lo hi : Nat} {a : Option Addr} : Els k R w lo hi a [] := fun h => by simp at h
theorem good_sl {α : Type} {k : Nat} {R : Reader α} (hR : Gd R) : Gd (rSl k R) :=
  ⟨fun ⟨hl, a, cap, e, hc, h⟩ hb => ⟨hl, a, cap, e, hc, h.keep hR hb⟩, fun ⟨hl, a, cap, e, hc, h⟩ h1 hb => ⟨hl, a, cap, e, hc, h.up hR h1 hb⟩⟩
/-- The world grows: what lay in it is as it was. -/
theorem Gd.grow {α : Type} {R : Reader α} (hR : Gd R) {w w' : World} {lo hi : Nat} {cs : List Value} {x : α} (h : R w lo hi cs x) (hb : Below w.heap.size w w') (hh : hi ≤ w.heap.size) : R w' lo hi cs x := hR.keep h (sm_below hb hh)
theorem Els.grow {α : Type} {k : Nat} {R : Reader α} (hR : Gd R) {w w' : World} {lo hi : Nat} {a : Option Addr} {xs : List α} (h : Els k R w lo hi a xs) (hb : Below w.heap.size w w') (hh : hi ≤ w.heap.size) : Els k R w' lo hi a xs := h.keep hR (sm_below hb hh)

theorem rd_of {w : World} {lo hi : Nat} {a : Option Addr} {xs : List Int} (h : Els 1 rInt w lo hi a xs) : Rd w hi a xs := fun h0 => by
  obtain ⟨b, off, e, h1, h2, hc⟩ := h h0
  refine ⟨b, off, e, h2, fun j hj => ?_⟩
  obtain ⟨cs, hl, h3, h4⟩ := hc j hj
  have h5 : cs = [.int .i64 xs[j]] := h4
  subst h5
  simpa using h3 0 (by simp)
theorem of_rd {w : World} {B : Nat} {a : Option Addr} {xs : List Int} (h : Rd w B a xs) : Els 1 rInt w 0 B a xs := fun h0 => by
  obtain ⟨b, off, e, hB, hc⟩ := h h0
  refine ⟨b, off, e, Nat.zero_le _, hB, fun j hj => ⟨[.int .i64 xs[j]], rfl, fun i hi => ?_, rfl⟩⟩
  simp at hi
  subst hi
  simpa using hc j hj
theorem of_at {w : World} {g lo hi : Nat} {e : TypeId} {cap : Nat} {xs : List Int} (h : At w g e cap xs) (h1 : lo ≤ g) (h2 : g < hi) : Els 1 rInt w lo hi (some ⟨g, 0, none⟩) xs := fun h0 => by
  refine ⟨g, 0, rfl, h1, h2, fun j hj => ⟨[.int .i64 xs[j]], rfl, fun i hi => ?_, rfl⟩⟩
  simp at hi
  subst hi
  simpa using h.cell j hj
theorem grd_of {w : World} {lo hi : Nat} {a : Option Addr} {xss : List (List Int)} (h : Els 1 (rSl 1 rInt) w lo hi a xss) : GRd w hi a xss := fun h0 => by
  obtain ⟨b, off, e, h1, h2, hc⟩ := h h0
  refine ⟨b, off, e, h2, fun j hj => ?_⟩
  obtain ⟨cs, hl, h3, _, aj, capj, h4, _, h5⟩ := hc j hj
  subst h4
  exact ⟨aj, capj, by simpa using h3 0 (by simp), rd_of h5⟩
theorem len_of {w : World} {lo hi : Nat} {a : Option Addr} {xss : List (List Int)} (h : Els 1 (rSl 1 rInt) w lo hi a xss) (j : Nat) (hj : j < xss.length) : xss[j].length ≤ 9223372036854775807 := by
  obtain ⟨b, off, e, _, _, hc⟩ := h (by omega)
  obtain ⟨cs, hl, h1, h2, _⟩ := hc j hj
  exact h2
theorem of_own {w : World} {lo hi : Nat} {e : TypeId} {a : Option Addr} {n cap : Nat} {xs : List Int} (h : Own w lo e (.slice a n cap) xs) (hh : w.heap.size ≤ hi) : Els 1 rInt w lo hi a xs := by
  rcases own_at h with ⟨hv, rfl⟩ | ⟨g, cap', hv, hl, hat⟩
  · exact Els.nil
  · simp only [Value.slice.injEq] at hv
    obtain ⟨rfl, _, _⟩ := hv
    exact of_at hat hl (by have := hat.lt; omega)
theorem of_gown {w : World} {lo hi : Nat} {eR eI : TypeId} {a : Option Addr} {n cap : Nat} {vs : List Value} {xss : List (List Int)} (hx : ∀ j (h : j < xss.length), xss[j].length ≤ 9223372036854775807) (h : GOwn w lo eR eI (.slice a n cap) vs xss) (hh : w.heap.size ≤ hi) : Els 1 (rSl 1 rInt) w lo hi a xss := fun h0 => by
  rcases h.row.2 with ⟨hv, h1⟩ | ⟨g, cap', cur, hv, hg, hcur, r⟩
  · omega
  · simp only [Value.slice.injEq] at hv
    obtain ⟨rfl, rfl, rfl⟩ := hv
    refine ⟨g, 0, rfl, hg, by have := (h.lt g rfl).2; omega, fun j hj => ?_⟩
    have hjv : j < vs.length := by rw [h.len]; exact hj
    have hu : vs[j]? = some vs[j] := List.getElem?_eq_getElem hjv
    have ho := h.own j hj vs[j] hu
    obtain ⟨aj, capj, hvj, hle, _, _⟩ := ho.form
    rw [hvj] at ho hu
    refine ⟨[.slice aj xss[j].length capj], rfl, fun i hi => ?_, hx j hj, aj, capj, rfl, hle, of_own ho hh⟩
    simp at hi
    subst hi
    have := h.cellAt j hj
    rw [hu] at this
    simpa using this

/-! ### a row of k cells each that the call fills in -/
/-- The first m elements have been written. -/
def Fil {α : Type} (k : Nat) (R : Reader α) (w : World) (lo hi : Nat) (cs : List Value) (xs : List α) (m : Nat) : Prop :=
  ∀ j (h : j < xs.length), j < m → ∃ ds : List Value, ds.length = k ∧ (∀ i (hi : i < ds.length), cs[j * k + i]? = some ds[i]) ∧ R w lo hi ds xs[j]
theorem Fil.zero {α : Type} {k : Nat} {R : Reader α} {w : World} {lo hi : Nat} {cs : List Value} {xs : List α} : Fil k R w lo hi cs xs 0 := fun j _ h => by omega
theorem Fil.keep {α : Type} {k : Nat} {R : Reader α} (hR : Gd R) {w w' : World} {lo hi hi' : Nat} {cs : List Value} {xs : List α} {m : Nat} (h : Fil k R w lo hi cs xs m) (hs : Sm lo hi w w') (hh : hi ≤ hi') : Fil k R w' lo hi' cs xs m := fun j hj hm => by
  obtain ⟨ds, hl, h1, h2⟩ := h j hj hm
  exact ⟨ds, hl, h1, hR.up (hR.keep h2 hs) (Nat.le_refl _) hh⟩
/-- cs with the cells ds from place p on. -/
def put (cs : List Value) (p : Nat) : List Value → List Value
  | [] => cs
  | d :: ds => put (cs.set p d) (p + 1) ds
theorem put_length (cs ds : List Value) (p : Nat) : (put cs p ds).length = cs.length := by
  induction ds generalizing cs p with
  | nil => rfl
  | cons d ds ih => simp [put, ih]
theorem put_out (cs ds : List Value) (p i : Nat) (h : i < p ∨ p + ds.length ≤ i) : (put cs p ds)[i]? = cs[i]? := by
  induction ds generalizing cs p with
  | nil => rfl
  | cons d ds ih =>
    simp only [List.length_cons] at h
    rw [put, ih _ _ (by omega), List.getElem?_set_ne (by omega)]
theorem put_in (cs ds : List Value) (p i : Nat) (h : i < ds.length) (hp : p + ds.length ≤ cs.length) : (put cs p ds)[p + i]? = some ds[i] := by
  induction ds generalizing cs p i with
  | nil => simp at h
  | cons d ds ih =>
    simp only [List.length_cons] at h hp
    cases i with
    | zero =>
      show (put (cs.set p d) (p + 1) ds)[p]? = some d
      rw [put_out _ _ _ p (.inl (by omega)), List.getElem?_set_self (by omega)]
    | succ i =>
      show (put (cs.set p d) (p + 1) ds)[p + (i + 1)]? = some ds[i]
      rw [show p + (i + 1) = p + 1 + i by omega]
      exact ih _ _ i (by omega) (by simp; omega)
theorem Fil.step {α : Type} {k : Nat} {R : Reader α} {w : World} {lo hi : Nat} {cs ds : List Value} {xs : List α} {m : Nat} (h : Fil k R w lo hi cs xs m) (hm : m < xs.length) (hl : ds.length = k) (hcs : cs.length = xs.length * k) (hr : R w lo hi ds xs[m]) : Fil k R w lo hi (put cs (m * k) ds) xs (m + 1) := fun j hj hjm => by
  by_cases e : j = m
  · subst e
    have hle : j * k + k ≤ xs.length * k := by
      have := Nat.mul_le_mul_right k (show j + 1 ≤ xs.length by omega)
      rw [Nat.succ_mul] at this
      exact this
    exact ⟨ds, hl, fun i hi => put_in _ _ _ _ hi (by omega), hr⟩
  · obtain ⟨ds', hl', h1, h2⟩ := h j hj (by omega)
    refine ⟨ds', hl', fun i hi => ?_, h2⟩
    rw [put_out _ _ _ _ (.inl ?_), h1 i hi]
    have : j * k + k ≤ m * k := by
      have := Nat.mul_le_mul_right k (show j + 1 ≤ m by omega)
      rw [Nat.succ_mul] at this
      exact this
    omega
theorem Fil.done {α : Type} {k : Nat} {R : Reader α} (hR : Gd R) {w : World} {lo hi g n : Nat} {e : TypeId} {cs : List Value} {xs : List α} (h : Fil k R w lo hi cs xs xs.length) (hw : w.ownsRow g e k (.slice (some ⟨g, 0, none⟩) n n) n cs) (hn : n = xs.length) {lo' hi' : Nat} (h1 : lo' ≤ lo) (h2 : hi ≤ hi') (h3 : lo' ≤ g) (h4 : g < hi') : Els k R w lo' hi' (some ⟨g, 0, none⟩) xs := fun h0 => by
  subst hn
  refine ⟨g, 0, rfl, h3, h4, fun j hj => ?_⟩
  obtain ⟨ds, hl, h5, h6⟩ := h j hj hj
  refine ⟨ds, hl, fun i hi => ?_, hR.up h6 h1 h2⟩
  have hle : j * k + k ≤ xs.length * k := by
    have := Nat.mul_le_mul_right k (show j + 1 ≤ xs.length by omega)
    rw [Nat.succ_mul] at this
    exact this
  rw [Nat.zero_add, World.ownsRow.cellAt hw _ (by omega), h5 i hi]

/-! ### sums of sizes -/
def sumf {α : Type} (f : α → Nat) (xs : List α) (m : Nat) : Nat := ((xs.take m).map f).sum
def tots {α : Type} (f : α → Nat) (xs : List α) : Nat := xs.length + sumf f xs xs.length
theorem sumf_zero {α : Type} (f : α → Nat) (xs : List α) : sumf f xs 0 = 0 := rfl
theorem sumf_step {α : Type} (f : α → Nat) (xs : List α) (k : Nat) (h : k < xs.length) : sumf f xs (k + 1) = sumf f xs k + f xs[k] := by
  unfold sumf
  rw [List.take_succ_eq_append_getElem h, List.map_append, List.sum_append_nat]
  simp
theorem sumf_mono {α : Type} (f : α → Nat) (xs : List α) {i j : Nat} (h : i ≤ j) (hj : j ≤ xs.length) : sumf f xs i ≤ sumf f xs j := by
  induction j with
  | zero =>
    have e : i = 0 := by omega
    rw [e]
    exact Nat.le_refl _
  | succ j ih =>
    by_cases e : i = j + 1
    · subst e; exact Nat.le_refl _
    · have := ih (by omega) (by omega)
      have := sumf_step f xs j (by omega)
      omega
theorem elem_le {α : Type} (f : α → Nat) (xs : List α) (k : Nat) (h : k < xs.length) : xs.length + f xs[k] ≤ tots f xs := by
  have h1 := sumf_step f xs k h
  have h2 := sumf_mono f xs (show k + 1 ≤ xs.length by omega) (Nat.le_refl _)
  unfold tots
  omega
theorem tots_len {α : Type} (f : α → Nat) (xs : List α) : xs.length ≤ tots f xs := by unfold tots; omega

/-! ### arguments -/
section
variable {P : Program}
/-- Whatever can be read as data of type t is read by R. -/
def Opn {α : Type} (P : Program) (t : TypeId) (R : Reader α) : Prop :=
  ∀ (H : Type) (enc : TypeId × Value → H) (W : World) (fuel : Nat) (cs : List Value) (y : DataW H × List MemPlace), DataW.trod enc P W 0 (fun _ => true) true fuel t cs = some y → ∃ x, R W 0 W.heap.size cs x

theorem lt_cell {w : World} {b o : Nat} {v : Value} (h : w.cell? ⟨b, o, none⟩ = some v) : b < w.heap.size := by
  rcases Nat.lt_or_ge b w.heap.size with h1 | h1
  · exact h1
  · simp [World.cell?, Array.getElem?_eq_none h1] at h
theorem opn_int {t : TypeId} (ht : P.underlying t = some (.int .i64)) : Opn P t rInt := fun H enc W fuel cs y h => by
  obtain ⟨z, e, _, _⟩ := DataW.trod_int ht h
  exact ⟨z, e⟩
theorem opn_str {t : TypeId} (ht : P.underlying t = some .string) : Opn P t rStr := fun H enc W fuel cs y h => by
  obtain ⟨s, e, _, hs⟩ := DataW.trod_string ht h
  unfold maxLen at hs
  exact ⟨s, e, by omega⟩
theorem opn_slice {α : Type} {R : Reader α} {t e : TypeId} {k : Nat} (ht : P.underlying t = some (.slice e)) (hk : P.cellsOf e = k) (hk0 : 0 < k) (hR : Opn P e R) : Opn P t (rSl k R) := fun H enc W fuel cs y h => by
  rcases open_slice ht h with ⟨rfl, _⟩ | ⟨a, len, cap, m, n, D, Pl, rfl, _, hl, hm, hmm, _, hi⟩
  · exact ⟨[], by simp, none, 0, rfl, by simp, fun h => by simp at h⟩
  · have hmc : m = cap := by simpa using hmm
    clear hmm
    subst hmc
    have hel : ∀ i : Fin len, ∃ x, ∃ cs' : List Value, cs'.length = k ∧ (∀ j (hj : j < cs'.length), W.cell? (a.add (i.val * k + j)) = some cs'[j]) ∧ R W 0 W.heap.size cs' x := by
      intro i
      obtain ⟨cs', hc, ht'⟩ := hi i.val (by have := i.isLt; omega)
      rw [hk] at hc
      obtain ⟨_, hcl, hat⟩ := World.cells?_some hc
      obtain ⟨x, hx'⟩ := hR H enc W n cs' _ ht'
      refine ⟨x, cs', hcl, fun j hj => ?_, hx'⟩
      have := hat j (by omega)
      rw [Go.Deep.add_add] at this
      rw [this]
      exact List.getElem?_eq_getElem hj
    obtain ⟨b, off, spot⟩ := a
    unfold maxLen at hm
    refine ⟨List.ofFn fun i => Classical.choose (hel i), by simp; omega, some ⟨b, off, spot⟩, m, by simp, by simpa using hl, fun hp => ?_⟩
    have hp' : 0 < len := by simpa using hp
    obtain ⟨cs0, hl0, hc0, _⟩ := Classical.choose_spec (hel ⟨0, hp'⟩)
    have h00 := hc0 0 (by omega)
    have hspot : spot = none := by simpa [Addr.add] using World.cell?_spot h00
    subst hspot
    rw [Go.WideShapes.add_plain] at h00
    refine ⟨b, off, rfl, Nat.zero_le _, lt_cell h00, fun j hj => ?_⟩
    have hj' : j < len := by simpa using hj
    obtain ⟨cs', hl', hc', hr'⟩ := Classical.choose_spec (hel ⟨j, hj'⟩)
    refine ⟨cs', hl', fun i hi => ?_, by simpa using hr'⟩
    have := hc' i hi
    rw [Go.WideShapes.add_plain] at this
    rw [Nat.add_assoc]
    exact this
theorem opn_struct1 {α : Type} {R : Reader α} {t : TypeId} {f0 : Field} (ht : P.underlying t = some (.struct #[f0])) (o0 : f0.offset = 0) (hC : P.cellsOf t = P.cellsOf f0.type) (h0 : Opn P f0.type R) : Opn P t R := fun H enc W fuel cs y h => by
  obtain ⟨y0, n, _, hl, k0⟩ := trod_struct1 ht h
  rw [o0, List.drop_zero, List.take_of_length_le (by omega)] at k0
  exact h0 H enc W n cs _ k0
theorem opn_struct2 {α β : Type} {R : Reader α} {S : Reader β} {t : TypeId} {f0 f1 : Field} (ht : P.underlying t = some (.struct #[f0, f1])) (o0 : f0.offset = 0) (o1 : f1.offset = P.cellsOf f0.type) (hC : P.cellsOf t = P.cellsOf f0.type + P.cellsOf f1.type) (h0 : Opn P f0.type R) (h1 : Opn P f1.type S) : Opn P t (rTwo R S) := fun H enc W fuel cs y h => by
  obtain ⟨y0, y1, n, _, hl, k0, k1⟩ := trod_struct2 ht h
  rw [o0, List.drop_zero] at k0
  rw [o1, List.take_of_length_le (by simp; omega)] at k1
  obtain ⟨x0, r0⟩ := h0 H enc W n _ _ k0
  obtain ⟨x1, r1⟩ := h1 H enc W n _ _ k1
  exact ⟨(x0, x1), _, _, (List.take_append_drop _ _).symm, r0, r1⟩
theorem opn_struct3 {α β γ : Type} {R : Reader α} {S : Reader β} {T : Reader γ} {t : TypeId} {f0 f1 f2 : Field} (ht : P.underlying t = some (.struct #[f0, f1, f2])) (o0 : f0.offset = 0) (o1 : f1.offset = P.cellsOf f0.type) (o2 : f2.offset = P.cellsOf f0.type + P.cellsOf f1.type) (hC : P.cellsOf t = P.cellsOf f0.type + P.cellsOf f1.type + P.cellsOf f2.type)
    (h0 : Opn P f0.type R) (h1 : Opn P f1.type S) (h2 : Opn P f2.type T) : Opn P t (rTwo R (rTwo S T)) := fun H enc W fuel cs y h => by
  obtain ⟨xs, n, _, _, hl, hlen, hf⟩ := DataW.trod_struct ht h
  match xs, hlen with
  | [y0, y1, y2], _ =>
    have k0 := hf 0 f0 rfl
    have k1 := hf 1 f1 rfl
    have k2 := hf 2 f2 rfl
    simp only [List.getElem?_cons_zero, List.getElem?_cons_succ] at k0 k1 k2
    rw [o0, List.drop_zero] at k0
    rw [o1] at k1
    rw [o2, List.take_of_length_le (by simp; omega)] at k2
    obtain ⟨x0, r0⟩ := h0 H enc W n _ _ k0
    obtain ⟨x1, r1⟩ := h1 H enc W n _ _ k1
    obtain ⟨x2, r2⟩ := h2 H enc W n _ _ k2
    refine ⟨(x0, x1, x2), _, _, (List.take_append_drop (P.cellsOf f0.type) _).symm, r0, _, _, ?_, r1, r2⟩
    rw [← List.drop_drop]
    exact (List.take_append_drop _ _).symm
theorem open_agg {α : Type} {R : Reader α} {H : Type} {enc : TypeId × Value → H} {W : World} {t : TypeId} {fs : Array Field} {v : Value} {d : DataW H} {p : List MemPlace} (ht : P.underlying t = some (.struct fs)) (hR : Opn P t R)
    (hv : Value.okWide P W .any 0 t v) (h : DataW.Trod enc P W 0 (fun _ => true) true t v d p) : ∃ (cs : List Value) (x : α), v = .agg cs.toArray ∧ R W 0 W.heap.size cs x := by
  obtain ⟨cs, rfl, _⟩ := okWide_struct ht hv
  obtain ⟨fuel, hf⟩ := h
  obtain ⟨x, hx⟩ := hR H enc W fuel _ _ hf
  exact ⟨cs.toList, x, rfl, by simpa [Value.cells] using hx⟩
end
end Go.Proofs.Ytliomgoakiidfaa.Rdr
