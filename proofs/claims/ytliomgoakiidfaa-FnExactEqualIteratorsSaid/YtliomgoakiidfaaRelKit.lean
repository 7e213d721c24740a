/- Grids carried over what a law does (no program in sight). -/
import Derived.Test.YtliomgoakiidfaaGridLaw2
import Derived.Test.YtliomgoakiidfaaCells
import Derived.Test.YtliomgoakiidfaaKept
import Derived.Deep.RegionHeld3
namespace Go.Proofs.Ytliomgoakiidfaa.RelKit
open Go.RowKit
open Go.Proofs.Ytliomgoakiidfaa.IntRow Go.Proofs.Ytliomgoakiidfaa.Grid Go.Proofs.Ytliomgoakiidfaa.GridMore Go.Proofs.Ytliomgoakiidfaa.GridLaw Go.Proofs.Ytliomgoakiidfaa.GridLaw2 Go.Proofs.Ytliomgoakiidfaa.Keep Go.Proofs.Ytliomgoakiidfaa.Cells
set_option linter.unusedVariables false

theorem gown_rd {w : World} {lo : Nat} {e i : TypeId} {a : Option Addr} {cap : Nat} {vs : List Value} {xss : List (List Int)} (h : GOwn w lo e i (.slice a xss.length cap) vs xss) : GRd w w.heap.size a xss := by
  obtain ⟨a', cap', hv, _, _, hr⟩ := h.form
  simp only [Value.slice.injEq] at hv
  obtain ⟨rfl, _, _⟩ := hv
  exact hr
theorem gown_rd' {w : World} {lo n : Nat} {e i : TypeId} {a : Option Addr} {cap : Nat} {vs : List Value} {xss : List (List Int)} (h : GOwn w lo e i (.slice a n cap) vs xss) (hn : xss.length = n) : GRd w w.heap.size a xss := by
  subst hn; exact gown_rd h
theorem at_rd {w : World} {g : Nat} {e : TypeId} {cap : Nat} {xs : List Int} (h : At w g e cap xs) : Rd w w.heap.size (some ⟨g, 0, none⟩) xs := own_rd (h.own (Nat.le_refl _))
theorem grd_kp {w w' : World} {B n : Nat} {a : Option Addr} {xss : List (List Int)} (h : GRd w B a xss) (k : Kp w n w') (hB : B ≤ w.heap.size) : GRd w' B a xss := h.below (k.bel.mono hB)
theorem has2_turned {lo hi b : Nat} {w w' : World} {x y : Value} (h : Has2 w b x y) (t : Turn lo hi w w') (hb : b < lo ∨ hi ≤ b) : Has2 w' b x y :=
  ⟨(World.cell?_of_block (w := w) (a := ⟨b, 0, none⟩) (t.block b h.2.2.1 hb)).trans h.1, (World.cell?_of_block (w := w) (a := ⟨b, 1, none⟩) (t.block b h.2.2.1 hb)).trans h.2.1, Nat.lt_of_lt_of_le h.2.2.1 t.size,
   (World.frozen?_of_block (w := w) (a := ⟨b, 0, none⟩) (t.block b h.2.2.1 hb)).trans h.2.2.2.1, (World.frozen?_of_block (w := w) (a := ⟨b, 1, none⟩) (t.block b h.2.2.1 hb)).trans h.2.2.2.2⟩
theorem at_turned {lo hi g : Nat} {w w' : World} {e : TypeId} {cap : Nat} {xs : List Int} (h : At w g e cap xs) (t : Turn lo hi w w') (hb : hi ≤ g ∨ g < lo) : At w' g e cap xs :=
  own_turned (lo1 := g) h t (hb.imp id fun hg k hk => by simp [Value.ownBlock] at hk; omega)
theorem turn_row {g : Nat} {w w' : World} (h : w.grownBy w' (some g)) : Turn g (g + 1) w w' := Turn.of_grown h (fun k hk => by injection hk with hk; omega)
theorem ints_le (xss : List (List Int)) : ints xss ≤ tot xss := by unfold ints tot; omega
theorem each_le {xss : List (List Int)} {m : Nat} (h : tot xss ≤ m) : ∀ j (hj : j < xss.length), xss[j].length ≤ m := fun j hj => by have := row_le xss j hj; omega
theorem len_le {xss : List (List Int)} {m : Nat} (h : tot xss ≤ m) : xss.length ≤ m := by have := tot_len xss; omega
theorem gown_set {w : World} {lo b o : Nat} {e i : TypeId} {v : Value} {vs : List Value} {xss : List (List Int)} (h : GOwn w lo e i v vs xss) (hb : b < lo) (u : Value) : GOwn (w.setCell ⟨b, o, none⟩ u) lo e i v vs xss :=
  gown_turned (lo := b) (hi := b + 1) h ⟨rfl, rfl, rfl, by simp, fun k hk hkk => Below.heap_setCell _ _ _ _ (by simp; omega)⟩ (.inl hb)
theorem gown_mono {w : World} {lo lo' : Nat} {e i : TypeId} {v : Value} {vs : List Value} {xss : List (List Int)} (h : GOwn w lo e i v vs xss) (hl : lo' ≤ lo) : GOwn w lo' e i v vs xss := h.mono hl
theorem has2_grown {w w' : World} {b : Nat} {x y : Value} {row : Option Nat} (h : Has2 w b x y) (hg : w.grownBy w' row) (hr : row ≠ some b) : Has2 w' b x y :=
  have hb := hg.block b h.2.2.1 (fun e => hr e.symm)
  ⟨(World.cell?_of_block (w := w) (a := ⟨b, 0, none⟩) hb).trans h.1, (World.cell?_of_block (w := w) (a := ⟨b, 1, none⟩) hb).trans h.2.1, Nat.lt_of_lt_of_le h.2.2.1 hg.size,
   (World.frozen?_of_block (w := w) (a := ⟨b, 0, none⟩) hb).trans h.2.2.2.1, (World.frozen?_of_block (w := w) (a := ⟨b, 1, none⟩) hb).trans h.2.2.2.2⟩
theorem has2_far {w : World} {b c o : Nat} {x y : Value} (h : Has2 w b x y) (hne : b ≠ c) (u : Value) : Has2 (w.setCell ⟨c, o, none⟩ u) b x y := by
  obtain ⟨h0, h1, h2, h3, h4⟩ := h
  refine ⟨?_, ?_, by simp; omega, ?_, ?_⟩
  · rw [World.cell?_setCell_other _ _ _ _ (fun e => hne (congrArg Addr.block e).symm), h0]
  · rw [World.cell?_setCell_other _ _ _ _ (fun e => hne (congrArg Addr.block e).symm), h1]
  · rw [World.frozen?_setCell, h3]
  · rw [World.frozen?_setCell, h4]
theorem has2_put1 {w : World} {b : Nat} {x y : Value} (h : Has2 w b x y) (u : Value) : Has2 (w.setCell ⟨b, 1, none⟩ u) b x u := by
  obtain ⟨h0, h1, h2, h3, h4⟩ := h
  refine ⟨?_, World.cell?_setCell_same _ _ _ h1, by simp; omega, ?_, ?_⟩
  · rw [World.cell?_setCell_other _ _ _ _ (by simp), h0]
  · rw [World.frozen?_setCell, h3]
  · rw [World.frozen?_setCell, h4]
theorem cell_grown {w w' : World} {b o : Nat} {x : Value} {row : Option Nat} (h : w.cell? ⟨b, o, none⟩ = some x) (hg : w.grownBy w' row) (hb : b < w.heap.size) (hr : row ≠ some b) : w'.cell? ⟨b, o, none⟩ = some x :=
  (World.cell?_of_block (w := w) (a := ⟨b, o, none⟩) (hg.block b hb (fun e => hr e.symm))).trans h
theorem cell_all {w : World} {p : Addr} {x : Value} (h : w.cell? p = some x) (ob : Obj) : (w.alloc ob).cell? p = some x := by
  rw [World.cell?_alloc_some _ _ _ (by rw [h]; rfl), h]
theorem cell_put {w : World} {p q : Addr} {x : Value} (h : w.cell? p = some x) (hne : q.block ≠ p.block) (u : Value) : (w.setCell q u).cell? p = some x := by
  rw [World.cell?_setCell_far _ _ _ _ hne, h]
theorem at_grown {w w' : World} {p : Addr} {x : Value} {row : Option Nat} (h : w.cell? p = some x) (hg : w.grownBy w' row) (hr : ∀ k, row = some k → k ≠ p.block) : w'.cell? p = some x :=
  (World.cell?_of_block (w := w) (a := p) (hg.block p.block (World.block_lt_of_cell? w p h) (fun e => hr _ e.symm rfl))).trans h
end Go.Proofs.Ytliomgoakiidfaa.RelKit
