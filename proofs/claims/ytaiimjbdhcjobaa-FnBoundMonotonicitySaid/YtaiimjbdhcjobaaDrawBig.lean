/- The draw of a big integer (spec.l3Big): some row of the call's own. -/
import Derived.Test.YtaiimjbdhcjobaaPick
import Derived.Test.YtaiimjbdhcjobaaIntLaw
import Derived.Deep.RegionLaw
import Derived.Deep.RegionWith
import Derived.Deep.DeepMust
import Derived.Deep.DeepCutAuto
namespace Go.Proofs.Ytaiimjbdhcjobaa.DrawBig
open Go.RowKit
open Go.Proofs.Ytaiimjbdhcjobaa.Num Go.Proofs.Ytaiimjbdhcjobaa.Row Go.Proofs.Ytaiimjbdhcjobaa.Cur Go.Proofs.Ytaiimjbdhcjobaa.Draw Go.Proofs.Ytaiimjbdhcjobaa.Pick Go.Proofs.Ytaiimjbdhcjobaa.IntRow Go.Proofs.Ytaiimjbdhcjobaa.IntLaw
set_option linter.unusedVariables false

section
variable {P : Program}
/-- 'append(v, z)' as one step of a region that draws its order. -/
theorem step_int {ops : Array Oper} {o : Oper} {a : Act} {K : Act → World → Prop} {Q : Exit → Act → World → Prop} {E : Prop} (hgd : o.guard = none) (s x : Operand) (t : TypeId)
    (ho : o.op = .call { callee := .builtin .append, args := #[s, x], argTypes := #[t, t] })
    (base : Nat) (e : TypeId) (i : TypeInfo) (ht : P.underlying t = some (.slice e)) (hi : P.info? e = some i) (hz : i.zero = some (.int .i64 0))
    (hsize : i.size = 1) (hby : i.bytes = 8) (wr : World) (v : Value) (l : List Int) (z : Int) (hown : Own wr base e v l) (hs : a.eval s = v) (hbase : base ≤ wr.heap.size)
    (hx : a.eval x = .slice (some ⟨wr.heap.size, 0, none⟩) 1 1) (hlen : l.length ≤ 8796093022208)
    (h : ∀ v' w', Own w' base e v' (l ++ [z]) → wr.grownBy w' v.ownBlock → K (a.put o.dst v') w') :
    if Region.wanted o (yielded ops a.tmps) = true then Oper.wp P o a (wr.alloc (.cells #[.int .i64 z] e)) K Q else E := by
  have hw : Region.wanted o (yielded ops a.tmps) = true := by simp [Region.wanted, hgd]
  rw [if_pos hw]
  refine wp_append_own _ s x t ho base e i (.int .i64 0) 1 8 ht hi hz hsize hby rfl (by decide) v l.length (ic l) hs (hown.alloc _) ⟨wr.heap.size, 0, none⟩ 1 1 (ic [z]) hx rfl ?_ ?_ ?_ ?_ ?_ ?_
  · intro j u hj
    match j, hj with
    | 0, hj => simp [ic] at hj; subst hj; simp [Addr.add]
    | j + 1, hj => simp [ic] at hj
  · intro u hu; simp [ic] at hu; subst hu; rfl
  · unfold maxLen; omega
  · omega
  · simp; omega
  · intro v' w' hown' hgrow _
    refine h v' w' ?_ ?_
    · unfold Own
      rw [ic_append]
      simpa using hown'
    · exact ⟨hgrow.os, hgrow.tape, hgrow.output, by have := hgrow.size; simp at this; omega, fun k hk hne => (hgrow.block k (by simp; omega) hne).trans (Below.heap_alloc _ _ _ hk)⟩
end

/-- A small draw: some number below n; the cursor moved. -/
def Drew (c : Nat) (sv : Value) (l : List UInt8) (n : Int) (w : World) (e : Ending) (w' : World) : Prop :=
  ∃ (x : Nat) (s : St), e = .returned (.int .i64 x) ∧ (x : Int) < n ∧ Cu w' c sv l s ∧ w.grownBy w' (some c)
theorem below_pos (c : Nat) (n : Int) (sv : Value) (l : List UInt8) (s : St) (w : World) (hc : Cu w c sv l s) (h0 : 1 ≤ n) (hn : n ≤ 256) :
    Calls Try.prog 89 #[.pointer (some ⟨c, 0, none⟩), .int .i64 n] w (Drew c sv l n w) := by
  have hbd := belowF_bounds l n s h0
  refine (below_any c n sv l s w hc (by omega)).mono ?_
  rintro e w' ⟨he, h1, h2⟩
  generalize belowF l n s = r at hbd he h1
  obtain ⟨x, s1⟩ := r
  obtain ⟨x0, x1⟩ := hbd
  simp only at *
  obtain ⟨m, rfl⟩ := Int.eq_ofNat_of_zero_le x0
  exact ⟨m, s1, he, x1, h1, h2⟩
def Tossed (c : Nat) (sv : Value) (l : List UInt8) (w : World) (e : Ending) (w' : World) : Prop :=
  ∃ (b : Bool) (s : St), e = .returned (.bool b) ∧ Cu w' c sv l s ∧ w.grownBy w' (some c)
theorem toss (c : Nat) (n : Int) (sv : Value) (l : List UInt8) (s : St) (w : World) (hc : Cu w c sv l s) (hn : n ≤ 256) :
    Calls Try.prog 142 #[.pointer (some ⟨c, 0, none⟩), .int .i64 n] w (Tossed c sv l w) :=
  (once_any c n sv l s w hc (by omega)).mono fun e w' ⟨he, h1, h2⟩ => ⟨_, _, he, h1, h2⟩

/-- Some big integer in a row of the call's own; the cursor moved; nothing else of what was there is turned. -/
def BigAt (c : Nat) (sv : Value) (l : List UInt8) (w : World) (e : Ending) (w' : World) : Prop :=
  ∃ (xs : List Int) (a : Option Addr) (cap : Nat) (s : St), e = .returned (.agg #[.slice a xs.length cap]) ∧ xs.length ≤ 100 ∧ Own w' w.heap.size 3 (.slice a xs.length cap) xs ∧ Cu w' c sv l s ∧ w.grownBy w' (some c)

theorem cu_one {w : World} {c b : Nat} {sv : Value} {l : List UInt8} {s : St} (hc : Cu w c sv l s) (hb : c < b) (u : Value) : Cu (w.setCell ⟨b, 0, none⟩ u) c sv l s :=
  hc.below (B := c + 1) ((Below.refl _ _).setCell (p := ⟨b, 0, none⟩) (by show c + 1 ≤ b; omega) u) (by omega)

theorem grown_fresh {w a b : World} {row row2 : Option Nat} (h : w.grownBy a row) (g : a.grownBy b row2) (hr : ∀ q, row2 = some q → w.heap.size ≤ q) : w.grownBy b row :=
  ⟨g.os.trans h.os, g.tape.trans h.tape, g.output.trans h.output, Nat.le_trans h.size g.size, fun k hk hne => (g.block k (Nat.lt_of_lt_of_le hk h.size) (fun e => by have := hr k e.symm; omega)).trans (h.block k hk hne)⟩
theorem grown_far {w a : World} {row : Option Nat} (h : w.grownBy a row) {b i : Nat} (hb : w.heap.size ≤ b) (u : Value) : w.grownBy (a.setCell ⟨b, i, none⟩ u) row :=
  ⟨h.os, h.tape, h.output, by simp; exact h.size, fun k hk hne => (Below.heap_setCell _ _ _ _ (by simp only; omega)).trans (h.block k hk hne)⟩
theorem grown_dr {w a b : World} {row : Option Nat} (h : w.grownBy a row) (g : a.drew.grownBy b row) : w.grownBy b row :=
  IntRow.grown_trans (show w.grownBy a.drew row from ⟨h.os, h.tape, h.output, h.size, h.block⟩) g
theorem cu_grown {w w' : World} {c : Nat} {sv : Value} {l : List UInt8} {s : St} {row : Option Nat} (hc : Cu w c sv l s) (hg : w.grownBy w' row) (hr : ∀ q, row = some q → c < q) : Cu w' c sv l s :=
  hc.below (B := c + 1) ((Below.refl _ _).grown hg hc.lt (fun q hq => hr q hq)) (by omega)

theorem at_grown {w w' : World} {g : Nat} {e : TypeId} {cap : Nat} {xs : List Int} {row : Option Nat} (h : At w g e cap xs) (hg : w.grownBy w' row) (hne : row ≠ some g) : At w' g e cap xs :=
  Own.grown (lo := g) h hg (fun q hq e => hne (by rw [e]; exact hq.symm))

theorem cu_set {w : World} {c b i : Nat} {sv : Value} {l : List UInt8} {s : St} (hc : Cu w c sv l s) (hb : c < b) (u : Value) : Cu (w.setCell ⟨b, i, none⟩ u) c sv l s :=
  hc.below (B := c + 1) ((Below.refl _ _).setCell (p := ⟨b, i, none⟩) (by show c + 1 ≤ b; omega) u) (by omega)

theorem list_cell (zs : List Int) (j : Nat) (hj : j < zs.length) : ((zs.map (Value.int .i64)).toArray)[j]? = some (.int .i64 (zs.getD j 0)) := by
  simp [List.getD, hj]
/-- The draw out of the two numbers that are no digits: made block and all. -/
theorem pick_two (c : Nat) (sv : Value) (l : List UInt8) (s : St) (w : World) (hc : Cu w.drew c sv l s) (W : World) (hW : W = w.drew.alloc (.cells #[.int .i64 (-1), .int .i64 10] 3)) :
    Calls Try.prog 92 #[.pointer (some ⟨c, 0, none⟩), .slice (some ⟨w.heap.size, 0, none⟩) 2 2] W fun e w' => ∃ (x : Int) (s' : St), e = .returned (.int .i64 x) ∧ Cu w' c sv l s' ∧ W.grownBy w' (some c) := by
  subst hW
  have hlt : c < w.heap.size := hc.lt
  refine (pick_any c sv l s _ (hc.below (B := w.drew.heap.size) ((Below.refl w.drew.heap.size w.drew).alloc (Nat.le_refl _) _) hlt) w.heap.size 2 [-1, 10] (by decide) (by decide) (by omega) ?_).mono ?_
  · intro j hj
    refine (World.cell?_alloc_at _ _ _ _ rfl).trans ?_
    exact list_cell [-1, 10] j hj
  · rintro e w' ⟨he, h1, h2⟩
    exact ⟨_, _, he, h1, h2⟩

end Go.Proofs.Ytaiimjbdhcjobaa.DrawBig
