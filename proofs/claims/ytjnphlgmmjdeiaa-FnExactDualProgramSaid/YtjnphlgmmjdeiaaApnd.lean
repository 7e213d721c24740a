/- Appending whatever slice (nil, empty or not) of elements of k cells to a row that the call owns. Of no program. -/
import Derived.WalkKit
import Derived.OwnWalk
import Derived.Carry
import Derived.Laws.AppendOwn
import Derived.Laws.AppendOwnNone
namespace Go.Proofs.Ytjnphlgmmjdeiaa.Apnd
open Go.RowKit
set_option linter.unusedVariables false

/-- A slice that is read: address, length, capacity; the cells behind it. -/
structure Sc where
  a : Option Addr
  n : Nat
  c : Nat
  cs : List Value
def Sc.val (s : Sc) : Value := .slice s.a s.n s.c
def SrcOk (k : Nat) (w : World) (B : Nat) (s : Sc) : Prop :=
  s.cs.length = s.n * k ∧ (∀ u ∈ s.cs, u.oneCell' = true) ∧ ((s.a = none ∧ s.n = 0 ∧ s.c = 0) ∨ ∃ ad : Addr, s.a = some ad ∧ ∀ i u, s.cs[i]? = some u → (ad.add i).block < B ∧ w.cell? (ad.add i) = some u)
theorem SrcOk.below {k B : Nat} {w w' : World} {s : Sc} (h : SrcOk k w B s) (hb : Below B w w') : SrcOk k w' B s := by
  obtain ⟨h1, h2, h3⟩ := h
  refine ⟨h1, h2, h3.imp id ?_⟩
  rintro ⟨ad, ha, hc⟩
  exact ⟨ad, ha, fun i u hu => ⟨(hc i u hu).1, (hb.cell (p := ad.add i) (hc i u hu).1).trans (hc i u hu).2⟩⟩
theorem SrcOk.up {k B B' : Nat} {w : World} {s : Sc} (h : SrcOk k w B s) (hB : B ≤ B') : SrcOk k w B' s := by
  obtain ⟨h1, h2, h3⟩ := h
  refine ⟨h1, h2, h3.imp id ?_⟩
  rintro ⟨ad, ha, hc⟩
  exact ⟨ad, ha, fun i u hu => ⟨Nat.lt_of_lt_of_le (hc i u hu).1 hB, (hc i u hu).2⟩⟩
/-- The cells lie one behind the other in one block. -/
theorem src_at {k B b off n c : Nat} {w : World} {cs : List Value} (h1 : cs.length = n * k) (h2 : ∀ u ∈ cs, u.oneCell' = true) (hb : b < B) (hc : ∀ i u, cs[i]? = some u → w.cell? ⟨b, off + i, none⟩ = some u) : SrcOk k w B ⟨some ⟨b, off, none⟩, n, c, cs⟩ :=
  ⟨h1, h2, .inr ⟨⟨b, off, none⟩, rfl, fun i u hu => by rw [Go.WideShapes.add_plain]; exact ⟨hb, hc i u hu⟩⟩⟩
/-- An empty slice that is not nil, wherever it points. -/
theorem src_empty {k B c : Nat} {w : World} {ad : Addr} : SrcOk k w B ⟨some ad, 0, c, []⟩ := ⟨by simp, (fun u hu => by cases hu), .inr ⟨ad, rfl, fun i u hu => by simp at hu⟩⟩

def sumN (ss : List Sc) (j : Nat) : Nat := ((ss.take j).map Sc.n).sum
def flat (ss : List Sc) (j : Nat) : List Value := (ss.take j).flatMap Sc.cs
theorem sumN_step {ss : List Sc} (j : Nat) (h : j < ss.length) : sumN ss (j + 1) = sumN ss j + ss[j].n := by
  unfold sumN
  rw [List.take_succ_eq_append_getElem h]
  simp only [List.map_append, List.sum_append, List.map_cons, List.map_nil, List.sum_cons, List.sum_nil, Nat.add_zero]
theorem flat_step {ss : List Sc} (j : Nat) (h : j < ss.length) : flat ss (j + 1) = flat ss j ++ ss[j].cs := by
  unfold flat
  rw [List.take_succ_eq_append_getElem h]
  simp only [List.flatMap_append, List.flatMap_cons, List.flatMap_nil, List.append_nil]
theorem sumN_mono {ss : List Sc} {i j : Nat} (h : i ≤ j) (hj : j ≤ ss.length) : sumN ss i ≤ sumN ss j := by
  induction j with
  | zero => have : i = 0 := by omega
            subst this; exact Nat.le_refl _
  | succ j ih =>
    by_cases e : i = j + 1
    · subst e; exact Nat.le_refl _
    · have := ih (by omega) (by omega)
      rw [sumN_step j (by omega)]
      omega

theorem wpList_src {P : Program} {w : World} {ops : Array Oper} {rest : List Oper} {o : Oper} {a : Act} {Q : Exit → Act → World → Prop} (hgd : o.guard = none) (s x : Operand) (t : TypeId)
    (ho : o.op = .call { callee := .builtin .append, args := #[s, x], argTypes := #[t, t] })
    (base : Nat) (e : TypeId) (i : TypeInfo) (z : Value) (k bytes : Nat) (ht : P.underlying t = some (.slice e)) (hi : P.info? e = some i) (hz : i.zero = some z)
    (hsize : i.size = k) (hby : i.bytes = bytes) (hzs : z.cells.size = k) (hk0 : 0 < k)
    (v : Value) (n : Nat) (xs : List Value) (hs : a.eval s = v) (hown : w.ownsRow base e k v n xs)
    (sc : Sc) (B : Nat) (hsrc : SrcOk k w B sc) (hx : a.eval x = sc.val) (hn : n + sc.n ≤ 8388608) (hb : bytes ≤ 1000) (hbase : base ≤ w.heap.size)
    (h : ∀ v' w', w'.ownsRow base e k v' (n + sc.n) (xs ++ sc.cs) → w.grownBy w' v.ownBlock → wpList P ops Q rest (a.put o.dst v') w') : wpList P ops Q (o :: rest) a w := by
  obtain ⟨sa, sn, sc, scs⟩ := sc
  obtain ⟨h1, h2, h3⟩ := hsrc
  dsimp only [Sc.val] at *
  rcases h3 with ⟨rfl, rfl, rfl⟩ | ⟨ad, rfl, hc⟩
  · have hnil : scs = [] := List.length_eq_zero_iff.1 (by simpa using h1)
    subst hnil
    refine wpList_append_own_none hgd s x t ho base e i k ht hi v n xs hs hown hx ?_
    exact h v w (by simpa using hown) ⟨rfl, rfl, rfl, Nat.le_refl _, fun _ _ _ => rfl⟩
  · refine wpList_append_own w hgd s x t ho base e i z k bytes ht hi hz hsize hby hzs hk0 v n xs hs hown ad sn sc scs hx h1 (fun j u hu => (hc j u hu).2) h2 (by unfold maxLen; omega) ?_ hbase fun v' w' a1 a2 _ => h v' w' a1 a2
    have : (n + sn) * bytes ≤ 8388608 * 1000 := Nat.mul_le_mul hn hb
    omega
end Go.Proofs.Ytjnphlgmmjdeiaa.Apnd
