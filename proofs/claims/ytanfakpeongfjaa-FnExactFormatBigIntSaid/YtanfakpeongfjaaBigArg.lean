/- An argument that is a struct of one slice of ints, opened. -/
import Derived.Test.YtanfakpeongfjaaIntRow
import Derived.ProofKit
import Derived.OpenShut
import Derived.Lib.SmallJoins
namespace Go.Proofs.Ytanfakpeongfjaa.BigArg
open Go.Deep Go.Joins Go.ChangeShapes Go.WideShapes Go.ChangeAt Go.RowKit
open Go.Proofs.Ytanfakpeongfjaa.IntRow
section
variable {H : Type} {enc : TypeId × Value → H} {P : Program}

theorem array1 {α : Type} {cs : Array α} (h : cs.size = 1) : ∃ c0, cs = #[c0] := by
  obtain ⟨l⟩ := cs
  match l, h with
  | [c0], _ => exact ⟨c0, rfl⟩
theorem lt_of_cell {w : World} {b o : Nat} {v : Value} (h : w.cell? ⟨b, o, none⟩ = some v) : b < w.heap.size := by
  rcases Nat.lt_or_ge b w.heap.size with h1 | h1
  · exact h1
  · simp [World.cell?, Array.getElem?_eq_none h1] at h

theorem open_big {W : World} {t e : TypeId} {f0 : Field} {v : Value} {d : DataW H} {p : List MemPlace} (ht : P.underlying t = some (.struct #[f0])) (ho : f0.offset = 0) (hC : P.cellsOf t = 1) (hs : P.underlying f0.type = some (.slice e)) (hcf : P.cellsOf f0.type = 1)
    (he : P.underlying e = some (.int .i64)) (hc : P.cellsOf e = 1) (hv : Value.okWide P W .any 0 t v) (h : DataW.Trod enc P W 0 (fun _ => true) true t v d p) :
    ∃ (a : Option Addr) (n cap : Nat), v = .agg #[.slice a n cap] ∧ n ≤ 9223372036854775807 ∧ ∃ xs : List Int, xs.length = n ∧ Rd W W.heap.size a xs := by
  obtain ⟨cs, rfl, hsz⟩ := okWide_struct ht hv
  obtain ⟨c0, rfl⟩ := array1 (hsz.trans hC)
  obtain ⟨fuel, hf⟩ := h
  obtain ⟨xs, n, _, _, _, hlen, hff⟩ := DataW.trod_struct ht hf
  match xs, hlen with
  | [y0], _ =>
    have h0 := hff 0 f0 rfl
    rw [ho, hcf] at h0
    simp only [Value.cells, List.drop_zero] at h0
    rcases open_ints (k := .i64) hs he hc (by simpa using h0) with ⟨hcs, hx⟩ | ⟨a, len', cap', zs, hcs, _, hl, hm, hz, hx, hcell, hwz⟩
    · simp only [List.cons.injEq, and_true] at hcs
      subst hcs
      exact ⟨none, 0, 0, rfl, by omega, [], rfl, Rd.nil _ _ _⟩
    · simp only [List.cons.injEq, and_true] at hcs
      subst hcs
      simp only [if_true] at hz
      refine ⟨_, _, _, rfl, by unfold maxLen at hm; omega, zs.take len', by simp; omega, fun hp => ?_⟩
      have hp' : 0 < len' := by simp at hp; omega
      obtain ⟨b, off, rfl, hat⟩ := ints_at hcell (by omega)
      refine ⟨b, off, rfl, lt_of_cell (hat 0 (by omega)), fun j hj => ?_⟩
      have hj' : j < zs.length := by simp at hj; omega
      rw [hat j hj', List.getElem_take, List.getD_eq_getElem?_getD, List.getElem?_eq_getElem hj']
      rfl
end
end Go.Proofs.Ytanfakpeongfjaa.BigArg
