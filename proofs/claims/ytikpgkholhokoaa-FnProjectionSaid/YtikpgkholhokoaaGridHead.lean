/- A row's header put behind a grid's, in a plain region (no program in sight). -/
import Derived.Test.YtikpgkholhokoaaGridApp
namespace Go.Proofs.Ytikpgkholhokoaa.GridHead
open Go.RowKit
open Go.Proofs.Ytikpgkholhokoaa.IntRow Go.Proofs.Ytikpgkholhokoaa.Grid Go.Proofs.Ytikpgkholhokoaa.GridMore Go.Proofs.Ytikpgkholhokoaa.RelKit Go.Proofs.Ytikpgkholhokoaa.GridApp
set_option linter.unusedVariables false
section
variable {P : Program}
/-- 'append(rows, row)', the row's header alone behind: a grid of the call's own with a row more. -/
theorem wpList_head {ops : Array Oper} {rest : List Oper} {o : Oper} {a : Act} {Q : Exit → Act → World → Prop} (hgd : o.guard = none) (s x : Operand) (t : TypeId)
    (ho : o.op = .call { callee := .builtin .append, args := #[s, x], argTypes := #[t, t] })
    (eR eI : TypeId) (hne : eR ≠ eI) (i : TypeInfo) (ht : P.underlying t = some (.slice eR)) (hi : P.info? eR = some i) (hz : i.zero = some (.slice none 0 0)) (hsize : i.size = 1) (hby : i.bytes = 24)
    (w0 : World) (lo : Nat) (v u : Value) (vs : List Value) (xss : List (List Int)) (ys : List Int) (hs : a.eval s = v) (hg : GOwn w0 lo eR eI v vs xss) (hu : Own w0 lo eI u ys) (hf : ∀ u' ∈ vs, Far u u') (hx : a.eval x = .slice (some ⟨w0.heap.size, 0, none⟩) 1 1) (hn : xss.length ≤ 1048576) (hlo : lo ≤ w0.heap.size)
    (h : ∀ v' w', GOwn w' lo eR eI v' (vs ++ [u]) (xss ++ [ys]) → w0.grownBy w' v.ownBlock → w0.heap.size ≤ w'.heap.size → wpList P ops Q rest (a.put o.dst v') w') : wpList P ops Q (o :: rest) a (w0.alloc (.cells #[u] eR)) := by
  have hA := hg.alloc (.cells #[u] eR)
  have hu1 : u.oneCell' = true := by
    rcases hu.2 with ⟨rfl, _⟩ | ⟨g, cap, cur, rfl, _⟩ <;> rfl
  refine wpList_append_own _ hgd s x t ho lo eR i (.slice none 0 0) 1 24 ht hi hz hsize hby rfl (by decide) v xss.length vs hs hA.row ⟨w0.heap.size, 0, none⟩ 1 1 [u] hx rfl ?_ (by simpa using hu1) (by unfold maxLen; omega) (by omega) (by simp; omega) ?_
  · intro j u' hj
    match j, hj with
    | 0, hj => simp at hj; subst hj; simp [Addr.add]
  · intro v' w' hown hgr _
    have hz0 := hgr.size
    simp only [World.size_alloc] at hz0
    refine h v' w' (gown_appended hA hne (hu.alloc _) hf hown hgr) ?_ (by omega)
    refine ⟨hgr.os, hgr.tape, hgr.output, by omega, fun k hk hr => ?_⟩
    rw [hgr.block k (by simp; omega) hr, Below.heap_alloc _ _ _ hk]
end
end Go.Proofs.Ytikpgkholhokoaa.GridHead
